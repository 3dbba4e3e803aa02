/-
  What the statements' own helpers made and pick come to.
  Conditions: at most 100 cells; 1 to 8 threads.
-/
import Derived.Test.YtdkableaooaebaaDoorMicBlk
import Derived.Test.YtdkableaooaebaaDoorNums
import Derived.LoopTactic
namespace Go.Proofs.YtdkableaooaebaaDoor
open Go.RowKit
set_option linter.unusedVariables false

def pickF (c n : Int) : Int := (if c < 0 then -(c + 1) else c) % n
theorem pickF_in (c n : Int) (hn : 1 ≤ n) : 0 ≤ pickF c n ∧ pickF c n < n := by
  unfold pickF; exact ⟨Int.emod_nonneg _ (by omega), Int.emod_lt_of_pos _ (by omega)⟩
theorem pick_any (c n : Int) (w : World) (h1 : -9223372036854775808 ≤ c) (h2 : c ≤ 9223372036854775807) (hn : 1 ≤ n) (hn2 : n ≤ 9223372036854775807) :
    Calls Tryd.prog 10 #[.int .i64 c, .int .i64 n] w fun e w' => e = .returned (.int .i64 (pickF c n)) ∧ w = w' := by
  by_cases h : c < 0
  · have h3 : 0 ≤ -(c + 1) := by omega
    have hh : pickF c n = -((c + 1).tmod n) := by unfold pickF; rw [if_pos h, ← Int.tmod_eq_emod_of_nonneg h3, Int.neg_tmod]
    have HH := Lib.hid hh; clear hh
    go_enter Tryd.func10, Tryd.ntmps10
    go_wp2
    go_ret
    exact ⟨by rw [HH.out]; try rfl, rfl⟩
  · have h3 : 0 ≤ c := by omega
    have hh : pickF c n = c % n := by unfold pickF; rw [if_neg h]
    have HH := Lib.hid hh; clear hh
    go_enter Tryd.func10, Tryd.ntmps10
    go_wp2
    go_ret
    exact ⟨by rw [HH.out]; try rfl, rfl⟩

/-- An arena of at most 4096 cells beside a table, made since W. -/
structure Sys (W : Nat) (w : World) (ab tb tg tc : Nat) (og : Option Nat) (zs : List Int) (ps : List Pk) : Prop where
  ar : Arena w ab og 4096 zs
  tab : Tab w tb tg tc 0 ps
  far : ∀ g, Foot ab og g → g ≠ tb ∧ g ≠ tg
  new : ∀ g, Base ab tb tg og g → W ≤ g
section
variable {W : Nat} {w w' : World} {ab tb tg tc : Nat} {og : Option Nat} {zs : List Int} {ps : List Pk} {S : Nat → Prop}
theorem Sys.lt (h : Sys W w ab tb tg tc og zs ps) : ∀ g, Base ab tb tg og g → g < w.heap.size := by
  rintro g ((rfl | hg) | rfl | rfl)
  · exact h.ar.lt
  · exact (h.ar.rowLt g hg).1
  · exact h.tab.lt.1
  · exact h.tab.lt.2
theorem Sys.kept (h : Sys W w ab tb tg tc og zs ps) (hk : Kept S w w') (hS : ∀ g, Base ab tb tg og g → ¬ S g) : Sys W w' ab tb tg tc og zs ps :=
  ⟨h.ar.kept hk (hS _ (.inl (.inl rfl))) (fun g hg => hS _ (.inl (.inr hg))), h.tab.kept hk (hS _ (.inr (.inl rfl))) (hS _ (.inr (.inr rfl))), h.far, h.new⟩
theorem Sys.kept0 (h : Sys W w ab tb tg tc og zs ps) (hk : Kept (fun _ => False) w w') : Sys W w' ab tb tg tc og zs ps := h.kept hk (fun _ _ f => f)
theorem Sys.alloced {zs' : List Int} (h : Sys W w ab tb tg tc og zs ps) (hW : W ≤ w.heap.size) (ha : Alloced w ab og 4096 zs' w') : (∃ og', Sys W w' ab tb tg tc og' zs' ps) ∧ ∀ w0, w0.heap.size ≤ W → Kept (fun _ => False) w0 w → Kept (fun _ => False) w0 w' := by
  obtain ⟨og', hA, hk, ho⟩ := ha
  have hn := h.new
  refine ⟨⟨og', hA, h.tab.kept hk (fun e => (h.far _ e).1 rfl) (fun e => (h.far _ e).2 rfl), ?_, ?_⟩, fun w0 h0 k0 => k0.trans hk (fun i hi hf => ?_)⟩
  · rintro g (rfl | hg)
    · exact h.far _ (.inl rfl)
    · rcases ho with e | ⟨g', e, hg'⟩
      · exact h.far _ (.inr (by rw [← e]; exact hg))
      · rw [e] at hg
        obtain rfl := Option.some.inj hg
        have := h.tab.lt
        exact ⟨by omega, by omega⟩
  · rintro g ((rfl | hg) | hg)
    · exact hn _ (.inl (.inl rfl))
    · rcases ho with e | ⟨g', e, hg'⟩
      · exact hn _ (.inl (.inr (by rw [← e]; exact hg)))
      · rw [e] at hg
        obtain rfl := Option.some.inj hg
        omega
    · exact hn _ (.inr hg)
  · have := hn i (.inl hf); omega
theorem Sys.stored {zs' : List Int} (h : Sys W w ab tb tg tc og zs ps) (ha : Stored w ab og 4096 zs' w') : Sys W w' ab tb tg tc og zs' ps ∧ ∀ w0, w0.heap.size ≤ W → Kept (fun _ => False) w0 w → Kept (fun _ => False) w0 w' :=
  ⟨⟨ha.1, h.tab.kept ha.2 (fun e => (h.far _ (.inr e)).1 rfl) (fun e => (h.far _ (.inr e)).2 rfl), h.far, h.new⟩, fun w0 h0 k0 => k0.trans ha.2 (fun i hi hf => by have := h.new i (.inl (.inr hf)); omega)⟩
end

/-- What made leaves. -/
def MadeTo (w : World) (zs : List Int) (n : Nat) (e : Ending) (w' : World) : Prop :=
  ∃ ab tb tg tc og, e = .returned (.tuple #[.pointer (some ⟨ab, 0, none⟩), .pointer (some ⟨tb, 0, none⟩)]) ∧ Sys w.heap.size w' ab tb tg tc og zs (List.replicate n Pk.zero) ∧ Kept (fun _ => False) w w'

/-- Some cells are stored already, the others are 0. -/
def partZ (zs : List Int) (k : Nat) : List Int := zs.take k ++ List.replicate (zs.length - k) 0
theorem partZ_0 (zs : List Int) : partZ zs 0 = List.replicate zs.length 0 := by simp [partZ]
theorem partZ_len (zs : List Int) (k : Nat) (h : k ≤ zs.length) : (partZ zs k).length = zs.length := by simp [partZ]; omega
theorem partZ_all (zs : List Int) : partZ zs zs.length = zs := by simp [partZ]
theorem partZ_next (zs : List Int) (k : Nat) (x : Int) (hx : zs[k]? = some x) : (partZ zs k).set k x = partZ zs (k + 1) := by
  obtain ⟨hk, e⟩ := List.getElem?_eq_some_iff.1 hx
  unfold partZ
  have ht : (zs.take k).length = k := by rw [List.length_take]; omega
  rw [List.set_append_right _ _ (by omega), ht, Nat.sub_self, show zs.length - k = (zs.length - (k + 1)) + 1 by omega, List.replicate_succ, List.set_cons_zero, List.take_succ_eq_append_getElem hk, e, List.append_assoc]
  rfl

theorem new_sys {w w2 : World} {b g n : Nat} (h1 : w.heap.size + 1 ≤ b) (h2 : w.heap.size + 1 ≤ g) (ht : Tab w2 b g n 0 (List.replicate n Pk.zero)) (hk : Kept (fun _ => False) (w.alloc (.cells #[.int .i64 4096, .slice none 0 0] 62)) w2) :
    Sys w.heap.size w2 w.heap.size b g n none [] (List.replicate n Pk.zero) ∧ Kept (fun _ => False) w w2 := by
  refine ⟨⟨(Arena.made w 4096).kept hk (fun f => f) (fun _ _ f => f), ht, ?_, ?_⟩, ((Kept.refl _ w).alloc _).trans hk (fun _ _ f => f)⟩
  · rintro g' (rfl | hg)
    · exact ⟨by omega, by omega⟩
    · cases hg
  · rintro g' ((rfl | hg) | rfl | rfl)
    · exact Nat.le_refl _
    · cases hg
    · omega
    · omega

set_option maxHeartbeats 2000000 in
set_option maxRecDepth 100000 in
theorem made_any {w : World} {so : Option Addr} {cap : Nat} (zs : List Int) (n : Nat) (hz : Nums w w.heap.size so zs) (hl : zs.length ≤ 100) (h1 : 1 ≤ n) (h8 : n ≤ 8) :
    Calls Tryd.prog 8 #[.slice so zs.length cap, .int .i64 n] w (MadeTo w zs n) := by
  have hsz : (w.alloc (.cells #[.int .i64 4096, .slice none 0 0] 62)).heap.size = w.heap.size + 1 := Array.size_push ..
  have HN := Lib.hid (tab_new n (w.alloc (.cells #[.int .i64 4096, .slice none 0 0] 62)) h1 h8)
  have HZ := Lib.hid hz; clear hz
  have HW : Hid (∀ b g w2, w.heap.size + 1 ≤ b → w.heap.size + 1 ≤ g → Tab w2 b g n 0 (List.replicate n Pk.zero) → Kept (fun _ => False) (w.alloc (.cells #[.int .i64 4096, .slice none 0 0] 62)) w2 → Sys w.heap.size w2 w.heap.size b g n none [] (List.replicate n Pk.zero) ∧ Kept (fun _ => False) w w2) := Lib.hid (fun b g w2 h1 h2 h3 h4 => new_sys h1 h2 h3 h4)
  have HF : Hid (∀ ab tb tg tc og w', Sys w.heap.size w' ab tb tg tc og zs (List.replicate n Pk.zero) → Kept (fun _ => False) w w' → MadeTo w zs n (.returned (.tuple #[.pointer (some ⟨ab, 0, none⟩), .pointer (some ⟨tb, 0, none⟩)])) w') := Lib.hid (fun ab tb tg tc og w' hs hk => ⟨ab, tb, tg, tc, og, rfl, hs, hk⟩)
  have HS0 := Lib.hid hsz; clear hsz
  go_enter Tryd.func8, Tryd.ntmps8
  go_wp2_with fail
  refine (new_in 4096 w (by omega) (by omega)).mono ?_
  rintro e w1 ⟨rfl, rfl⟩
  go_wp2_with fail
  refine (HN.out).mono ?_
  rintro e w2 ⟨b, g, rfl, hb, hg, hT, hk2⟩
  have hs2 := hk2.size
  rw [HS0.out] at hb hg hs2
  obtain ⟨hS, hK⟩ := HW.out _ _ _ hb hg hT hk2
  have HS := Lib.hid hS
  have HK := Lib.hid hK
  clear hT hk2 hS hK HN HW HS0
  by_cases h0 : zs.length = 0
  · obtain rfl : zs = [] := List.eq_nil_of_length_eq_zero h0
    clear h0 hl
    go_wp2_with fail
    go_loopw [12] (fun i wr => i = .int .i64 0 ∧ wr = w2) (fun _ _ => 0)
    case atStart => exact ⟨rfl, rfl⟩
    case round =>
      obtain ⟨rfl, rfl⟩ := hrel
      go_wp2_with fail
      go_ret2
      exact HF.out _ _ _ _ _ _ HS.out HK.out
  · have hlp : (0 : Int) < (zs.length : Int) := by omega
    have HA := Lib.hid (alloc_in (zs.length : Int) w2 HS.out.ar (by omega) (by omega) (by omega) (by show (zs.length : Int) ≤ 4096 - (0 : Nat); omega))
    clear h0
    go_wp2_with fail
    refine (HA.out).mono ?_
    rintro e w3 ⟨rfl, ha⟩
    rw [Int.toNat_natCast, List.nil_append] at ha
    obtain ⟨⟨og, hS3⟩, hK3⟩ := HS.out.alloced (by omega) ha
    have HK3 := Lib.hid (hK3 w (Nat.le_refl _) HK.out)
    rw [← partZ_0] at hS3
    have HS3 := Lib.hid hS3
    clear ha hS3 hK3 HS HK HA
    go_wp2_with fail
    go_loopw [12, 13] (fun i u wr => ∃ k : Nat, i = .int .i64 k ∧ k ≤ zs.length ∧ Sys w.heap.size wr w.heap.size b g n og (partZ zs k) (List.replicate n Pk.zero) ∧ Kept (fun _ => False) w wr) (fun i _ _ => zs.length - (intOf i).toNat)
    case atStart => exact ⟨0, rfl, by omega, HS3.out, HK3.out⟩
    case round =>
      clear HS3 HK3
      obtain ⟨k, rfl, hk1, hs, hk⟩ := hrel
      have HS := Lib.hid hs
      have HK := Lib.hid hk
      clear hs hk
      by_cases hkk : k < zs.length
      · have hki : (k : Int) < (zs.length : Int) := by omega
        obtain ⟨x, hx⟩ : ∃ x, zs[k]? = some x := ⟨_, List.getElem?_eq_getElem hkk⟩
        obtain ⟨sg, off, rfl, hsg, hc⟩ := HZ.out.2 k hkk
        have hgx : zs.getD k 0 = x := by rw [List.getD_eq_getElem?_getD, hx]; rfl
        have hc' := (HK.out.cell (p := ⟨sg, off + k, none⟩) hsg (fun f => f)).trans hc
        have hP := partZ_next zs k x hx
        have HP := Lib.hid hP
        have HST := Lib.hid (store_in ((k : Int) + 1) x wr HS.out.ar (by omega) (by rw [partZ_len _ _ hk1]; omega))
        rw [hgx] at hc'
        have HXX := Lib.hid hx
        clear hP hc hgx hx
        go_wp2_with fail
        refine HST.out.mono ?_
        rintro e w4 ⟨rfl, hs4⟩
        rw [show ((k : Int) + 1).toNat - 1 = k by omega, HP.out] at hs4
        obtain ⟨hS4, hK4⟩ := HS.out.stored hs4
        have HS4 := Lib.hid hS4
        have HK4 := Lib.hid (hK4 w (Nat.le_refl _) HK.out)
        clear hs4 hS4 hK4 HST HS HK hc'
        go_wp2_with fail
        go_roundw
        case rel => first | exact ⟨k + 1, by go_num, by omega, HS4.out, HK4.out⟩ | exact ⟨_, _, ⟨k + 1, by go_num, by omega, HS4.out, HK4.out⟩, rfl⟩ | exact ⟨_, ⟨k + 1, by go_num, by omega, HS4.out, HK4.out⟩, rfl⟩
        case measure => simp [intOf]; omega
      · obtain rfl : k = zs.length := by omega
        rw [partZ_all] at HS
        clear hkk hk1
        go_wp2_with fail
        go_ret2
        exact HF.out _ _ _ _ _ _ HS.out HK.out

end Go.Proofs.YtdkableaooaebaaDoor
