/-
  What the document's Find of layer 12 comes to.
  Conditions: the labels are at most maxLen.
  What the document's Alone of layer 12 comes to, where the thread's code ends without waiting.
  Conditions: the world lies in memory; the code, of instructions alone, lies in a block that isn't the world's; the thread is there.
-/
import Derived.Test.YtofnomkedpagfaaAsmMem
import Derived.Test.YtofnomkedpagfaaMachStep
section
namespace Go.Proofs.Ytofnomkedpagfaa
open Go.RowKit

set_option maxHeartbeats 2000000 in
theorem find12_any (l : Labs) (sl : Option Addr) (cap B : Nat) (name : ByteArray) (w : World) (hE : Elems w B sl 2 labC l) {n : Nat} (hn : l.length = n) :
    Calls Try.prog 24 #[.slice sl n cap, .string name] w fun e w' => e = .returned (.int .i64 (placeA l (bytesS name))) ∧ w' = w := by
  have HE := Lib.hid hE
  have HM : Hid (n ≤ maxLen) := Lib.hid (by rw [← hn]; exact hE.1)
  have hn63 : (n : Int) ≤ 9223372036854775807 := by have := HM.out; unfold maxLen at this; omega
  have HN := Lib.hid hn
  clear hE hn
  go_enter Try.func24, Try.ntmps24
  go_wp2_with fail
  go_loop [5] (fun i => ∃ k : Nat, i = .int .i64 k ∧ k ≤ n ∧ ∀ j q, j < k → l[j]? = some q → q.1 ≠ bytesS name) (fun i => n - (intOf i).toNat)
  case atStart => exact ⟨0, rfl, by omega, fun j q h => by omega⟩
  case round =>
    obtain ⟨k, rfl, hk, hno⟩ := hrel
    have HNO := Lib.hid hno
    clear hno
    by_cases hkn : k < n
    case neg =>
      obtain rfl : k = n := by omega
      have HR : Hid (placeA l (bytesS name) = -1) := Lib.hid (find_no (fun j q h => HNO.out j q (by rw [← HN.out]; exact h)))
      go_wp2_with fail
      go_ret
      exact ⟨by rw [HR.out]; rfl, rfl⟩
    obtain ⟨p, hp⟩ : ∃ p, l[k]? = some p := ⟨_, List.getElem?_eq_getElem (by rw [HN.out]; exact hkn)⟩
    obtain ⟨g, off, rfl, hg, hc⟩ := HE.out.2 k p hp
    have x0 : w.cell? ⟨g, off + k * 2, none⟩ = some (.string (strS p.1)) := hc 0 _ rfl
    have x1 : w.cell? ⟨g, off + k * 2 + 1, none⟩ = some (.int .i64 p.2) := hc 1 _ rfl
    have hst := str_eq (strS p.1) (bytesS name)
    rw [strS_bytes, bytesS_str] at hst
    have HP := Lib.hid hp
    clear hc hp
    by_cases hq : p.1 = bytesS name
    · rw [decide_eq_true hq] at hst
      have HR : Hid (placeA l (bytesS name) = p.2) := Lib.hid (find_at HP.out hq HNO.out)
      clear hq
      go_wp2_with fail
      go_ret
      exact ⟨by rw [HR.out]; rfl, rfl⟩
    · rw [decide_eq_false hq] at hst
      have HR : Hid (∀ j q, j < k + 1 → l[j]? = some q → q.1 ≠ bytesS name) := Lib.hid (fun j q h1 h2 => by
        rcases Nat.lt_or_ge j k with h | h
        · exact HNO.out j q h h2
        · obtain rfl : j = k := by omega
          rw [HP.out] at h2
          obtain rfl := Option.some.inj h2
          exact hq)
      clear hq
      go_wp2_with fail
      go_round
      case rel => exact ⟨k + 1, by go_num, by omega, HR.out⟩
      case measure => simp [intOf]; omega

end Go.Proofs.Ytofnomkedpagfaa
end
section
namespace Go.Proofs.Ytofnomkedpagfaa
open Go.RowKit
set_option linter.unusedVariables false
set_option linter.unusedSimpArgs false

/-- The first frame, when so many registers are laid. -/
def startFr (pc : Int) (rs : List Int) (i : Nat) : Fr := ⟨pc, fun k => if k < i then rs.getD k 0 else 0⟩
theorem start_zero (pc : Int) (rs : List Int) : startFr pc rs 0 = ⟨pc, fun _ => 0⟩ := by unfold startFr; simp
theorem start_next (pc : Int) (rs : List Int) (i : Nat) : (startFr pc rs i).put i (rs.getD i 0) = startFr pc rs (i + 1) := by
  unfold startFr Fr.put upd
  simp only [Fr.mk.injEq, true_and]
  funext k
  by_cases h : k = i
  · subst h; rw [if_pos rfl, if_pos (Nat.lt_succ_self _)]
  · rw [if_neg h]
    by_cases h2 : k < i
    · rw [if_pos h2, if_pos (by omega)]
    · rw [if_neg h2, if_neg (by omega)]

theorem row_cells {w : World} {v : Nat} {f : Fr} (h : Row w v 1 72 17 Fr.cells [f]) : w.cell? ⟨v, 0, none⟩ = some (.int .i64 f.pc) ∧ w.cell? ⟨v, 1, none⟩ = some (.int .i64 (f.r 0)) ∧ w.cell? ⟨v, 2, none⟩ = some (.int .i64 (f.r 1)) ∧ w.cell? ⟨v, 3, none⟩ = some (.int .i64 (f.r 2)) ∧ w.cell? ⟨v, 4, none⟩ = some (.int .i64 (f.r 3)) ∧ w.cell? ⟨v, 5, none⟩ = some (.int .i64 (f.r 4)) ∧ w.cell? ⟨v, 6, none⟩ = some (.int .i64 (f.r 5)) ∧ w.cell? ⟨v, 7, none⟩ = some (.int .i64 (f.r 6)) ∧ w.cell? ⟨v, 8, none⟩ = some (.int .i64 (f.r 7)) ∧ w.cell? ⟨v, 9, none⟩ = some (.int .i64 (f.r 8)) ∧ w.cell? ⟨v, 10, none⟩ = some (.int .i64 (f.r 9)) ∧ w.cell? ⟨v, 11, none⟩ = some (.int .i64 (f.r 10)) ∧ w.cell? ⟨v, 12, none⟩ = some (.int .i64 (f.r 11)) ∧ w.cell? ⟨v, 13, none⟩ = some (.int .i64 (f.r 12)) ∧ w.cell? ⟨v, 14, none⟩ = some (.int .i64 (f.r 13)) ∧ w.cell? ⟨v, 15, none⟩ = some (.int .i64 (f.r 14)) ∧ w.cell? ⟨v, 16, none⟩ = some (.int .i64 (f.r 15)) := by
  have h0 : w.cell? ⟨v, 0, none⟩ = some (.int .i64 f.pc) := by
    have := h.cell Fr.len (i := 0) (x := f) rfl (j := 0) (v := .int .i64 f.pc) rfl
    simpa using this
  have hr : ∀ j, j < 16 → w.cell? ⟨v, j + 1, none⟩ = some (.int .i64 (f.r j)) := fun j hj => by
    have := h.cell Fr.len (i := 0) (x := f) rfl (f.at_r hj)
    rwa [Nat.zero_mul, Nat.zero_add] at this
  exact ⟨h0, hr 0 (by decide), hr 1 (by decide), hr 2 (by decide), hr 3 (by decide), hr 4 (by decide), hr 5 (by decide), hr 6 (by decide), hr 7 (by decide), hr 8 (by decide), hr 9 (by decide), hr 10 (by decide), hr 11 (by decide), hr 12 (by decide), hr 13 (by decide), hr 14 (by decide), hr 15 (by decide)⟩
/-- What Alone leaves. -/
def AloneTo (P : Wp) (og : Nat) (w : World) (r : Int × List Nt × Ms) (e : Ending) (w' : World) : Prop :=
  ∃ nv og' oc', e = .returned (.tuple #[.int .i64 r.1, nv, .bool true]) ∧ RW P og' oc' r.2.2.zs r.2.2.ps w' ∧ (og' = og ∨ w.heap.size ≤ og') ∧ Kept (P.foot og) w w' ∧
    w'.ownsRow w.heap.size 77 2 nv r.2.1.length (flat Nt.cells r.2.1) ∧ ∀ g, nv.ownBlock = some g → ¬ P.foot og' g

/-- How it stands between steps. -/
structure StA (w : World) (P : Wp) (og0 og oc fg : Nat) (nv : Value) (acc : List Nt) (u : Ms) (wr : World) : Prop where
  rw : RW P og oc u.zs u.ps wr
  fr : Elems wr wr.heap.size (some ⟨fg, 0, none⟩) 17 Fr.cells (u.bs ++ [u.f])
  nt : wr.ownsRow w.heap.size 77 2 nv acc.length (flat Nt.cells acc)
  no : og = og0 ∨ w.heap.size ≤ og
  d : ∀ g, nv.ownBlock = some g → ¬ P.foot og g
  k : Kept (P.foot og0) w wr
  low : ∀ q, P.foot og0 q → q < w.heap.size
theorem code_on {w wr : World} {P : Wp} {og0 og : Nat} {so : Option Addr} {code : List Ix} (T : Through so code P og0 w) (hk : Kept (P.foot og0) w wr) (hno : og = og0 ∨ w.heap.size ≤ og) : Through so code P og wr :=
  ⟨T.cd.kept hk (fun _ _ h => h) (fun g hg hq => by
    rcases hq with e | e | e | e
    · exact .inl e
    · rcases hno with h | h
      · exact .inr (.inl (by rw [← h]; exact e))
      · omega
    · exact .inr (.inr (.inl e))
    · exact .inr (.inr (.inr e))), T.all⟩
theorem foot_next {w : World} {P : Wp} {og og2 : Nat} (h : og2 = og ∨ w.heap.size ≤ og2) {g : Nat} (hg : g < w.heap.size) (hn : ¬ P.foot og g) : ¬ P.foot og2 g := fun hq => by
  rcases hq with e | e | e | e
  · exact hn (.inl e)
  · rcases h with h | h
    · exact hn (.inr (.inl (by rw [← h]; exact e)))
    · omega
  · exact hn (.inr (.inr (.inl e)))
  · exact hn (.inr (.inr (.inr e)))
theorem stA_next {w wr w2 w3 : World} {P : Wp} {og0 og oc fg fg2 fc2 og2 oc2 : Nat} {nv nv2 v3 : Value} {acc : List Nt} {u u2 : Ms} (h : StA w P og0 og oc fg nv acc u wr) (h2 : StIn wr P og og2 oc2 fg2 fc2 nv2 u2 w2)
    (h3 : w3.ownsRow w.heap.size 77 2 v3 (acc.length + u2.ns.length) (flat Nt.cells acc ++ flat Nt.cells u2.ns)) (hg : w2.grownBy w3 nv.ownBlock) (hv : v3.ownBlock = nv.ownBlock ∨ v3.ownBlock = some w2.heap.size) (hb : u2.bs.length ≤ 15) :
    StA w P og0 og2 oc2 fg2 v3 (acc ++ u2.ns) u2 w3 := by
  have hk3 : Kept (fun g => nv.ownBlock = some g) w2 w3 := (Kept.refl _ w2).grown hg (fun g _ e => e)
  have hs := h2.k.size
  have hnl : ∀ g, nv.ownBlock = some g → g < wr.heap.size := fun g e => (World.ownsRow.lt h.nt g e).2
  have hfn : ∀ g, nv.ownBlock = some g → ¬ P.foot og2 g := fun g e => foot_next h2.no (hnl g e) (h.d g e)
  have hsz : w.heap.size ≤ wr.heap.size := h.k.size
  refine ⟨h2.rw.kept hk3 (fun k hq e => hfn k e hq), ?_, ?_, ?_, ?_, ?_, h.low⟩
  · have hr := h2.fr.kept hk3 (fun e => by have := hnl _ e; have := h2.nf; omega)
    exact (Elems.of_row Fr.len hr (by rw [List.length_append]; simp; unfold maxLen; omega)).more hr.lt
  · rw [List.length_append, show flat Nt.cells (acc ++ u2.ns) = flat Nt.cells acc ++ flat Nt.cells u2.ns by simp [flat]]
    exact h3
  · rcases h2.no with e | e
    · rw [e]; exact h.no
    · exact .inr (by omega)
  · intro g e
    rcases hv with h' | h'
    · exact hfn g (by rw [← h']; exact e)
    · rw [h'] at e
      have := Option.some.inj e
      intro hq
      have := h2.rw.foot_lt hq
      omega
  · refine (h.k.trans h2.k (fun i hi hq => ?_)).trans hk3 (fun i hi e => ?_)
    · exact Classical.byContradiction (fun hn => (foot_next h.no hi hn) hq)
    · have := (World.ownsRow.lt h.nt i e).1; omega

section
variable {P : Wp} {og0 oc0 : Nat} {w : World} {self : Nat}
set_option maxHeartbeats 4000000 in
set_option maxRecDepth 100000 in
theorem alone_any (so : Option Addr) (cc : Nat) (code : List Ix) (lo : Option Addr) (lc ll : Nat) (labs : Labs) (entry : ByteArray) (ro : Option Addr) (rc rl : Nat) (rs : List Int) (zs : List Int) (ps : List Pk) (r : Int × List Nt × Ms) (pc : Int)
    (T : Through so code P og0 w) (hrw : RW P og0 oc0 zs ps w) (hlab : Elems w w.heap.size lo 2 labC labs) (hll : labs.length = ll) (hrs : Elems w w.heap.size ro 1 intC rs) (hrl : rs.length = rl) (hrl16 : rl ≤ 16) (hs : self < ps.length)
    (hpc : placeA labs (bytesS entry) = pc) (hr : aloneR code P.most P.now self 500 [] ⟨zs, ps, [], startFr pc rs rl, []⟩ = some r) :
    Calls Try.prog 14 #[.pointer (some ⟨P.wb, 0, none⟩), .slice so code.length cc, .slice lo ll lc, .int .i64 self, .string entry, .slice ro rl rc] w (AloneTo P og0 w r) := by
  have HFI := Lib.hid (find12_any labs lo lc w.heap.size entry w hlab hll)
  rw [hpc] at HFI
  have HT := Lib.hid T
  have HRW := Lib.hid hrw
  have HRS := Lib.hid hrs
  have HRL := Lib.hid hrl
  have HR := Lib.hid hr
  have HS := Lib.hid hs
  have hrl1 : (rl : Int) ≤ 16 := by omega
  obtain ⟨cl, hcl⟩ : ∃ cl, code.length = cl := ⟨_, rfl⟩
  rw [hcl]
  have HCL := Lib.hid hcl; clear hcl
  obtain ⟨v, hv⟩ : ∃ v, w.heap.size = v := ⟨_, rfl⟩
  have HV := Lib.hid hv
  clear T hrw hlab hll hrs hrl hpc hr hs hv
  obtain ⟨i2, hi2, hz2, hn2, hb2⟩ := info_parts info_nt
  have HI2 := Lib.hid hi2; clear hi2
  have HZ2 := Lib.hid hz2; clear hz2
  have HN2 := Lib.hid hn2; clear hn2
  have HB2 := Lib.hid hb2; clear hb2
  go_enter Try.func14, Try.ntmps14
  go_wp2_with fail
  refine HFI.out.mono ?_
  rintro e w1 ⟨rfl, rfl⟩
  go_wp2_with fail
  have HR0 : Hid (Row (w1.alloc (.cells #[.int .i64 pc, .int .i64 0, .int .i64 0, .int .i64 0, .int .i64 0, .int .i64 0, .int .i64 0, .int .i64 0, .int .i64 0, .int .i64 0, .int .i64 0, .int .i64 0, .int .i64 0, .int .i64 0, .int .i64 0, .int .i64 0, .int .i64 0] 72)) v 1 72 17 Fr.cells [startFr pc rs 0]) := Lib.hid (by
    rw [start_zero, ← HV.out]
    exact row_one Fr.cells Fr.len w1 72 ⟨pc, fun _ => 0⟩)
  rw [HV.out]
  go_loopw [16] (fun i wr => ∃ j : Nat, i = .int .i64 j ∧ j ≤ rl ∧ Row wr v 1 72 17 Fr.cells [startFr pc rs j] ∧ Kept (fun _ => False) w1 wr) (fun i _ => rl - (intOf i).toNat)
  case atStart => exact ⟨0, rfl, Nat.zero_le _, HR0.out, (Kept.refl _ w1).alloc _⟩
  case round =>
    obtain ⟨j, rfl, hj, hrow, hk⟩ := hrel
    have HROW := Lib.hid hrow
    have HK := Lib.hid hk
    clear hrow hk
    by_cases hjn : j < rl
    case neg =>
      obtain rfl : j = rl := by omega
      clear HR0 HFI
      obtain ⟨f, hf⟩ : ∃ f, startFr pc rs j = f := ⟨_, rfl⟩
      rw [hf] at HR HROW
      obtain ⟨y0, y1, y2, y3, y4, y5, y6, y7, y8, y9, y10, y11, y12, y13, y14, y15, y16⟩ := row_cells HROW.out
      clear hf
      go_wp2_with fail
      generalize hW : World.alloc wr _ = W
      obtain ⟨z0, hz0⟩ : ∃ z0, wr.heap.size = z0 := ⟨_, rfl⟩
      have hsta : StA w1 P og0 og0 oc0 z0 (.slice none 0 0) [] ⟨zs, ps, [], f, []⟩ W := by
        have hk : Kept (fun _ => False) w1 W := by rw [← hW]; exact HK.out.alloc _
        have hel : Elems W W.heap.size (some ⟨z0, 0, none⟩) 17 Fr.cells [f] := by
          rw [← hW, ← hz0]
          exact (Elems.block (f := Fr.cells) (xs := [f]) Fr.len (heap_new1 wr _) rfl (by show 1 ≤ maxLen; decide)).more (Array.getElem?_eq_some_iff.1 (heap_new1 wr _)).1
        exact ⟨HRW.out.kept0 hk, hel, World.ownsRow_nil _ _ _ _, .inl rfl, fun g e => by simp [Value.ownBlock] at e, hk.mono (fun _ _ f => f.elim), fun q hq => HRW.out.foot_lt hq⟩
      have HSTA := Lib.hid hsta
      rw [hz0]
      clear hsta hW hz0 y0 y1 y2 y3 y4 y5 y6 y7 y8 y9 y10 y11 y12 y13 y14 y15 y16
      go_loopw [17, 18, 19] (fun fv nv i wr => ∃ (d : Nat) (fg fc og oc : Nat) (acc : List Nt) (u : Ms), fv = .slice (some ⟨fg, 0, none⟩) (u.bs.length + 1) fc ∧ i = .int .i64 d ∧ d ≤ 500 ∧ StA w1 P og0 og oc fg nv acc u wr ∧ u.bs.length ≤ 15 ∧ self < u.ps.length ∧ acc.length ≤ 200 * d ∧ aloneR code P.most P.now self (500 - d) acc u = some r) (fun _ _ i _ => 500 - (intOf i).toNat)
      case atStart => exact ⟨0, z0, 1, og0, oc0, [], ⟨zs, ps, [], f, []⟩, rfl, rfl, by omega, HSTA.out, by simp, HS.out, by simp, HR.out⟩
      case round =>
        obtain ⟨d, fg, fc, og, oc, acc, u, rfl, rfl, hd, hst, hub, hus, hac, hrun⟩ := hrel
        have HST := Lib.hid hst
        have HUB := Lib.hid (And.intro hub (And.intro hus hac))
        by_cases hd5 : d = 500
        · exfalso
          subst hd5
          cases hrun
        obtain ⟨m, hm⟩ : ∃ m, 500 - d = m + 1 := ⟨499 - d, by omega⟩
        rw [hm, aloneR] at hrun
        have hd3 : (d : Int) < 500 := by omega
        have HDM : Hid (m = 499 - d ∧ d < 500) := Lib.hid ⟨by omega, by omega⟩
        cases hr1 : runR code P.most P.now self 200 false { u with ns := [] } with
        | none => rw [hr1] at hrun; cases hrun
        | some q =>
          obtain ⟨how, v2, u2⟩ := q
          rw [hr1] at hrun
          have HRUN := Lib.hid hrun
          obtain ⟨k1, k2, k3⟩ := run_keeps 200 false { u with ns := [] } _ hr1 hub
          have HKS : Hid (u2.bs.length ≤ 15 ∧ self < u2.ps.length ∧ u2.ns.length ≤ 200) := Lib.hid ⟨k1, by dsimp only at k2; omega, by dsimp only at k3; simpa using k3⟩
          have HSTEP := Lib.hid (step_any so cc code (some ⟨fg, 0, none⟩) fc { u with ns := [] } _ (code_on HT.out hst.k hst.no) hst.rw hst.fr hub hus rfl hr1)
          rw [HCL.out] at HSTEP
          clear hd hst hub hus hac hrun hr1 k1 k2 k3 hd5 hm
          obtain ⟨bl, hbl⟩ : ∃ bl, u.bs.length + 1 = bl := ⟨_, rfl⟩
          rw [show ({ u with ns := [] } : Ms).bs.length + 1 = bl from hbl] at HSTEP
          rw [hbl]
          clear hbl
          go_wp2_with fail
          refine HSTEP.out.mono ?_
          rintro e w2 ⟨fg2, fc2, nv2, og2, oc2, rfl, hin⟩
          have hin : StIn wr P og og2 oc2 fg2 fc2 nv2 u2 w2 := hin
          obtain ⟨sl2, c2, rfl, hM⟩ := Made.of_own Nt.two hin.nt rfl (by have := HKS.out.2.2; unfold maxLen; omega)
          have HEL := Lib.hid hM.elems
          have HIN := Lib.hid hin
          have HNT : Hid (w2.ownsRow w1.heap.size 77 2 u18 acc.length (flat Nt.cells acc)) := Lib.hid (own_kept HST.out.nt hin.k (fun g e => HST.out.d g e))
          clear hM hin HSTEP
          have hw20 : how = 2 ∨ how = 0 := by
            have := HRUN.out
            try dsimp only at this
            by_cases h2 : how = 2
            · exact .inl h2
            by_cases h0 : how = 0
            · exact .inr h0
            rw [if_neg h2, if_neg h0] at this
            cases this
          rcases hw20 with rfl | rfl
          all_goals
            go_wp2_with (at_builtin; refine wpList_append_elems (ys := u2.ns) _ rfl (.tmp 61) (.tmp 62) 49 rfl w1.heap.size 77 i2 (.agg #[.int .i64 0, .int .i64 0]) 2 16 Try.underlying49 HI2.out HZ2.out HN2.out HB2.out rfl (by decide) Nt.two (nts_one _) u18 acc.length (flat Nt.cells acc) rfl HNT.out w2.heap.size sl2 c2 rfl HEL.out ?m1 ?m2 ?m3 ?_)
            case m1 => have := HUB.out.2.2; have := HKS.out.2.2; have := HDM.out.2; unfold maxLen; omega
            case m2 => have := HUB.out.2.2; have := HKS.out.2.2; have := HDM.out.2; omega
            case m3 => have := HIN.out.k.size; have := HST.out.k.size; omega
            intro v3 w3 g1 g2 g3
            have HN3 := Lib.hid (stA_next HST.out HIN.out g1 g2 g3 HKS.out.1)
            clear g1 g2 g3 HEL HNT
          · have HF : Hid (AloneTo P og0 w1 r (.returned (.tuple #[.int .i64 v2, v3, .bool true])) w3) := Lib.hid (by
              have := HRUN.out
              have this : some (v2, acc ++ u2.ns, u2) = some r := by simpa using this
              obtain rfl := Option.some.inj this
              exact ⟨v3, og2, oc2, rfl, HN3.out.rw, HN3.out.no, HN3.out.k, HN3.out.nt, HN3.out.d⟩)
            go_wp2_with fail
            exact bodyPost_ret (v := .tuple #[.int .i64 v2, v3, .bool true]) (by simp [results, Try.results14, go_sem]) rfl HF.out
          · have HRN : Hid (aloneR code P.most P.now self m (acc ++ u2.ns) u2 = some r) := Lib.hid (by
              have := HRUN.out
              simpa using this)
            go_wp2_with fail
            go_roundw
            case rel => exact ⟨d + 1, fg2, fc2, og2, oc2, acc ++ u2.ns, u2, rfl, by go_num, by have := HDM.out.2; omega, HN3.out, HKS.out.1, HKS.out.2.1, by have := HUB.out.2.2; have := HKS.out.2.2; rw [List.length_append]; omega, by
              rw [show 500 - (d + 1) = m by have := HDM.out; omega]
              exact HRN.out⟩
            case measure => have := HDM.out; simp [intOf]; omega
    obtain ⟨g, off, rfl, hg, hc⟩ := HRS.out.2 j (rs.getD j 0) (by rw [List.getD_eq_getElem?_getD, List.getElem?_eq_getElem (by rw [HRL.out]; exact hjn)]; rfl)
    have x0 : wr.cell? ⟨g, off + j, none⟩ = some (.int .i64 (rs.getD j 0)) := (HK.out.cell (p := ⟨g, off + j, none⟩) hg (fun f => f)).trans (by have := hc 0 _ rfl; rwa [Nat.mul_one, Nat.add_zero] at this)
    have y0 : wr.cell? ⟨v, 1 + j, none⟩ = some (.int .i64 ((startFr pc rs j).r j)) := by
      have := HROW.out.cell Fr.len (i := 0) (x := startFr pc rs j) rfl ((startFr pc rs j).at_r (show j < 16 by omega))
      rw [Nat.zero_mul, Nat.zero_add, Nat.add_comm] at this
      exact this
    have y1 := HROW.out.free (1 + j)
    have hj16 : (j : Int) < 16 := by omega
    have HN : Hid (Row (wr.setCell ⟨v, 1 + j, none⟩ (.int .i64 (rs.getD j 0))) v 1 72 17 Fr.cells [startFr pc rs (j + 1)] ∧ Kept (fun _ => False) w1 (wr.setCell ⟨v, 1 + j, none⟩ (.int .i64 (rs.getD j 0)))) := Lib.hid (by
      have hr := HROW.out.set Fr.len (i := 0) (x := startFr pc rs j) rfl (j := j + 1) (by omega) (x' := startFr pc rs (j + 1)) (v := .int .i64 (rs.getD j 0)) (by rw [← start_next, Fr.put_cells])
      have e : (⟨v, 0 * 17 + (j + 1), none⟩ : Addr) = ⟨v, 1 + j, none⟩ := by rw [Nat.zero_mul, Nat.zero_add, Nat.add_comm]
      rw [e] at hr
      exact ⟨hr, HK.out.setCell _ _ (fun h => by have := HV.out; dsimp only at h; omega)⟩)
    obtain ⟨q, hq⟩ : ∃ q, rs.getD j 0 = q := ⟨_, rfl⟩
    rw [hq] at x0 HN
    clear hc hq
    go_wp2_with fail
    go_roundw
    case rel => exact ⟨j + 1, by go_num, by omega, HN.out⟩
    case measure => simp [intOf]; omega
end

end Go.Proofs.Ytofnomkedpagfaa
end
