/-
  For every input the statement PackStays answers true: what is handed in stays as it is; what was told stays, whatever becomes of it.
  Conditions: none.
-/
import Derived.Test.YtkicpbnphbcdaaaStaysKit
import Derived.WalkKit
import Derived.ProofKit
import Derived.OpenShut
import Derived.Deep.RegionHeld3
namespace Go.Proofs.Ytkicpbnphbcdaaa
namespace packStays
open Go.ChangeShapes Go.WideShapes Go.ChangeAt Go.RowKit
set_option linter.unusedVariables false

/-- Bytes in a block from B1 on, and below B2, whatever they are. -/
def MessA (B1 B2 : Nat) (A : Option Addr) (n : Nat) (w : World) : Prop := 0 < n → ∃ g, A = some ⟨g, 0, none⟩ ∧ B1 ≤ g ∧ g < B2 ∧ Mess w g n

set_option maxHeartbeats 8000000 in
set_option maxRecDepth 100000 in
theorem walk (x : Sc) (bs : List Nat) (s : Option Addr) (cap : Nat) (w : World) (hx : Lies w w.heap.size x) (hE : Elems w w.heap.size s 1 bC bs) (hb : ∀ b ∈ bs, b < 256) (hc : bs.length ≤ cap) :
    Calls Try.prog 6 #[x.agg, .slice s bs.length cap] w fun e w' => e = .returned (.bool true) ∧ Below w.heap.size w w' := by
  obtain ⟨W0, hW0⟩ : ∃ W0, w.alloc (.cells #[.slice x.os x.obs.length x.oc, .slice x.ps x.prs.length x.pc, .slice x.ks x.pis.length x.kc] 26) = W0 := ⟨_, rfl⟩
  have hk0 : Kept (fun _ => False) w W0 := by rw [← hW0]; exact (Kept.refl _ w).alloc _
  have hs0 : W0.heap.size = w.heap.size + 1 := by rw [← hW0]; simp
  have hb0 : W0.heap[w.heap.size]? = some (.cells #[.slice x.os x.obs.length x.oc, .slice x.ps x.prs.length x.pc, .slice x.ks x.pis.length x.kc] 26 (0, 0)) := by rw [← hW0]; exact heap_alloc_new w _
  have HX := Lib.hid (fun (w' : World) (hk : Kept (fun _ => False) W0 w') => hx.kept (hk0.trans hk (fun _ _ f => f)) (Nat.le_refl _) (fun _ _ f => f))
  have HE := Lib.hid (fun (w' : World) (hk : Kept (fun _ => False) W0 w') => hE.kept (hk0.trans hk (fun _ _ f => f)) (Nat.le_refl _) (fun _ _ f => f))
  have HP := Lib.hid (fun (w' : World) (hk : Kept (fun _ => False) W0 w') => res_cells ((hk.block w.heap.size (by omega) (fun f => f)).trans hb0))
  have HFIN := Lib.hid (fun (w' : World) (hk : Kept (fun _ => False) W0 w') => (hk0.trans hk (fun _ _ f => f)).below (Nat.le_refl _) (fun _ f => f.elim))
  have HSZ := Lib.hid (fun (w' : World) (hk : Kept (fun _ => False) W0 w') => (show w.heap.size ≤ w'.heap.size from Nat.le_trans (by omega) hk.size))
  have HW0 := Lib.hid hW0
  have HB := Lib.hid hb
  have hmax : bs.length ≤ 9223372036854775807 := by have := hE.1; unfold maxLen at this; exact this
  have HC := Lib.hid hc
  obtain ⟨i0, hi, hz, hn, hby⟩ := info_parts Try.infoByte
  have HI := Lib.hid hi
  have HZ := Lib.hid hz
  have HN := Lib.hid hn
  have HBY := Lib.hid hby
  clear hx hE hb hc hk0 hs0 hb0 hW0 hi hz hn hby
  unfold Sc.agg
  go_enter Try.func6, Try.ntmps6
  go_wp2_with fail
  rw [HW0.out]
  clear HW0
  refine (packUp_any _).mono ?_
  rintro e w1 ⟨rfl, hk1⟩
  obtain ⟨p0, p1, p2⟩ := HP.out w1 hk1
  have HK1 := Lib.hid hk1
  clear hk1
  cases hfx : fewF x
  · go_wp2_with fail
    refine (few_any (x := x) (HX.out w1 HK1.out) (HSZ.out w1 HK1.out) false hfx).mono ?_
    rintro e w2 ⟨rfl, hk2⟩
    have HF := Lib.hid (HFIN.out w2 (HK1.out.trans hk2 (fun _ _ f => f)))
    clear hk2
    go_wp2_with fail
    go_ret
    exact ⟨rfl, HF.out⟩
  go_wp2_with fail
  refine (few_any (x := x) (HX.out w1 HK1.out) (HSZ.out w1 HK1.out) true hfx).mono ?_
  rintro e w2 ⟨rfl, hk2⟩
  have HK2 := Lib.hid (HK1.out.trans hk2 (fun _ _ f => f))
  have HFX := Lib.hid hfx
  clear hk2 p0 p1 p2 hfx
  by_cases h4 : (4000 : Int) < (bs.length : Int)
  · have HF := Lib.hid (HFIN.out w2 HK2.out)
    go_wp2_with fail
    go_ret
    exact ⟨rfl, HF.out⟩
  have H4 : Hid (bs.length ≤ 4000) := Lib.hid (by omega)
  obtain ⟨p0, p1, p2⟩ := HP.out w2 HK2.out
  go_wp2_with fail
  refine (copy_any (x := x) ((HX.out w2 HK2.out).more (HSZ.out w2 HK2.out)) HFX.out).mono ?_
  rintro e w3 ⟨y0, rfl, hyo, hyp, hyr, how, hk3⟩
  have hpy : partsOf y0 = partsOf x := by unfold partsOf; rw [hyo, hyp, hyr]
  obtain ⟨W3, hW3⟩ : ∃ W3, w3.alloc (.cells #[.slice y0.os y0.obs.length y0.oc, .slice y0.ps y0.prs.length y0.pc, .slice y0.ks y0.pis.length y0.kc] 26) = W3 := ⟨_, rfl⟩
  have hkW3 : Kept (fun _ => False) w3 W3 := by rw [← hW3]; exact (Kept.refl _ _).alloc _
  have hsW3 : W3.heap.size = w3.heap.size + 1 := by rw [← hW3]; simp
  have hbW3 : W3.heap[w3.heap.size]? = some (.cells #[.slice y0.os y0.obs.length y0.oc, .slice y0.ps y0.prs.length y0.pc, .slice y0.ks y0.pis.length y0.kc] 26 (0, 0)) := by rw [← hW3]; exact heap_alloc_new w3 _
  have HY0 := Lib.hid (fun (w' : World) (hk : Kept (fun _ => False) W3 w') => how.lies.kept (hkW3.trans hk (fun _ _ f => f)) (Nat.le_refl _) (fun _ _ f => f))
  have HQ := Lib.hid (fun (w' : World) (hk : Kept (fun _ => False) W3 w') => res_cells ((hk.block w3.heap.size (by omega) (fun f => f)).trans hbW3))
  have HK3 := Lib.hid ((HK2.out.trans hk3 (fun _ _ f => f)).trans hkW3 (fun _ _ f => f))
  have HS3 := Lib.hid hsW3
  have HPY := Lib.hid hpy
  have HW3 := Lib.hid hW3
  obtain ⟨E, hE⟩ : ∃ E, (if mayF y0 then scE byteTok (partsOf y0) else []) = E := ⟨_, rfl⟩
  have HEE := Lib.hid hE
  have HEL : Hid (E.length ≤ 100000) := Lib.hid (by
    rw [← hE]
    split
    · rename_i hm; exact may_len hm
    · simp)
  obtain ⟨nE, hnE⟩ : ∃ n, E.length = n := ⟨_, rfl⟩
  have HNE := Lib.hid hnE
  have hnE2 : nE ≤ 100000 := by rw [← hnE]; exact HEL.out
  clear p0 p1 p2 hyo hyp hyr how hk3 hpy hkW3 hsW3 hbW3 hW3 hE hnE
  unfold Sc.agg
  go_wp2_with fail
  rw [HW3.out]
  clear HW3
  refine (put_some (x := y0) (HY0.out W3 (Kept.refl _ _)) (by have := HS3.out; omega) HEE.out).mono ?_
  rintro e w4 ⟨A, c, ev, rfl, hev, hown, hk4⟩
  obtain ⟨A1, c1, e1, _, hEl⟩ := hown.elems (by have := HEL.out; unfold maxLen; omega)
  simp only [Value.slice.injEq, true_and] at e1
  obtain ⟨rfl, rfl⟩ := e1
  have hmess : MessA W3.heap.size w4.heap.size A nE w4 := fun h0 => by
    obtain ⟨g, h1, h2, h3, h5⟩ := hown.mess (by rw [HNE.out]; exact h0)
    rw [HNE.out] at h5
    exact ⟨g, h1, h2, h3, h5⟩
  have d1 := conv_bytes (c := c) hEl
  rw [HNE.out] at d1 ⊢
  have HMESS := Lib.hid hmess
  have HEV := Lib.hid hev
  have HK4 := Lib.hid hk4
  clear hev hown hk4 hEl hmess
  go_wp2_with fail
  clear d1
  go_loopw [11] (fun i wr => ∃ k : Nat, i = .int .i64 k ∧ k ≤ nE ∧ MessA W3.heap.size w4.heap.size A nE wr ∧ Kept (fun k => W3.heap.size ≤ k) w4 wr) (fun i _ => nE - (intOf i).toNat)
  case atStart => exact ⟨0, rfl, by omega, HMESS.out, Kept.refl _ _⟩
  case round =>
    clear HMESS
    obtain ⟨k, rfl, hk1, hmess, hkr⟩ := hrel
    by_cases hkk : k < nE
    · obtain ⟨g, rfl, hg1, hg2, hmg⟩ := hmess (by omega)
      obtain ⟨z, c0, f0⟩ := hmg.cell hkk
      have k0 : (0 : Int) ≤ (k : Int) := by omega
      have k1 : (k : Int) < (nE : Int) := by omega
      have hnx : MessA W3.heap.size w4.heap.size (some ⟨g, 0, none⟩) nE (wr.setCell ⟨g, k, none⟩ (.int .u8 (IntKind.u8.wrap (z + 1)))) ∧ Kept (fun k => W3.heap.size ≤ k) w4 (wr.setCell ⟨g, k, none⟩ (.int .u8 (IntKind.u8.wrap (z + 1)))) := ⟨fun _ => ⟨g, rfl, hg1, hg2, hmg.set k _⟩, hkr.setCell _ _ (fun _ => hg1)⟩
      have HNX := Lib.hid hnx
      clear hnx hmg hmess hkr
      go_wp2_with fail
      go_roundw
      case rel => exact ⟨k + 1, by go_num, by omega, HNX.out⟩
      case measure => simp [intOf]; omega
    have HKR := Lib.hid (HK4.out.trans hkr (fun i hi e => by omega))
    clear hmess hkr
    obtain ⟨q0, q1, q2⟩ := HQ.out wr HKR.out
    go_wp2_with fail
    clear hkk hk1
    refine (put_some (x := y0) (HY0.out wr HKR.out) (by have := HS3.out; have := HKR.out.size; omega) HEE.out).mono ?_
    rintro e w6 ⟨A2, c2, fv, rfl, hfv, hown2, hk6⟩
    obtain ⟨A1, c1, e1, _, hEl2⟩ := hown2.elems (by have := HEL.out; unfold maxLen; omega)
    simp only [Value.slice.injEq, true_and] at e1
    obtain ⟨rfl, rfl⟩ := e1
    rw [HNE.out]
    have HFV := Lib.hid hfv
    have HEL2 := Lib.hid hEl2
    have HK6 := Lib.hid (HKR.out.trans hk6 (fun _ _ f => f))
    clear hfv hown2 hk6 hEl2 q0 q1 q2
    go_wp2_with (at_builtin; refine wpList_append_elems (f := bC) (ys := bs) _ rfl (.tmp 59) (.tmp 60) 29 rfl w6.heap.size 5 i0 (.int .u8 0) 1 1 Try.underlying29 HI.out HZ.out HN.out HBY.out rfl (by decide) bC_one (bC_cell _) _ 0 [] rfl ?c1 w.heap.size s cap rfl ?c2 ?c3 ?c4 ?c5 ?_)
    case c1 => exact World.ownsRow_lit (base := w6.heap.size) (e := 5) (size := 1) w6 #[] 0 (Nat.le_refl _) (Nat.zero_le _) rfl
    case c2 => exact HE.out _ ((HK3.out.trans HK6.out (fun _ _ f => f)).alloc _)
    case c3 => unfold maxLen; omega
    case c4 => have := H4.out; omega
    case c5 => simp
    intro v1 w7 hown1 hg1 hv1
    try simp only [Nat.zero_add, List.nil_append] at hown1
    have hO1 : Own w6.heap.size w7 v1 bs := hown1
    have hk7 : Kept (fun _ => False) w6 w7 := ((Kept.refl (fun _ => False) _).alloc _).grown hg1 (fun k hk e => by simp [Value.ownBlock] at e hk; omega)
    obtain ⟨A3, c3, rfl, hc3, hEl3⟩ := hO1.elems (by have := H4.out; unfold maxLen; omega)
    have hmess3 : MessA w6.heap.size w7.heap.size A3 bs.length w7 := fun h0 => hO1.mess h0
    have HM3 := Lib.hid hmess3
    have HC3 := Lib.hid hc3
    have HE3 := Lib.hid hEl3
    have HK7 := Lib.hid (HK6.out.trans hk7 (fun _ _ f => f))
    have HK67 := Lib.hid hk7
    clear hown1 hg1 hv1 hO1 hk7 hc3 hEl3 hmess3
    go_wp2_with fail
    refine (get_some (n := bs.length) (bs := bs) rfl HE3.out HB.out HC3.out (Nat.le_refl _)).mono ?_
    rintro e w8 ⟨y1, gv, rfl, hgv, hpy1, how1, hk8⟩
    obtain ⟨W8, hW8⟩ : ∃ W8, w8.alloc (.cells #[.slice y1.os y1.obs.length y1.oc, .slice y1.ps y1.prs.length y1.pc, .slice y1.ks y1.pis.length y1.kc] 26) = W8 := ⟨_, rfl⟩
    have hkW8 : Kept (fun _ => False) w8 W8 := by rw [← hW8]; exact (Kept.refl _ _).alloc _
    have hsW8 : W8.heap.size = w8.heap.size + 1 := by rw [← hW8]; simp
    have hbW8 : W8.heap[w8.heap.size]? = some (.cells #[.slice y1.os y1.obs.length y1.oc, .slice y1.ps y1.prs.length y1.pc, .slice y1.ks y1.pis.length y1.kc] 26 (0, 0)) := by rw [← hW8]; exact heap_alloc_new w8 _
    have HGV := Lib.hid hgv
    have HPY1 := Lib.hid hpy1
    have HOW1 := Lib.hid (how1.kept hkW8 (fun _ f => f.elim))
    have HB8 := Lib.hid hbW8
    have HS8 := Lib.hid hsW8
    have HZ78 : Hid (w6.heap.size ≤ w7.heap.size ∧ w7.heap.size ≤ w8.heap.size) := Lib.hid ⟨HK67.out.size, hk8.size⟩
    have HK78 := Lib.hid ((HK67.out.trans hk8 (fun _ _ f => f)).trans hkW8 (fun _ _ f => f))
    have HM8 : Hid (MessA w6.heap.size w7.heap.size A3 bs.length W8) := Lib.hid (fun h0 => by
      obtain ⟨g, h1, h2, h3, cur, h5, h6⟩ := HM3.out h0
      exact ⟨g, h1, h2, h3, cur, ((hk8.trans hkW8 (fun _ _ f => f)).block g h3 (fun f => f)).trans h5, h6⟩)
    have HW8 := Lib.hid hW8
    clear hgv hpy1 how1 hk8 hkW8 hsW8 hbW8 hW8
    go_wp2_with fail
    rw [HW8.out]
    clear HW8
    go_loopw [17] (fun i wr2 => ∃ k : Nat, i = .int .i64 k ∧ k ≤ bs.length ∧ MessA w6.heap.size w7.heap.size A3 bs.length wr2 ∧ Kept (fun k => w6.heap.size ≤ k ∧ k < w7.heap.size) W8 wr2) (fun i _ => bs.length - (intOf i).toNat)
    case atStart => exact ⟨0, rfl, by omega, HM8.out, Kept.refl _ _⟩
    case round =>
      clear HM8
      obtain ⟨k, rfl, hk1, hmess, hkr⟩ := hrel
      by_cases hkk : k < bs.length
      · obtain ⟨g, rfl, hg1, hg2, hmg⟩ := hmess (by omega)
        obtain ⟨z, c0, f0⟩ := hmg.cell hkk
        have k0 : (0 : Int) ≤ (k : Int) := by omega
        have k1 : (k : Int) < (bs.length : Int) := by omega
        have hnx : ∀ u : World, u = wr.setCell ⟨g, k, none⟩ (.int .u8 (IntKind.u8.wrap (z + 1))) → MessA w6.heap.size w7.heap.size (some ⟨g, 0, none⟩) bs.length u ∧ Kept (fun k => w6.heap.size ≤ k ∧ k < w7.heap.size) W8 u := fun u hu => by subst hu; exact ⟨fun _ => ⟨g, rfl, hg1, hg2, hmg.set k _⟩, hkr.setCell _ _ (fun _ => ⟨hg1, hg2⟩)⟩
        have HNX := Lib.hid hnx
        clear hnx hmg hmess hkr
        go_wp2_with fail
        go_roundw
        case rel => exact ⟨k + 1, by go_num, by omega, HNX.out _ rfl⟩
        case measure => simp [intOf]; omega
      have hks : Kept (fun _ => False) w6 wr := HK78.out.trans hkr (fun i hi e => by omega)
      have hk9 : Kept (fun _ => False) W3 wr := HK6.out.trans hks (fun _ _ f => f)
      have how1 := (HOW1.out.avoid (R := fun g => w6.heap.size ≤ g ∧ g < w7.heap.size) (fun g e => e.2)).kept hkr (fun _ e => e)
      have hb8 := (hkr.block w8.heap.size (by have := HS8.out; omega) (fun e => by have := HZ78.out.2; omega)).trans HB8.out
      have HL1 := Lib.hid how1.lies
      have HB9 := Lib.hid hb8
      have HK9 := Lib.hid hk9
      have HKS := Lib.hid hks
      have HS9 : Hid (w8.heap.size < wr.heap.size) := Lib.hid (by have := HS8.out; have := hkr.size; omega)
      clear hmess hkr hks hk9 how1 hb8
      go_wp2_with fail
      clear hkk hk1
      refine (get_some (n := bs.length) (bs := bs) rfl (HE.out wr (HK3.out.trans HK9.out (fun _ _ f => f))) HB.out HC.out (HSZ.out wr (HK3.out.trans HK9.out (fun _ _ f => f)))).mono ?_
      rintro e w9 ⟨y2, hv, rfl, hhv, hpy2, how2, hk9⟩
      obtain ⟨W9, hW9⟩ : ∃ W9, w9.alloc (.cells #[.slice y2.os y2.obs.length y2.oc, .slice y2.ps y2.prs.length y2.pc, .slice y2.ks y2.pis.length y2.kc] 26) = W9 := ⟨_, rfl⟩
      have hkW9 : Kept (fun _ => False) w9 W9 := by rw [← hW9]; exact (Kept.refl _ _).alloc _
      have hsW9 : W9.heap.size = w9.heap.size + 1 := by rw [← hW9]; simp
      have hbW9 : W9.heap[w9.heap.size]? = some (.cells #[.slice y2.os y2.obs.length y2.oc, .slice y2.ps y2.prs.length y2.pc, .slice y2.ks y2.pis.length y2.kc] 26 (0, 0)) := by rw [← hW9]; exact heap_alloc_new w9 _
      have hkr9 : Kept (fun _ => False) wr W9 := hk9.trans hkW9 (fun _ _ f => f)
      have hk39 : Kept (fun _ => False) W3 W9 := HK9.out.trans hkr9 (fun _ _ f => f)
      have hk09 : Kept (fun _ => False) W0 W9 := HK3.out.trans hk39 (fun _ _ f => f)
      have hsf : ∀ w', Kept (fun _ => False) W9 w' → w'.cell? ⟨w.heap.size, 0, none⟩ = some (.slice x.os x.obs.length x.oc) ∧ w'.cell? ⟨w.heap.size, 1, none⟩ = some (.slice x.ps x.prs.length x.pc) ∧ w'.cell? ⟨w.heap.size, 2, none⟩ = some (.slice x.ks x.pis.length x.kc) ∧ w'.cell? ⟨w3.heap.size, 0, none⟩ = some (.slice y0.os y0.obs.length y0.oc) ∧ w'.cell? ⟨w3.heap.size, 1, none⟩ = some (.slice y0.ps y0.prs.length y0.pc) ∧ w'.cell? ⟨w3.heap.size, 2, none⟩ = some (.slice y0.ks y0.pis.length y0.kc) ∧ w'.cell? ⟨w8.heap.size, 0, none⟩ = some (.slice y1.os y1.obs.length y1.oc) ∧ w'.cell? ⟨w8.heap.size, 1, none⟩ = some (.slice y1.ps y1.prs.length y1.pc) ∧ w'.cell? ⟨w8.heap.size, 2, none⟩ = some (.slice y1.ks y1.pis.length y1.kc) ∧ w'.cell? ⟨w9.heap.size, 0, none⟩ = some (.slice y2.os y2.obs.length y2.oc) ∧ w'.cell? ⟨w9.heap.size, 1, none⟩ = some (.slice y2.ps y2.prs.length y2.pc) ∧ w'.cell? ⟨w9.heap.size, 2, none⟩ = some (.slice y2.ks y2.pis.length y2.kc) ∧ (convert 29 9 (.slice A2 nE c2)).run Try.prog w' = .ok (.string (strOf E)) w' := by
        intro w' hk
        have a := HP.out w' (hk09.trans hk (fun _ _ f => f))
        have b := HQ.out w' (hk39.trans hk (fun _ _ f => f))
        have c := res_cells (((hkr9.trans hk (fun _ _ f => f)).block w8.heap.size HS9.out (fun f => f)).trans HB9.out)
        have d := res_cells ((hk.block w9.heap.size (by omega) (fun f => f)).trans hbW9)
        have q : (convert 29 9 (.slice A2 nE c2)).run Try.prog w' = .ok (.string (strOf E)) w' := by
          have h := conv_bytes (c := c2) (HEL2.out.kept ((HKS.out.trans hkr9 (fun _ _ f => f)).trans hk (fun _ _ f => f)) (Nat.le_refl _) (fun _ _ f => f))
          rwa [HNE.out] at h
        exact ⟨a.1, a.2.1, a.2.2, b.1, b.2.1, b.2.2, c.1, c.2.1, c.2.2, d.1, d.2.1, d.2.2, q⟩
      have SF := Lib.hid hsf
      have LX := Lib.hid (fun (w' : World) (hk : Kept (fun _ => False) W9 w') => (HX.out w' (hk09.trans hk (fun _ _ f => f))).more (C := W9.heap.size) (by have := HSZ.out W9 hk09; omega))
      have LY0 := Lib.hid (fun (w' : World) (hk : Kept (fun _ => False) W9 w') => (HY0.out w' (hk39.trans hk (fun _ _ f => f))).more (C := W9.heap.size) (by have := HS3.out; have := hk39.size; omega))
      have LY1 := Lib.hid (fun (w' : World) (hk : Kept (fun _ => False) W9 w') => (HL1.out.kept (hkr9.trans hk (fun _ _ f => f)) (Nat.le_refl _) (fun _ _ f => f)).more (C := W9.heap.size) hkr9.size)
      have LY2 := Lib.hid (fun (w' : World) (hk : Kept (fun _ => False) W9 w') => (how2.lies.kept (hkW9.trans hk (fun _ _ f => f)) (Nat.le_refl _) (fun _ _ f => f)).more (C := W9.heap.size) hkW9.size)
      have HK09 := Lib.hid hk09
      have HE01 : Hid (partsOf y0 = partsOf x) := HPY
      have HE12 : Hid (partsOf y1 = partsOf y2) := Lib.hid (by rw [HPY1.out, hpy2])
      have HHV := Lib.hid hhv
      have HW9 := Lib.hid hW9
      have hst := strOf_is E
      have HST := Lib.hid hst
      clear hhv hpy2 how2 hk9 hkW9 hsW9 hbW9 hkr9 hk39 hk09 hsf hW9 hst
      go_wp2_with fail
      rw [HW9.out]
      clear HW9
      obtain ⟨a0, a1, a2, b0, b1, b2, cc0, cc1, cc2, dd0, dd1, dd2, qq⟩ := SF.out W9 (Kept.refl _ _)
      have hev := HEV.out
      have hfv := HFV.out
      have hgv := HGV.out
      have hhv := HHV.out
      rcases hev with ⟨he, rfl⟩ | ⟨he, ce, rfl⟩ <;> rcases hfv with ⟨hf, rfl⟩ | ⟨hf, cf, rfl⟩ <;> first | (exfalso; rw [he] at hf; exact absurd hf (by decide)) | skip
      all_goals
        rcases hgv with ⟨hg, rfl⟩ | ⟨hg, cg, rfl⟩ <;> rcases hhv with ⟨hh, rfl⟩ | ⟨hh, ch, rfl⟩ <;> first | (exfalso; rw [hg] at hh; exact absurd hh (by decide)) | skip
      all_goals
        clear he hf hg hh
        go_wp2_with fail
        go_region_held3 (fun w' => w'.cell? ⟨w.heap.size, 0, none⟩ = some (.slice x.os x.obs.length x.oc) ∧ w'.cell? ⟨w.heap.size, 1, none⟩ = some (.slice x.ps x.prs.length x.pc) ∧ w'.cell? ⟨w.heap.size, 2, none⟩ = some (.slice x.ks x.pis.length x.kc) ∧ w'.cell? ⟨w3.heap.size, 0, none⟩ = some (.slice y0.os y0.obs.length y0.oc) ∧ w'.cell? ⟨w3.heap.size, 1, none⟩ = some (.slice y0.ps y0.prs.length y0.pc) ∧ w'.cell? ⟨w3.heap.size, 2, none⟩ = some (.slice y0.ks y0.pis.length y0.kc) ∧ w'.cell? ⟨w8.heap.size, 0, none⟩ = some (.slice y1.os y1.obs.length y1.oc) ∧ w'.cell? ⟨w8.heap.size, 1, none⟩ = some (.slice y1.ps y1.prs.length y1.pc) ∧ w'.cell? ⟨w8.heap.size, 2, none⟩ = some (.slice y1.ks y1.pis.length y1.kc) ∧ w'.cell? ⟨w9.heap.size, 0, none⟩ = some (.slice y2.os y2.obs.length y2.oc) ∧ w'.cell? ⟨w9.heap.size, 1, none⟩ = some (.slice y2.ps y2.prs.length y2.pc) ∧ w'.cell? ⟨w9.heap.size, 2, none⟩ = some (.slice y2.ks y2.pis.length y2.kc) ∧ (convert 29 9 (.slice A2 nE c2)).run Try.prog w' = .ok (.string (strOf E)) w')
          (first | exact SF.out _ (Kept.refl _ _) | exact SF.out _ (Kept.refl _ _).drew | exact SF.out _ HK10 | exact SF.out _ HK11)
          (first | (go_at_call 16; (with_reducible refine (same_is (w := W9.drew) (y := y0) (x := x) (B := W9.heap.size) (LX.out _ (Kept.refl _ W9).drew) (LY0.out _ (Kept.refl _ W9).drew) (Nat.le_refl _) HE01.out).mono ?_); rintro e w10 ⟨rfl, hk10⟩; have HK10 := (Kept.refl _ W9).drew.trans hk10 (fun _ _ f => f)) | (go_at_call 16; (with_reducible refine (same_is (w := w10) (y := y1) (x := y2) (B := W9.heap.size) (LY2.out _ HK10) (LY1.out _ HK10) HK10.size HE12.out).mono ?_); rintro e w11 ⟨rfl, hk11⟩; have HK11 := HK10.trans hk11 (fun _ _ f => f)))
        have HF := Lib.hid (HFIN.out w11 (HK09.out.trans HK11 (fun _ _ f => f)))
        have hst := HST.out
        clear hk10 hk11 HK10 HK11
        go_wp2_with fail
        go_ret
        exact ⟨by first | rfl | (rw [hst]; rfl) | (simp only [hst]; rfl), HF.out⟩

theorem own : ownKnob Try.prog.godebug = none := by kernel_rfl
theorem laidOut : laidOutB Try.prog = true := by kernel_rfl

set_option maxRecDepth 100000 in
theorem lifted (os : Os) (started : os.Started) (H : Type) (enc : TypeId × Value → H) :
    ReturnsInHanded {} Try.checked os 6 .any (Rows.packStaysSpec.pre6 enc Try.prog Try.f6 Rows.packStaysRow.domain false) (Rows.packStaysSpec.post enc Try.prog Try.f6 false true false false) := by
  refine returnsInHanded_of_change (C := Try.checked) own started (by kernel_rfl) Try.func6
    (ChangeSpec.witness6 (enc := enc) (C := Try.checked) false ⟨#[], #[.agg #[.slice none 0 0, .slice none 0 0, .slice none 0 0], .slice none 0 0], []⟩ 8 (by kernel_rfl) (by kernel_rfl) (by kernel_rfl) (by kernel_rfl)) ?_
  intro W base args ds gs before hval0 hW hcnd _
  have hval : ∀ (j : Nat) t v, Try.f6.params[j]? = some t → args[j]? = some v → Value.okWide Try.prog W .any base t v := hval0
  have hW' := hW
  obtain ⟨p, q, hA0, hV, rfl, hfz, hnd⟩ := hW
  have hA : DataW.TrodAll enc Try.prog W 0 (fun _ => true) true Try.f6.params.toList args.toList ds p := hA0
  rw [Try.params6] at hA hval
  obtain ⟨v0, vs0, d0, ds0, p0, q0, hargs, rfl, rfl, h0, r0⟩ := trodAll_cons hA
  obtain ⟨v1, vs1, d1, ds1, p1, q1, rfl, rfl, rfl, h1, r1⟩ := trodAll_cons r0
  obtain ⟨rfl, rfl, rfl⟩ := trodAll_nil r1
  obtain rfl : args = #[v0, v1] := by cases args; simp_all
  obtain ⟨rfl, rfl⟩ := trodVars_none hV
  have k0 := h0
  have lt0 : ∀ x ∈ p0, x.block < W.heap.size := by obtain ⟨m, hm⟩ := k0; exact DataW.trod_lt m _ _ _ hm
  obtain ⟨x0, rfl, hx0⟩ := sc_of (okWide_struct Try.underlying26 (hval 0 26 v0 rfl rfl)) k0
  have k1 := h1
  have lt1 : ∀ x ∈ p1, x.block < W.heap.size := by obtain ⟨m, hm⟩ := k1; exact DataW.trod_lt m _ _ _ hm
  obtain ⟨s1, len1, cap1, rfl⟩ := okWide_slice Try.underlying29 (hval 1 29 v1 rfl rfl)
  obtain ⟨bs1, rfl, hx1, hb1, hc1⟩ := bytes_of k1
  clear hA0 hval0
  refine (walk x0 bs1 s1 cap1 W hx0 hx1 hb1 hc1).mono fun e W' ⟨he, bel⟩ => ?_
  subst he
  exact ⟨_, rfl, _, _, _, [], _, [], hW', trodAll_mk1 (shut_bool Try.underlying4 _), (trodAll_cons_mk (Below.trod laidOut (by kernel_rfl) (of_decide_eq_true (by kernel_rfl)) k0 bel lt0) (trodAll_cons_mk (Below.trod laidOut (by kernel_rfl) (of_decide_eq_true (by kernel_rfl)) k1 bel lt1) trodAll_mk0)), rfl, bel.frame _, fun h => by cases h⟩

theorem over : Rows.packStaysRow.holds Try.pinned (OpenSpec.ofChange Rows.packStaysSpec) :=
  OpenClaim.holds_of_wide 6 Try.f6 rfl rfl rfl rfl rfl rfl rfl ⟨rfl, rfl, rfl, rfl, rfl⟩ rfl rfl rfl rfl rfl (by kernel_rfl) Try.func6 (by kernel_rfl)
    (of_decide_eq_true (by kernel_rfl)) (by unfold Func.isWrapper; first | (rw [if_pos (by decide +kernel)]; kernel_rfl) | (rw [if_neg (by decide +kernel)]; exact ⟨rfl, rfl⟩))
    (fun os started H enc _ => lifted os started H enc)

end packStays
/-- The statement. -/
theorem packStays_holds : Rows.PackStaysSaid := packStays.over
end Go.Proofs.Ytkicpbnphbcdaaa
