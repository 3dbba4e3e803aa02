/-
  For every input the statement ProgOthers answers true: a script that may be may have its threads in another order, or one of them once more, if there are fewer than eight.
  Conditions: none.
-/
import Derived.Test.YtgdagmiiobbeeaaScriptUp
import Derived.Test.YtgdagmiiobbeeaaCopy
import Derived.Test.YtgdagmiiobbeeaaTurnInv
import Derived.Test.YtgdagmiiobbeeaaAgainInv
import Derived.WalkKit
import Derived.ProofKit
import Derived.OpenShut
import Derived.Deep.AppendLies
namespace Go.Proofs.Ytgdagmiiobbeeaa
namespace progOthers
open Go.ChangeShapes Go.WideShapes Go.ChangeAt Go.RowKit
set_option linter.unusedVariables false

set_option maxHeartbeats 16000000 in
set_option maxRecDepth 100000 in
theorem walk (x : Sc) (a1 : Int) (w1 : (Lit.int .i64 a1).wf = true) (w : World) (hx : Lies w w.heap.size x) (hc : x.prs.length ≤ x.pc ∧ x.pc ≤ maxLen) :
    Calls Try.prog 7 #[x.agg, .int .i64 a1] w fun e w' => e = .returned (.bool true) ∧ Below w.heap.size w w' := by
  have b1 := bounds_i64 w1
  clear w1
  have h1 : Lies (w.alloc (.cells #[.slice x.os x.obs.length x.oc, .slice x.ps x.prs.length x.pc, .slice x.ks x.pis.length x.kc] 26)) w.heap.size x := hx.kept ((Kept.refl (fun _ => False) w).alloc _) (Nat.le_refl _) (fun _ _ f => f)
  have hBB : w.heap.size ≤ (w.alloc (.cells #[.slice x.os x.obs.length x.oc, .slice x.ps x.prs.length x.pc, .slice x.ks x.pis.length x.kc] 26)).heap.size := by simp
  have hk0 : Kept (fun _ => False) w (w.alloc (.cells #[.slice x.os x.obs.length x.oc, .slice x.ps x.prs.length x.pc, .slice x.ks x.pis.length x.kc] 26)) := (Kept.refl _ w).alloc _
  have HX := Lib.hid h1
  have HB := Lib.hid hBB
  have HK0 := Lib.hid hk0
  have HC := Lib.hid hc
  clear h1 hBB hk0 hx hc
  have hbel : ∀ w', Kept (fun _ => False) w w' → Below w.heap.size w w' := fun w' h => h.below (Nat.le_refl _) (fun _ f => f.elim)
  have HBEL := Lib.hid hbel; clear hbel
  cases hf : fewF x
  · have HF := Lib.hid hf; clear hf
    go_enter Try.func7, Try.ntmps7
    go_wp2_with fail
    refine (progUp_any _).mono ?_
    rintro e wA ⟨rfl, hk1⟩
    obtain ⟨p0, p1, p2⟩ := box3 hk1
    have HK1 := Lib.hid hk1; clear hk1
    go_wp2_with fail
    refine (few_any (HX.out.kept HK1.out HB.out (fun _ _ f => f)) (Nat.le_trans HB.out HK1.out.size) _ HF.out).mono ?_
    rintro e wB ⟨rfl, hk2⟩
    go_wp2_with fail
    go_ret
    exact ⟨rfl, HBEL.out _ ((HK0.out.trans HK1.out (fun _ _ f => f)).trans hk2 (fun _ _ f => f))⟩
  have HF := Lib.hid hf; clear hf
  go_enter Try.func7, Try.ntmps7
  go_wp2_with fail
  refine (progUp_any _).mono ?_
  rintro e wA ⟨rfl, hk1⟩
  obtain ⟨p0, p1, p2⟩ := box3 hk1
  have HK1 := Lib.hid hk1; clear hk1
  go_wp2_with fail
  refine (few_any (HX.out.kept HK1.out HB.out (fun _ _ f => f)) (Nat.le_trans HB.out HK1.out.size) _ HF.out).mono ?_
  rintro e wB ⟨rfl, hk2⟩
  have HK2 := Lib.hid (HK1.out.trans hk2 (fun _ _ f => f)); clear hk2
  obtain ⟨q0, q1, q2⟩ := box3 HK2.out
  have hxB := HX.out.kept HK2.out HB.out (fun _ _ f => f)
  have hres : Calls Try.prog 10 #[x.agg] wB fun e w' => ((largeF x = false ∧ goodF x = true ∧ e = .returned .nilIface) ∨ ∃ c, e = .returned (.iface 42 (.int .i64 c))) ∧ Kept (fun _ => False) wB w' := by
    cases hl : largeF x
    · cases hg : goodF x
      · exact (check_small hxB (Nat.le_trans HB.out HK2.out.size) hl _ hg).mono fun e w' h => ⟨.inr ⟨1, h.1⟩, h.2⟩
      · exact (check_small hxB (Nat.le_trans HB.out HK2.out.size) hl _ hg).mono fun e w' h => ⟨.inl ⟨rfl, rfl, h.1⟩, h.2⟩
    · exact (check_large hxB (Nat.le_trans HB.out HK2.out.size) hl).mono fun e w' h => ⟨.inr ⟨8, h.1⟩, h.2⟩
  have HRES := Lib.hid hres; clear hres hxB
  go_wp2_with fail
  refine HRES.out.mono ?_
  rintro e wC ⟨hcase, hk3⟩
  have HK3 := Lib.hid (HK2.out.trans hk3 (fun _ _ f => f)); clear hk3
  clear p0 p1 p2 q0 q1 q2
  obtain ⟨p0, p1, p2⟩ := box3 HK3.out
  rcases hcase with ⟨hl, hg, rfl⟩ | ⟨c, rfl⟩
  case inr =>
    go_wp2_with fail
    go_ret
    exact ⟨rfl, HBEL.out _ (HK0.out.trans HK3.out (fun _ _ f => f))⟩
  have hn0 : x.prs.length ≠ 0 := by
    intro h0
    unfold goodF at hg
    rw [h0] at hg
    simp at hg
  have hn8 : x.prs.length ≤ 8 := by
    unfold largeF at hl
    simp only [Bool.not_eq_false', Bool.and_eq_true, decide_eq_true_eq] at hl
    exact hl.1.1.2
  have HL := Lib.hid hl; clear hl
  have HG := Lib.hid hg; clear hg
  obtain ⟨os, oc, obs, ps, pc, prs, ks, kc, pis⟩ := x
  replace hn0 : prs.length ≠ 0 := hn0
  replace hn8 : prs.length ≤ 8 := hn8
  have hcap1 : prs.length ≤ pc := HC.out.1
  have hcap2 : pc ≤ 9223372036854775807 := HC.out.2
  obtain ⟨pz, hpz⟩ : ∃ p, prs[0]? = some p := ⟨_, List.getElem?_eq_getElem (by omega)⟩
  obtain ⟨g, off, hps, hg, hcz⟩ := pr_at (HX.out.kept HK3.out HB.out (fun _ _ f => f)).prs.row hpz
  obtain rfl : ps = some ⟨g, off, none⟩ := hps
  clear hcz hpz pz
  have e0 : ((prs.length : Int) == 0) = false := by rw [beq_eq_false_iff_ne]; omega
  have e8 : decide ((8 : Int) < (prs.length : Int)) = false := decide_eq_false (by omega)
  have hnpos : (0 : Int) < (prs.length : Int) := by omega
  by_cases ha : a1 < 0
  · have ha2 : (0 : Int) ≤ -(a1 + 1) := by omega
    have hpk := Int.emod_nonneg (-(a1 + 1)) (show (prs.length : Int) ≠ 0 by omega)
    have hpl := Int.emod_lt_of_pos (-(a1 + 1)) hnpos
    obtain ⟨k, hk⟩ : ∃ k : Nat, (-(a1 + 1)) % (prs.length : Int) = k := ⟨((-(a1 + 1)) % (prs.length : Int)).toNat, by omega⟩
    have hkn : k < prs.length := by omega
    have hh : -((a1 + 1).tmod (prs.length : Int)) = (k : Int) := by rw [← hk, ← Int.tmod_eq_emod_of_nonneg ha2, Int.neg_tmod]
    have HH := Lib.hid hh
    clear hh hk hpk hpl
    go_wp2_with fail
    rw [HH.out]
    clear ha ha2 HH
    clear e0 e8 hnpos p0 p1 p2
    refine (copy_any ((HX.out.kept HK3.out HB.out (fun _ _ f => f)).more (Nat.le_trans HB.out HK3.out.size)) HF.out).mono ?_
    rintro e wD ⟨y, rfl, hy1, hy2, hy3, hown, hk4⟩
    have HK4 := Lib.hid (HK3.out.trans hk4 (fun _ _ f => f)); clear hk4
    obtain ⟨W3, hW3⟩ : ∃ W3, wD.alloc (.cells #[.slice y.os y.obs.length y.oc, .slice y.ps y.prs.length y.pc, .slice y.ks y.pis.length y.kc] 26) = W3 := ⟨_, rfl⟩
    have hv := hown.var (.cells #[.slice y.os y.obs.length y.oc, .slice y.ps y.prs.length y.pc, .slice y.ks y.pis.length y.kc] 26)
    have hbl := heap_alloc_new wD (.cells #[.slice y.os y.obs.length y.oc, .slice y.ps y.prs.length y.pc, .slice y.ks y.pis.length y.kc] 26)
    have hkv := HK4.out.alloc (.cells #[.slice y.os y.obs.length y.oc, .slice y.ps y.prs.length y.pc, .slice y.ks y.pis.length y.kc] 26)
    have hz3 : W3.heap.size = wD.heap.size + 1 := by rw [← hW3]; simp
    rw [hW3] at hv hbl hkv
    have hbw : w.heap.size < wD.heap.size := by have := HK4.out.size; rw [World.size_alloc] at this; omega
    have HV := Lib.hid hv; clear hv
    have HBL := Lib.hid hbl; clear hbl
    have HKV := Lib.hid hkv; clear hkv
    have HY1 := Lib.hid hy1; clear hy1
    have HY2 := Lib.hid hy2; clear hy2
    clear hown hy3
    have HCELL := Lib.hid (fun (w' : World) (hk : Kept (fun _ => False) W3 w') => (box3 (HKV.out.trans hk (fun _ _ f => f))).2.1)
    have hpr3 : Prs W3 w.heap.size (some ⟨g, off, none⟩) prs := (HX.out.kept HKV.out HB.out (fun _ _ f => f)).prs
    have HPR := Lib.hid (fun (w' : World) (hk : Kept (fun _ => False) W3 w') => hpr3.kept hk (show w.heap.size ≤ W3.heap.size by omega) (fun _ _ f => f))
    clear hpr3
    have cb := HCELL.out W3 (Kept.refl _ _)
    obtain ⟨i4, hi4, hz4, hn4, hb4'⟩ := info_parts Try.infoOps
    have HI4 := Lib.hid hi4; clear hi4
    have HZ4 := Lib.hid hz4; clear hz4
    have HN4 := Lib.hid hn4; clear hn4
    have HB4 := Lib.hid hb4'; clear hb4'
    have k0 : (0 : Int) ≤ (k : Int) := by omega
    have k1 : (k : Int) ≤ (prs.length : Int) := by omega
    have k2 : (k : Int) ≤ (pc : Int) := by omega
    have k3 : (prs.length : Int) ≤ (pc : Int) := by omega
    go_wp2_with fail
    refine wp_region_any (by kernel_rfl) (wpAny_inv (TurnInv W3 w.heap.size wD.heap.size k g off pc prs (fun v57 v58 v59 v60 v61 v62 v63 v64 v65 v66 v67 v68 => ⟨#[({ os := os, oc := oc, obs := obs, ps := some { block := g, off := off }, pc := pc, prs := prs, ks := ks, kc := kc, pis := pis } : Sc).agg, Value.int IntKind.i64 (-(a1 + 1)), Value.pointer (some { block := w.heap.size, off := 0 }), undef, Value.bool false, Value.bool true, Value.bool true, Value.nilIface, Value.int IntKind.i64 ↑prs.length, Value.int IntKind.i64 ↑k, Value.pointer (some { block := wD.heap.size, off := 0 }), undef, undef, Value.bool true, Value.agg #[Value.slice os obs.length oc, Value.slice (some { block := g, off := off }) prs.length pc, Value.slice ks pis.length kc], Value.bool true, Value.bool true, Value.bool false, undef, Value.agg #[Value.slice os obs.length oc, Value.slice (some { block := g, off := off }) prs.length pc, Value.slice ks pis.length kc], Value.nilIface, Value.pointer (some { block := w.heap.size, off := 1 }), Value.slice (some { block := g, off := off }) prs.length pc, Value.int IntKind.i64 ↑prs.length, Value.nilIface, Value.bool false, Value.bool false, Value.int IntKind.i64 ↑prs.length, Value.bool false, Value.bool false, Value.bool false, Value.int IntKind.i64 ↑prs.length, Value.bool false, Value.bool false, undef, undef, undef, undef, undef, undef, undef, undef, undef, undef, undef, undef, undef, Value.int IntKind.i64 a1, Value.bool true, Value.int IntKind.i64 a1, Value.int IntKind.i64 (a1 + 1), Value.int IntKind.i64 (-(a1 + 1)), Value.int IntKind.i64 (-(a1 + 1)), Value.int IntKind.i64 ↑prs.length, Value.int IntKind.i64 ↑k, Value.agg #[Value.slice os obs.length oc, Value.slice (some { block := g, off := off }) prs.length pc, Value.slice ks pis.length kc], y.agg, v57, v58, v59, v60, v61, v62, v63, v64, v65, v66, v67, v68, undef, undef, undef, undef, undef, undef, undef, undef, undef, undef, undef, undef, undef, undef, undef, undef, undef, undef, undef, undef, undef, undef, undef, undef, undef, undef], []⟩)) ?hstep ?hend _ _ _ _ (by simp) (by simp) ?hstart)
    case hstart =>
      exact ⟨_, _, _, _, _, _, _, _, _, _, _, _, rfl, .inl ⟨by simp, ⟨(Kept.refl _ _).drew, fun h => by simp at h, fun h => by simp at h, fun h => by simp at h, fun h => by simp at h, fun h => by simp at h, fun h => by simp at h, fun h => by simp at h, fun h => by simp at h, fun h => by simp at h, fun h => by simp at h, fun h => by simp at h, fun h => by simp at h⟩⟩⟩
    case hstep =>
      intro l a w2 i hs hI hi
      have hs' : l.size = 13 := hs
      obtain ⟨hlt, hu, hd⟩ := ready_of hi
      have hset : ∀ j b, (l.setIfInBounds i true).getD j b = if j = i then true else l.getD j b := fun j b => getD_set (by omega)
      have hlt' : i < 13 := hlt
      clear hi hlt
      have hu' := getD_false hu
      obtain ⟨v57, v58, v59, v60, v61, v62, v63, v64, v65, v66, v67, v68, rfl, ⟨hlast, F⟩ | ⟨hlast, hall, _⟩⟩ := hI
      case inr =>
        exfalso
        by_cases hil : i = 12
        · subst hil; rw [hlast] at hu'; cases hu'
        · rw [hall i (by omega)] at hu'; cases hu'
      have hi : i = 0 ∨ i = 1 ∨ i = 2 ∨ i = 3 ∨ i = 4 ∨ i = 5 ∨ i = 6 ∨ i = 7 ∨ i = 8 ∨ i = 9 ∨ i = 10 ∨ i = 11 ∨ i = 12 := by omega
      clear hlt'
      have hsj : ∀ j, j ≠ i → (l.setIfInBounds i true).getD j false = true → l.getD j false = true := fun j hj h => by rw [hset, if_neg hj] at h; exact h
      have HS := Lib.hid hsj; clear hsj
      have HSET := Lib.hid hset; clear hset
      rcases hi with rfl | rfl | rfl | rfl | rfl | rfl | rfl | rfl | rfl | rfl | rfl | rfl | rfl
      · have hk3 : Kept (fun _ => False) w2 (w2.alloc (.cells #[] 38)) := (Kept.refl _ w2).alloc _
        have F2 := F.on hk3
        refine wpOp_open rfl (fun K hK => ?_)
        go_simp
        exact hK.out _ _ ⟨_, _, _, _, _, _, _, _, _, _, _, _, rfl, .inl ⟨by rw [HSET.out, if_neg (by decide)]; exact hlast,
          { kept := F2.kept
            e57 := fun _ => ⟨_, rfl, fun _ => World.ownsRow_made w2 #[] 0 F.kept.size (Nat.zero_le _) rfl⟩
            e58 := fun h => F2.e58 (HS.out 1 (by decide) h)
            e59 := fun h => F2.e59 (HS.out 2 (by decide) h)
            e60 := fun h => F2.e60 (HS.out 3 (by decide) h)
            e61 := fun h => F2.e61 (HS.out 4 (by decide) h)
            e62 := fun h => by obtain ⟨s, c, e, h1⟩ := F2.e62 (HS.out 5 (by decide) h); exact ⟨s, c, e, fun h5 => h1 (by rw [HSET.out, if_neg (by decide)] at h5; exact h5)⟩
            e63 := fun h => F2.e63 (HS.out 6 (by decide) h)
            e64 := fun h => F2.e64 (HS.out 7 (by decide) h)
            e65 := fun h => F2.e65 (HS.out 8 (by decide) h)
            e66 := fun h => F2.e66 (HS.out 9 (by decide) h)
            e67 := fun h => by obtain ⟨h5, s, c, e, h1⟩ := F2.e67 (HS.out 10 (by decide) h); exact ⟨by rw [HSET.out]; split; rfl; exact h5, s, c, e, h1⟩
            e68 := fun h => F2.e68 (HS.out 11 (by decide) h) }⟩⟩
      · refine wpOp_open rfl (fun K hK => ?_)
        go_simp
        exact hK.out _ _ ⟨_, _, _, _, _, _, _, _, _, _, _, _, rfl, .inl ⟨by rw [HSET.out, if_neg (by decide)]; exact hlast,
          { kept := F.kept
            e57 := fun h => by obtain ⟨g', e, h1⟩ := F.e57 (HS.out 0 (by decide) h); exact ⟨g', e, fun h5 => h1 (by rw [HSET.out, if_neg (by decide)] at h5; exact h5)⟩
            e58 := fun _ => rfl
            e59 := fun h => F.e59 (HS.out 2 (by decide) h)
            e60 := fun h => F.e60 (HS.out 3 (by decide) h)
            e61 := fun h => F.e61 (HS.out 4 (by decide) h)
            e62 := fun h => by obtain ⟨s, c, e, h1⟩ := F.e62 (HS.out 5 (by decide) h); exact ⟨s, c, e, fun h5 => h1 (by rw [HSET.out, if_neg (by decide)] at h5; exact h5)⟩
            e63 := fun h => F.e63 (HS.out 6 (by decide) h)
            e64 := fun h => F.e64 (HS.out 7 (by decide) h)
            e65 := fun h => F.e65 (HS.out 8 (by decide) h)
            e66 := fun h => F.e66 (HS.out 9 (by decide) h)
            e67 := fun h => by obtain ⟨h5, s, c, e, h1⟩ := F.e67 (HS.out 10 (by decide) h); exact ⟨by rw [HSET.out]; split; rfl; exact h5, s, c, e, h1⟩
            e68 := fun h => F.e68 (HS.out 11 (by decide) h) }⟩⟩
      · have d1 : l.getD 1 false = true := by simp [Region.binds] at hd; simp [hd]
        obtain rfl := F.e58 d1
        have c1 := HCELL.out _ F.kept
        refine wpOp_open rfl (fun K hK => ?_)
        go_simp
        exact hK.out _ _ ⟨_, _, _, _, _, _, _, _, _, _, _, _, rfl, .inl ⟨by rw [HSET.out, if_neg (by decide)]; exact hlast,
          { kept := F.kept
            e57 := fun h => by obtain ⟨g', e, h1⟩ := F.e57 (HS.out 0 (by decide) h); exact ⟨g', e, fun h5 => h1 (by rw [HSET.out, if_neg (by decide)] at h5; exact h5)⟩
            e58 := fun h => F.e58 (HS.out 1 (by decide) h)
            e59 := fun _ => rfl
            e60 := fun h => F.e60 (HS.out 3 (by decide) h)
            e61 := fun h => F.e61 (HS.out 4 (by decide) h)
            e62 := fun h => by obtain ⟨s, c, e, h1⟩ := F.e62 (HS.out 5 (by decide) h); exact ⟨s, c, e, fun h5 => h1 (by rw [HSET.out, if_neg (by decide)] at h5; exact h5)⟩
            e63 := fun h => F.e63 (HS.out 6 (by decide) h)
            e64 := fun h => F.e64 (HS.out 7 (by decide) h)
            e65 := fun h => F.e65 (HS.out 8 (by decide) h)
            e66 := fun h => F.e66 (HS.out 9 (by decide) h)
            e67 := fun h => by obtain ⟨h5, s, c, e, h1⟩ := F.e67 (HS.out 10 (by decide) h); exact ⟨by rw [HSET.out]; split; rfl; exact h5, s, c, e, h1⟩
            e68 := fun h => F.e68 (HS.out 11 (by decide) h) }⟩⟩
      · refine wpOp_open rfl (fun K hK => ?_)
        go_simp
        exact hK.out _ _ ⟨_, _, _, _, _, _, _, _, _, _, _, _, rfl, .inl ⟨by rw [HSET.out, if_neg (by decide)]; exact hlast,
          { kept := F.kept
            e57 := fun h => by obtain ⟨g', e, h1⟩ := F.e57 (HS.out 0 (by decide) h); exact ⟨g', e, fun h5 => h1 (by rw [HSET.out, if_neg (by decide)] at h5; exact h5)⟩
            e58 := fun h => F.e58 (HS.out 1 (by decide) h)
            e59 := fun h => F.e59 (HS.out 2 (by decide) h)
            e60 := fun _ => rfl
            e61 := fun h => F.e61 (HS.out 4 (by decide) h)
            e62 := fun h => by obtain ⟨s, c, e, h1⟩ := F.e62 (HS.out 5 (by decide) h); exact ⟨s, c, e, fun h5 => h1 (by rw [HSET.out, if_neg (by decide)] at h5; exact h5)⟩
            e63 := fun h => F.e63 (HS.out 6 (by decide) h)
            e64 := fun h => F.e64 (HS.out 7 (by decide) h)
            e65 := fun h => F.e65 (HS.out 8 (by decide) h)
            e66 := fun h => F.e66 (HS.out 9 (by decide) h)
            e67 := fun h => by obtain ⟨h5, s, c, e, h1⟩ := F.e67 (HS.out 10 (by decide) h); exact ⟨by rw [HSET.out]; split; rfl; exact h5, s, c, e, h1⟩
            e68 := fun h => F.e68 (HS.out 11 (by decide) h) }⟩⟩
      · have d2 : l.getD 2 false = true := by simp [Region.binds] at hd; simp [hd]
        have d3 : l.getD 3 false = true := by simp [Region.binds] at hd; simp [hd]
        obtain rfl := F.e59 d2
        obtain rfl := F.e60 d3
        refine wpOp_open rfl (fun K hK => ?_)
        go_simp
        exact hK.out _ _ ⟨_, _, _, _, _, _, _, _, _, _, _, _, rfl, .inl ⟨by rw [HSET.out, if_neg (by decide)]; exact hlast,
          { kept := F.kept
            e57 := fun h => by obtain ⟨g', e, h1⟩ := F.e57 (HS.out 0 (by decide) h); exact ⟨g', e, fun h5 => h1 (by rw [HSET.out, if_neg (by decide)] at h5; exact h5)⟩
            e58 := fun h => F.e58 (HS.out 1 (by decide) h)
            e59 := fun h => F.e59 (HS.out 2 (by decide) h)
            e60 := fun h => F.e60 (HS.out 3 (by decide) h)
            e61 := fun _ => by rw [if_neg (show ¬ pc = k by omega)]
            e62 := fun h => by obtain ⟨s, c, e, h1⟩ := F.e62 (HS.out 5 (by decide) h); exact ⟨s, c, e, fun h5 => h1 (by rw [HSET.out, if_neg (by decide)] at h5; exact h5)⟩
            e63 := fun h => F.e63 (HS.out 6 (by decide) h)
            e64 := fun h => F.e64 (HS.out 7 (by decide) h)
            e65 := fun h => F.e65 (HS.out 8 (by decide) h)
            e66 := fun h => F.e66 (HS.out 9 (by decide) h)
            e67 := fun h => by obtain ⟨h5, s, c, e, h1⟩ := F.e67 (HS.out 10 (by decide) h); exact ⟨by rw [HSET.out]; split; rfl; exact h5, s, c, e, h1⟩
            e68 := fun h => F.e68 (HS.out 11 (by decide) h) }⟩⟩
      · have d0 : l.getD 0 false = true := by simp [Region.binds] at hd; simp [hd]
        have d4 : l.getD 4 false = true := by simp [Region.binds] at hd; simp [hd]
        obtain ⟨g1, rfl, hown1⟩ := F.e57 d0
        replace hown1 := hown1 hu'
        obtain rfl := F.e61 d4
        have hyl : (prs.drop k).length = prs.length - k := List.length_drop
        have hel := (HPR.out _ F.kept).row.drop k
        rw [Nat.mul_one] at hel
        refine wpOp_open rfl (fun K hK => ?_)
        refine step_append_elems (ys := prs.drop k) _ (by rfl) _ _ _ (by rfl) W3.heap.size 38 i4 (.slice none 0 0) 1 24 Try.underlying23 HI4.out HZ4.out HN4.out HB4.out rfl (by decide) Pr.one (one_prs _) (.slice (some ⟨g1, 0, none⟩) 0 0) 0 [] (by rfl) hown1 _ _ (pc - k) (by rw [hyl]; rfl) hel (by rw [hyl]; unfold maxLen; omega) (by rw [hyl]; omega) F.kept.size ?_
        intro v' w3 hown3 hg3 hat
        rw [hyl, Nat.zero_add, List.nil_append] at hown3
        obtain ⟨g3, c3, rfl, hg31, hg32⟩ := World.ownsRow.form hown3 (by omega)
        have hg1 : W3.heap.size ≤ g1 := (World.ownsRow.lt hown1 g1 rfl).1
        have hkw : Kept (fun q => q = g1) w2 w3 := (Kept.refl _ w2).grown hg3 (fun q _ e => by simp only [Value.ownBlock, Option.some.injEq] at e; exact e.symm)
        simp only [Act.put, List.setIfInBounds_toArray]
        exact hK.out _ _ ⟨_, _, _, _, _, _, _, _, _, _, _, _, rfl, .inl ⟨by rw [HSET.out, if_neg (by decide)]; exact hlast,
          { kept := F.kept.trans hkw (fun i hi e => by omega)
            e57 := fun _ => ⟨g1, rfl, fun h5 => by rw [HSET.out, if_pos rfl] at h5; cases h5⟩
            e58 := fun h => F.e58 (HS.out 1 (by decide) h)
            e59 := fun h => F.e59 (HS.out 2 (by decide) h)
            e60 := fun h => F.e60 (HS.out 3 (by decide) h)
            e61 := fun h => F.e61 (HS.out 4 (by decide) h)
            e62 := fun _ => ⟨_, _, rfl, fun _ => hown3⟩
            e63 := fun h => F.e63 (HS.out 6 (by decide) h)
            e64 := fun h => F.e64 (HS.out 7 (by decide) h)
            e65 := fun h => F.e65 (HS.out 8 (by decide) h)
            e66 := fun h => F.e66 (HS.out 9 (by decide) h)
            e67 := fun h => by exfalso; have h5 := (F.e67 (HS.out 10 (by decide) h)).1; rw [h5] at hu'; cases hu'
            e68 := fun h => F.e68 (HS.out 11 (by decide) h) }⟩⟩
      · refine wpOp_open rfl (fun K hK => ?_)
        go_simp
        exact hK.out _ _ ⟨_, _, _, _, _, _, _, _, _, _, _, _, rfl, .inl ⟨by rw [HSET.out, if_neg (by decide)]; exact hlast,
          { kept := F.kept
            e57 := fun h => by obtain ⟨g', e, h1⟩ := F.e57 (HS.out 0 (by decide) h); exact ⟨g', e, fun h5 => h1 (by rw [HSET.out, if_neg (by decide)] at h5; exact h5)⟩
            e58 := fun h => F.e58 (HS.out 1 (by decide) h)
            e59 := fun h => F.e59 (HS.out 2 (by decide) h)
            e60 := fun h => F.e60 (HS.out 3 (by decide) h)
            e61 := fun h => F.e61 (HS.out 4 (by decide) h)
            e62 := fun h => by obtain ⟨s, c, e, h1⟩ := F.e62 (HS.out 5 (by decide) h); exact ⟨s, c, e, fun h5 => h1 (by rw [HSET.out, if_neg (by decide)] at h5; exact h5)⟩
            e63 := fun _ => rfl
            e64 := fun h => F.e64 (HS.out 7 (by decide) h)
            e65 := fun h => F.e65 (HS.out 8 (by decide) h)
            e66 := fun h => F.e66 (HS.out 9 (by decide) h)
            e67 := fun h => by obtain ⟨h5, s, c, e, h1⟩ := F.e67 (HS.out 10 (by decide) h); exact ⟨by rw [HSET.out]; split; rfl; exact h5, s, c, e, h1⟩
            e68 := fun h => F.e68 (HS.out 11 (by decide) h) }⟩⟩
      · have d6 : l.getD 6 false = true := by simp [Region.binds] at hd; simp [hd]
        obtain rfl := F.e63 d6
        have c1 := HCELL.out _ F.kept
        refine wpOp_open rfl (fun K hK => ?_)
        go_simp
        exact hK.out _ _ ⟨_, _, _, _, _, _, _, _, _, _, _, _, rfl, .inl ⟨by rw [HSET.out, if_neg (by decide)]; exact hlast,
          { kept := F.kept
            e57 := fun h => by obtain ⟨g', e, h1⟩ := F.e57 (HS.out 0 (by decide) h); exact ⟨g', e, fun h5 => h1 (by rw [HSET.out, if_neg (by decide)] at h5; exact h5)⟩
            e58 := fun h => F.e58 (HS.out 1 (by decide) h)
            e59 := fun h => F.e59 (HS.out 2 (by decide) h)
            e60 := fun h => F.e60 (HS.out 3 (by decide) h)
            e61 := fun h => F.e61 (HS.out 4 (by decide) h)
            e62 := fun h => by obtain ⟨s, c, e, h1⟩ := F.e62 (HS.out 5 (by decide) h); exact ⟨s, c, e, fun h5 => h1 (by rw [HSET.out, if_neg (by decide)] at h5; exact h5)⟩
            e63 := fun h => F.e63 (HS.out 6 (by decide) h)
            e64 := fun _ => rfl
            e65 := fun h => F.e65 (HS.out 8 (by decide) h)
            e66 := fun h => F.e66 (HS.out 9 (by decide) h)
            e67 := fun h => by obtain ⟨h5, s, c, e, h1⟩ := F.e67 (HS.out 10 (by decide) h); exact ⟨by rw [HSET.out]; split; rfl; exact h5, s, c, e, h1⟩
            e68 := fun h => F.e68 (HS.out 11 (by decide) h) }⟩⟩
      · refine wpOp_open rfl (fun K hK => ?_)
        go_simp
        exact hK.out _ _ ⟨_, _, _, _, _, _, _, _, _, _, _, _, rfl, .inl ⟨by rw [HSET.out, if_neg (by decide)]; exact hlast,
          { kept := F.kept
            e57 := fun h => by obtain ⟨g', e, h1⟩ := F.e57 (HS.out 0 (by decide) h); exact ⟨g', e, fun h5 => h1 (by rw [HSET.out, if_neg (by decide)] at h5; exact h5)⟩
            e58 := fun h => F.e58 (HS.out 1 (by decide) h)
            e59 := fun h => F.e59 (HS.out 2 (by decide) h)
            e60 := fun h => F.e60 (HS.out 3 (by decide) h)
            e61 := fun h => F.e61 (HS.out 4 (by decide) h)
            e62 := fun h => by obtain ⟨s, c, e, h1⟩ := F.e62 (HS.out 5 (by decide) h); exact ⟨s, c, e, fun h5 => h1 (by rw [HSET.out, if_neg (by decide)] at h5; exact h5)⟩
            e63 := fun h => F.e63 (HS.out 6 (by decide) h)
            e64 := fun h => F.e64 (HS.out 7 (by decide) h)
            e65 := fun _ => rfl
            e66 := fun h => F.e66 (HS.out 9 (by decide) h)
            e67 := fun h => by obtain ⟨h5, s, c, e, h1⟩ := F.e67 (HS.out 10 (by decide) h); exact ⟨by rw [HSET.out]; split; rfl; exact h5, s, c, e, h1⟩
            e68 := fun h => F.e68 (HS.out 11 (by decide) h) }⟩⟩
      · have d7 : l.getD 7 false = true := by simp [Region.binds] at hd; simp [hd]
        have d8 : l.getD 8 false = true := by simp [Region.binds] at hd; simp [hd]
        obtain rfl := F.e64 d7
        obtain rfl := F.e65 d8
        refine wpOp_open rfl (fun K hK => ?_)
        go_simp
        exact hK.out _ _ ⟨_, _, _, _, _, _, _, _, _, _, _, _, rfl, .inl ⟨by rw [HSET.out, if_neg (by decide)]; exact hlast,
          { kept := F.kept
            e57 := fun h => by obtain ⟨g', e, h1⟩ := F.e57 (HS.out 0 (by decide) h); exact ⟨g', e, fun h5 => h1 (by rw [HSET.out, if_neg (by decide)] at h5; exact h5)⟩
            e58 := fun h => F.e58 (HS.out 1 (by decide) h)
            e59 := fun h => F.e59 (HS.out 2 (by decide) h)
            e60 := fun h => F.e60 (HS.out 3 (by decide) h)
            e61 := fun h => F.e61 (HS.out 4 (by decide) h)
            e62 := fun h => by obtain ⟨s, c, e, h1⟩ := F.e62 (HS.out 5 (by decide) h); exact ⟨s, c, e, fun h5 => h1 (by rw [HSET.out, if_neg (by decide)] at h5; exact h5)⟩
            e63 := fun h => F.e63 (HS.out 6 (by decide) h)
            e64 := fun h => F.e64 (HS.out 7 (by decide) h)
            e65 := fun h => F.e65 (HS.out 8 (by decide) h)
            e66 := fun _ => rfl
            e67 := fun h => by obtain ⟨h5, s, c, e, h1⟩ := F.e67 (HS.out 10 (by decide) h); exact ⟨by rw [HSET.out]; split; rfl; exact h5, s, c, e, h1⟩
            e68 := fun h => F.e68 (HS.out 11 (by decide) h) }⟩⟩
      · have d5 : l.getD 5 false = true := by simp [Region.binds] at hd; simp [hd]
        have d9 : l.getD 9 false = true := by simp [Region.binds] at hd; simp [hd]
        obtain ⟨s1, c1, rfl, hown1⟩ := F.e62 d5
        replace hown1 := hown1 hu'
        obtain rfl := F.e66 d9
        have hyl : (prs.take k).length = k := by rw [List.length_take]; omega
        have hel := (HPR.out _ F.kept).row.take k
        refine wpOp_open rfl (fun K hK => ?_)
        refine step_append_elems (ys := prs.take k) _ (by rfl) _ _ _ (by rfl) W3.heap.size 38 i4 (.slice none 0 0) 1 24 Try.underlying23 HI4.out HZ4.out HN4.out HB4.out rfl (by decide) Pr.one (one_prs _) (.slice s1 (prs.length - k) c1) (prs.length - k) (flat Pr.cells (prs.drop k)) (by rfl) hown1 _ _ pc (by rw [hyl]; rfl) hel (by rw [hyl]; unfold maxLen; omega) (by rw [hyl]; omega) F.kept.size ?_
        intro v' w3 hown3 hg3 hat
        rw [hyl, ← flat_append] at hown3
        obtain ⟨g3, c3, rfl, hg31, hg32⟩ := World.ownsRow.form hown3 (by omega)
        have hkw : Kept (fun q => (Value.slice s1 (prs.length - k) c1).ownBlock = some q) w2 w3 := (Kept.refl _ w2).grown hg3 (fun q _ e => e)
        simp only [Act.put, List.setIfInBounds_toArray]
        exact hK.out _ _ ⟨_, _, _, _, _, _, _, _, _, _, _, _, rfl, .inl ⟨by rw [HSET.out, if_neg (by decide)]; exact hlast,
          { kept := F.kept.trans hkw (fun i hi e => by have := (World.ownsRow.lt hown1 i e).1; omega)
            e57 := fun h => by obtain ⟨g', e, h1⟩ := F.e57 (HS.out 0 (by decide) h); exact ⟨g', e, fun h5 => by rw [HSET.out, if_neg (by decide), d5] at h5; cases h5⟩
            e58 := fun h => F.e58 (HS.out 1 (by decide) h)
            e59 := fun h => F.e59 (HS.out 2 (by decide) h)
            e60 := fun h => F.e60 (HS.out 3 (by decide) h)
            e61 := fun h => F.e61 (HS.out 4 (by decide) h)
            e62 := fun _ => ⟨_, _, rfl, fun h5 => by rw [HSET.out, if_pos rfl] at h5; cases h5⟩
            e63 := fun h => F.e63 (HS.out 6 (by decide) h)
            e64 := fun h => F.e64 (HS.out 7 (by decide) h)
            e65 := fun h => F.e65 (HS.out 8 (by decide) h)
            e66 := fun h => F.e66 (HS.out 9 (by decide) h)
            e67 := fun _ => ⟨by rw [HSET.out, if_neg (by decide)]; exact d5, _, _, rfl, hown3⟩
            e68 := fun h => F.e68 (HS.out 11 (by decide) h) }⟩⟩
      · refine wpOp_open rfl (fun K hK => ?_)
        go_simp
        exact hK.out _ _ ⟨_, _, _, _, _, _, _, _, _, _, _, _, rfl, .inl ⟨by rw [HSET.out, if_neg (by decide)]; exact hlast,
          { kept := F.kept
            e57 := fun h => by obtain ⟨g', e, h1⟩ := F.e57 (HS.out 0 (by decide) h); exact ⟨g', e, fun h5 => h1 (by rw [HSET.out, if_neg (by decide)] at h5; exact h5)⟩
            e58 := fun h => F.e58 (HS.out 1 (by decide) h)
            e59 := fun h => F.e59 (HS.out 2 (by decide) h)
            e60 := fun h => F.e60 (HS.out 3 (by decide) h)
            e61 := fun h => F.e61 (HS.out 4 (by decide) h)
            e62 := fun h => by obtain ⟨s, c, e, h1⟩ := F.e62 (HS.out 5 (by decide) h); exact ⟨s, c, e, fun h5 => h1 (by rw [HSET.out, if_neg (by decide)] at h5; exact h5)⟩
            e63 := fun h => F.e63 (HS.out 6 (by decide) h)
            e64 := fun h => F.e64 (HS.out 7 (by decide) h)
            e65 := fun h => F.e65 (HS.out 8 (by decide) h)
            e66 := fun h => F.e66 (HS.out 9 (by decide) h)
            e67 := fun h => by obtain ⟨h5, s, c, e, h1⟩ := F.e67 (HS.out 10 (by decide) h); exact ⟨by rw [HSET.out]; split; rfl; exact h5, s, c, e, h1⟩
            e68 := fun _ => rfl }⟩⟩
      · have d10 : l.getD 10 false = true := by simp [Region.binds] at hd; simp [hd]
        have d11 : l.getD 11 false = true := by simp [Region.binds] at hd; simp [hd]
        obtain rfl := F.e68 d11
        obtain ⟨_, s1, c1, rfl, hown1⟩ := F.e67 d10
        have hall : ∀ j, j < 12 → l.getD j false = true := by
          simp [Region.binds] at hd
          intro j hj
          have hj' : j = 0 ∨ j = 1 ∨ j = 2 ∨ j = 3 ∨ j = 4 ∨ j = 5 ∨ j = 6 ∨ j = 7 ∨ j = 8 ∨ j = 9 ∨ j = 10 ∨ j = 11 := by omega
          rcases hj' with rfl | rfl | rfl | rfl | rfl | rfl | rfl | rfl | rfl | rfl | rfl | rfl <;> simp [hd]
        have hbk := (F.kept.block wD.heap.size (by omega) (fun f => f)).trans HBL.out
        have c1 : w2.cell? ⟨wD.heap.size, 1, none⟩ = some (.slice y.ps y.prs.length y.pc) := by rw [cell_at w2 _ 1 _ _ hbk]; rfl
        have f1 := frozen_at w2 wD.heap.size 1 _ _ hbk
        clear hbk
        refine wpOp_open rfl (fun K hK => ?_)
        go_simp
        exact hK.out _ _ ⟨_, _, _, _, _, _, _, _, _, _, _, _, rfl, .inr ⟨by rw [HSET.out, if_pos rfl], fun j hj => by rw [HSET.out]; split; rfl; exact hall j hj, l, w2, hall, F, rfl⟩⟩
    case hend =>
      intro l a w2 hs hI hr
      have hs' : l.size = 13 := hs
      obtain ⟨v57, v58, v59, v60, v61, v62, v63, v64, v65, v66, v67, v68, rfl, ⟨hlast, F⟩ | ⟨_, _, l0, w0, hall0, F, rfl⟩⟩ := hI
      case inl =>
        exfalso
        have e0 : l.getD 0 false = true := getD_same (by omega) (ready_in (i := 0) hr (by decide) (by simp [Region.binds]))
        have q0 : l[0]?.getD false = true := by simpa using e0
        have e1 : l.getD 1 false = true := getD_same (by omega) (ready_in (i := 1) hr (by decide) (by simp [Region.binds]))
        have q1 : l[1]?.getD false = true := by simpa using e1
        have e2 : l.getD 2 false = true := getD_same (by omega) (ready_in (i := 2) hr (by decide) (by simp [Region.binds, q1]))
        have q2 : l[2]?.getD false = true := by simpa using e2
        have e3 : l.getD 3 false = true := getD_same (by omega) (ready_in (i := 3) hr (by decide) (by simp [Region.binds]))
        have q3 : l[3]?.getD false = true := by simpa using e3
        have e4 : l.getD 4 false = true := getD_same (by omega) (ready_in (i := 4) hr (by decide) (by simp [Region.binds, q2, q3]))
        have q4 : l[4]?.getD false = true := by simpa using e4
        have e5 : l.getD 5 false = true := getD_same (by omega) (ready_in (i := 5) hr (by decide) (by simp [Region.binds, q0, q4]))
        have q5 : l[5]?.getD false = true := by simpa using e5
        have e6 : l.getD 6 false = true := getD_same (by omega) (ready_in (i := 6) hr (by decide) (by simp [Region.binds]))
        have q6 : l[6]?.getD false = true := by simpa using e6
        have e7 : l.getD 7 false = true := getD_same (by omega) (ready_in (i := 7) hr (by decide) (by simp [Region.binds, q6]))
        have q7 : l[7]?.getD false = true := by simpa using e7
        have e8 : l.getD 8 false = true := getD_same (by omega) (ready_in (i := 8) hr (by decide) (by simp [Region.binds]))
        have q8 : l[8]?.getD false = true := by simpa using e8
        have e9 : l.getD 9 false = true := getD_same (by omega) (ready_in (i := 9) hr (by decide) (by simp [Region.binds, q7, q8]))
        have q9 : l[9]?.getD false = true := by simpa using e9
        have e10 : l.getD 10 false = true := getD_same (by omega) (ready_in (i := 10) hr (by decide) (by simp [Region.binds, q5, q9]))
        have q10 : l[10]?.getD false = true := by simpa using e10
        have e11 : l.getD 11 false = true := getD_same (by omega) (ready_in (i := 11) hr (by decide) (by simp [Region.binds, q0, q1, q2, q3, q4, q5, q6, q7, q8, q9, q10]))
        have q11 : l[11]?.getD false = true := by simpa using e11
        have e12 : l.getD 12 false = true := getD_same (by omega) (ready_in (i := 12) hr (by decide) (by simp [Region.binds, q0, q1, q2, q3, q4, q5, q6, q7, q8, q9, q10, q11]))
        have q12 : l[12]?.getD false = true := by simpa using e12
        rw [e12] at hlast
        cases hlast
      obtain ⟨_, s3, c3, hv67, hown3⟩ := F.e67 (hall0 10 (by omega))
      rw [show prs.length - k + k = prs.length from by omega] at hv67 hown3
      subst hv67
      have hkS : Kept (fun q => q = wD.heap.size) w0 (w0.setCell ⟨wD.heap.size, 1, none⟩ (.slice s3 prs.length c3)) := (Kept.refl (fun q => q = wD.heap.size) w0).setCell _ _ (fun _ => rfl)
      have hql : (prs.drop k ++ prs.take k).length = prs.length := by rw [List.length_append, List.length_drop, List.length_take]; omega
      have hqm : ∀ q ∈ prs.drop k ++ prs.take k, q ∈ prs := fun q hq => (List.mem_append.1 hq).elim List.mem_of_mem_drop List.mem_of_mem_take
      have hblE := set_block (o := 1) (v := .slice s3 prs.length c3) ((F.kept.block wD.heap.size (by omega) (fun f => f)).trans HBL.out)
      have hzW := F.kept.size
      have hownE := own_kept hown3 hkS (fun q hq e => by have := (World.ownsRow.lt hown3 q hq).1; omega)
      have hkB : Kept (fun q => q = wD.heap.size ∨ W3.heap.size ≤ q) W3 (w0.setCell ⟨wD.heap.size, 1, none⟩ (.slice s3 prs.length c3)) := (F.kept.mono (fun _ _ f => f.elim)).trans hkS (fun _ _ e => .inl e)
      have hopE : ∀ q ∈ prs, Elems (w0.setCell ⟨wD.heap.size, 1, none⟩ (.slice s3 prs.length c3)) w.heap.size q.s 5 Cl.cells q.ops := fun q hq => ((HPR.out _ F.kept).ops q hq).kept hkS (by omega) (fun i hi e => by omega)
      have hkWE : Kept (fun _ => False) w (w0.setCell ⟨wD.heap.size, 1, none⟩ (.slice s3 prs.length c3)) := ((HK0.out.trans HKV.out (fun _ _ f => f)).trans F.kept (fun _ _ f => f)).trans hkS (fun i hi e => by omega)
      have hcxE := (hkS.cell (p := ⟨w.heap.size, 1, none⟩) (by show w.heap.size < w0.heap.size; omega) (by show ¬ w.heap.size = wD.heap.size; omega)).trans (HCELL.out _ F.kept)
      have hrwE : Elems (w0.setCell ⟨wD.heap.size, 1, none⟩ (.slice s3 prs.length c3)) w.heap.size (some ⟨g, off, none⟩) 1 Pr.cells prs := (HPR.out _ F.kept).row.kept hkS (by omega) (fun i hi e => by omega)
      have hzE : w0.heap.size ≤ (w0.setCell ⟨wD.heap.size, 1, none⟩ (.slice s3 prs.length c3)).heap.size := hkS.size
      have hrb : ∀ q, (Value.slice s3 prs.length c3).ownBlock = some q → W3.heap.size ≤ q := fun q hq => (World.ownsRow.lt hown3 q hq).1
      clear hkS hown3 hr hs hs' hall0
      clear F
      generalize (w0.setCell ⟨wD.heap.size, 1, none⟩ (.slice s3 prs.length c3)) = wE at *
      replace hblE : wE.heap[wD.heap.size]? = some (.cells #[.slice y.os y.obs.length y.oc, .slice s3 prs.length c3, .slice y.ks y.pis.length y.kc] 26 (0, 0)) := hblE
      have hlE := turned_lies (HV.out.ends hkB) hownE hql.symm (by rw [hql]; unfold maxLen; omega) (fun q hq => hopE q (hqm q hq)) (by omega)
      have hck := check_small hlE (Nat.le_refl _) (large_turned (x := ⟨os, oc, obs, some ⟨g, off, none⟩, pc, prs, ks, kc, pis⟩) (k := k) HY1.out HY2.out rfl HL.out) true (good_turned (x := ⟨os, oc, obs, some ⟨g, off, none⟩, pc, prs, ks, kc, pis⟩) (k := k) HY1.out HY2.out rfl HG.out)
      change Calls _ _ #[.agg #[.slice y.os y.obs.length y.oc, .slice s3 (prs.drop k ++ prs.take k).length c3, .slice y.ks y.pis.length y.kc]] _ _ at hck
      rw [hql] at hck
      have HCK := Lib.hid hck; clear hck
      have c0 : wE.cell? ⟨wD.heap.size, 0, none⟩ = some (.slice y.os y.obs.length y.oc) := by rw [cell_at wE _ 0 _ _ hblE]; rfl
      have c1 : wE.cell? ⟨wD.heap.size, 1, none⟩ = some (.slice s3 prs.length c3) := by rw [cell_at wE _ 1 _ _ hblE]; rfl
      have c2 : wE.cell? ⟨wD.heap.size, 2, none⟩ = some (.slice y.ks y.pis.length y.kc) := by rw [cell_at wE _ 2 _ _ hblE]; rfl
      have HBLE := Lib.hid hblE; clear hblE
      have HOWE := Lib.hid hownE; clear hownE
      have HKB := Lib.hid hkB; clear hkB
      have HOPE := Lib.hid hopE; clear hopE
      have HKWE := Lib.hid hkWE; clear hkWE
      have HCXE := Lib.hid hcxE; clear hcxE
      have HRWE := Lib.hid hrwE; clear hrwE
      have HLE := Lib.hid hlE; clear hlE
      have HQM := Lib.hid hqm; clear hqm
      have HQL := Lib.hid hql; clear hql
      have HRB := Lib.hid hrb; clear hrb
      clear cb
      go_wp2_with fail
      refine (HCK.out).mono ?_
      rintro e wF ⟨rfl, hkF⟩
      clear c0 c1 c2 HCK
      have hzF := hkF.size
      have HBLF := Lib.hid ((hkF.block wD.heap.size (by omega) (fun f => f)).trans HBLE.out)
      have HOWN := Lib.hid (own_kept HOWE.out hkF (fun _ _ f => f))
      have HOWN2 : RowKit.Hid (wF.ownsRow W3.heap.size 38 1 (.slice s3 prs.length c3) prs.length (flat Pr.cells (prs.drop k ++ prs.take k))) := HOWN
      have HROWB : RowKit.Hid (¬ (Value.slice s3 prs.length c3).ownBlock = some wD.heap.size) := Lib.hid (fun e => by have := HRB.out _ e; omega)
      obtain ⟨p, hp⟩ : ∃ p, prs[k]? = some p := ⟨_, List.getElem?_eq_getElem (by omega)⟩
      have HCX := Lib.hid (fun (w' : World) (hk : Kept (fun q => (Value.slice s3 prs.length c3).ownBlock = some q) wF w') => ((hk.cell (p := ⟨w.heap.size, 1, none⟩) (by show w.heap.size < wF.heap.size; omega) (fun e => by have := HRB.out _ e; have : (⟨w.heap.size, 1, none⟩ : Addr).block = w.heap.size := rfl; omega)).trans (hkF.cell (p := ⟨w.heap.size, 1, none⟩) (by show w.heap.size < wE.heap.size; omega) (fun f => f))).trans HCXE.out)
      have hrwF := HRWE.out.kept hkF (by omega) (fun _ _ f => f)
      have HCR := Lib.hid (fun (w' : World) (hk : Kept (fun q => (Value.slice s3 prs.length c3).ownBlock = some q) wF w') => by
        obtain ⟨g', off', e, _, h⟩ := pr_at (hrwF.kept hk (by omega) (fun i hi e => by have := HRB.out _ e; omega)) hp
        simp only [Option.some.injEq, Addr.mk.injEq, and_true] at e
        obtain ⟨rfl, rfl⟩ := e
        exact h)
      have HP := Lib.hid hp; clear hp hrwF
      have HKF := Lib.hid hkF; clear hkF
      have k4 : (k : Int) < (prs.length : Int) := by omega
      go_wp2_with fail
      refine wp_region_any (by kernel_rfl) (wpAny_inv (AgainInv wF W3.heap.size w.heap.size wD.heap.size k g off pc prs.length s3 c3 (prs.drop k ++ prs.take k) p (fun v71 v72 v73 v74 v75 v76 v77 v78 v79 v80 => ⟨#[({ os := os, oc := oc, obs := obs, ps := some { block := g, off := off }, pc := pc, prs := prs, ks := ks, kc := kc, pis := pis } : Sc).agg, Value.int IntKind.i64 (-(a1 + 1)), Value.pointer (some { block := w.heap.size, off := 0 }), undef, Value.bool false, Value.bool true, Value.bool true, Value.nilIface, Value.int IntKind.i64 ↑prs.length, Value.int IntKind.i64 ↑k, Value.pointer (some { block := wD.heap.size, off := 0 }), Value.nilIface, undef, Value.bool true, Value.agg #[Value.slice os obs.length oc, Value.slice (some { block := g, off := off }) prs.length pc, Value.slice ks pis.length kc], Value.bool true, Value.bool true, Value.bool false, undef, Value.agg #[Value.slice os obs.length oc, Value.slice (some { block := g, off := off }) prs.length pc, Value.slice ks pis.length kc], Value.nilIface, Value.pointer (some { block := w.heap.size, off := 1 }), Value.slice (some { block := g, off := off }) prs.length pc, Value.int IntKind.i64 ↑prs.length, Value.nilIface, Value.bool false, Value.bool false, Value.int IntKind.i64 ↑prs.length, Value.bool false, Value.bool false, Value.bool false, Value.int IntKind.i64 ↑prs.length, Value.bool false, Value.bool false, undef, undef, undef, undef, undef, undef, undef, undef, undef, undef, undef, undef, undef, Value.int IntKind.i64 a1, Value.bool true, Value.int IntKind.i64 a1, Value.int IntKind.i64 (a1 + 1), Value.int IntKind.i64 (-(a1 + 1)), Value.int IntKind.i64 (-(a1 + 1)), Value.int IntKind.i64 ↑prs.length, Value.int IntKind.i64 ↑k, Value.agg #[Value.slice os obs.length oc, Value.slice (some { block := g, off := off }) prs.length pc, Value.slice ks pis.length kc], y.agg, v57, v58, v59, v60, v61, v62, v63, v64, v65, v66, Value.slice s3 prs.length c3, v68, Value.agg #[Value.slice y.os y.obs.length y.oc, Value.slice s3 prs.length c3, Value.slice y.ks y.pis.length y.kc], Value.nilIface, v71, v72, v73, v74, v75, v76, v77, v78, v79, v80, undef, undef, undef, undef, undef, undef, undef, undef, undef, undef, undef, undef, undef, undef], []⟩)) ?hstep ?hend _ _ _ _ (by simp) (by simp) ?hstart)
      case hstart =>
        exact ⟨_, _, _, _, _, _, _, _, _, _, rfl, .inl ⟨by simp, ⟨(Kept.refl _ _).drew, fun _ => (Kept.refl _ _).drew, fun h => by simp at h, fun h => by simp at h, fun h => by simp at h, fun h => by simp at h, fun h => by simp at h, fun h => by simp at h, fun h => by simp at h, fun h => by simp at h, fun h => by simp at h, fun h => by simp at h⟩⟩⟩
      case hstep =>
        intro l a w2 i hs hI hi
        have hs' : l.size = 11 := hs
        obtain ⟨hlt, hu, hd⟩ := ready_of hi
        have hset : ∀ j b, (l.setIfInBounds i true).getD j b = if j = i then true else l.getD j b := fun j b => getD_set (by omega)
        have hlt' : i < 11 := hlt
        clear hi hlt
        have hu' := getD_false hu
        obtain ⟨v71, v72, v73, v74, v75, v76, v77, v78, v79, v80, rfl, ⟨hlast, F⟩ | ⟨hlast, hall, _⟩⟩ := hI
        case inr =>
          exfalso
          by_cases hil : i = 10
          · subst hil; rw [hlast] at hu'; cases hu'
          · rw [hall i (by omega)] at hu'; cases hu'
        have hi : i = 0 ∨ i = 1 ∨ i = 2 ∨ i = 3 ∨ i = 4 ∨ i = 5 ∨ i = 6 ∨ i = 7 ∨ i = 8 ∨ i = 9 ∨ i = 10 := by omega
        clear hlt'
        have hsj : ∀ j, j ≠ i → (l.setIfInBounds i true).getD j false = true → l.getD j false = true := fun j hj h => by rw [hset, if_neg hj] at h; exact h
        have HS := Lib.hid hsj; clear hsj
        have HSET := Lib.hid hset; clear hset
        rcases hi with rfl | rfl | rfl | rfl | rfl | rfl | rfl | rfl | rfl | rfl | rfl
        · refine wpOp_open rfl (fun K hK => ?_)
          go_simp
          exact hK.out _ _ ⟨_, _, _, _, _, _, _, _, _, _, rfl, .inl ⟨by rw [HSET.out, if_neg (by decide)]; exact hlast,
            { kept := F.kept
              calm := fun h => F.calm (by rw [HSET.out, if_neg (by decide)] at h; exact h)
              e71 := fun _ => rfl
              e72 := fun h => F.e72 (HS.out 1 (by decide) h)
              e73 := fun h => F.e73 (HS.out 2 (by decide) h)
              e74 := fun h => F.e74 (HS.out 3 (by decide) h)
              e75 := fun h => F.e75 (HS.out 4 (by decide) h)
              e76 := fun h => F.e76 (HS.out 5 (by decide) h)
              e77 := fun h => F.e77 (HS.out 6 (by decide) h)
              e78 := fun h => F.e78 (HS.out 7 (by decide) h)
              e79 := fun h => F.e79 (HS.out 8 (by decide) h)
              e80 := fun h => F.e80 (HS.out 9 (by decide) h) }⟩⟩
        · have d0 : l.getD 0 false = true := by simp [Region.binds] at hd; simp [hd]
          obtain rfl := F.e71 d0
          have hbk := (F.kept.block wD.heap.size (by omega) HROWB.out).trans HBLF.out
          have c1 : w2.cell? ⟨wD.heap.size, 1, none⟩ = some (.slice s3 prs.length c3) := by rw [cell_at w2 _ 1 _ _ hbk]; rfl
          clear hbk
          refine wpOp_open rfl (fun K hK => ?_)
          go_simp
          exact hK.out _ _ ⟨_, _, _, _, _, _, _, _, _, _, rfl, .inl ⟨by rw [HSET.out, if_neg (by decide)]; exact hlast,
            { kept := F.kept
              calm := fun h => F.calm (by rw [HSET.out, if_neg (by decide)] at h; exact h)
              e71 := fun h => F.e71 (HS.out 0 (by decide) h)
              e72 := fun _ => rfl
              e73 := fun h => F.e73 (HS.out 2 (by decide) h)
              e74 := fun h => F.e74 (HS.out 3 (by decide) h)
              e75 := fun h => F.e75 (HS.out 4 (by decide) h)
              e76 := fun h => F.e76 (HS.out 5 (by decide) h)
              e77 := fun h => F.e77 (HS.out 6 (by decide) h)
              e78 := fun h => F.e78 (HS.out 7 (by decide) h)
              e79 := fun h => F.e79 (HS.out 8 (by decide) h)
              e80 := fun h => F.e80 (HS.out 9 (by decide) h) }⟩⟩
        · refine wpOp_open rfl (fun K hK => ?_)
          go_simp
          exact hK.out _ _ ⟨_, _, _, _, _, _, _, _, _, _, rfl, .inl ⟨by rw [HSET.out, if_neg (by decide)]; exact hlast,
            { kept := F.kept
              calm := fun h => F.calm (by rw [HSET.out, if_neg (by decide)] at h; exact h)
              e71 := fun h => F.e71 (HS.out 0 (by decide) h)
              e72 := fun h => F.e72 (HS.out 1 (by decide) h)
              e73 := fun _ => rfl
              e74 := fun h => F.e74 (HS.out 3 (by decide) h)
              e75 := fun h => F.e75 (HS.out 4 (by decide) h)
              e76 := fun h => F.e76 (HS.out 5 (by decide) h)
              e77 := fun h => F.e77 (HS.out 6 (by decide) h)
              e78 := fun h => F.e78 (HS.out 7 (by decide) h)
              e79 := fun h => F.e79 (HS.out 8 (by decide) h)
              e80 := fun h => F.e80 (HS.out 9 (by decide) h) }⟩⟩
        · have d2 : l.getD 2 false = true := by simp [Region.binds] at hd; simp [hd]
          obtain rfl := F.e73 d2
          have c1 := HCX.out _ F.kept
          refine wpOp_open rfl (fun K hK => ?_)
          go_simp
          exact hK.out _ _ ⟨_, _, _, _, _, _, _, _, _, _, rfl, .inl ⟨by rw [HSET.out, if_neg (by decide)]; exact hlast,
            { kept := F.kept
              calm := fun h => F.calm (by rw [HSET.out, if_neg (by decide)] at h; exact h)
              e71 := fun h => F.e71 (HS.out 0 (by decide) h)
              e72 := fun h => F.e72 (HS.out 1 (by decide) h)
              e73 := fun h => F.e73 (HS.out 2 (by decide) h)
              e74 := fun _ => rfl
              e75 := fun h => F.e75 (HS.out 4 (by decide) h)
              e76 := fun h => F.e76 (HS.out 5 (by decide) h)
              e77 := fun h => F.e77 (HS.out 6 (by decide) h)
              e78 := fun h => F.e78 (HS.out 7 (by decide) h)
              e79 := fun h => F.e79 (HS.out 8 (by decide) h)
              e80 := fun h => F.e80 (HS.out 9 (by decide) h) }⟩⟩
        · refine wpOp_open rfl (fun K hK => ?_)
          go_simp
          exact hK.out _ _ ⟨_, _, _, _, _, _, _, _, _, _, rfl, .inl ⟨by rw [HSET.out, if_neg (by decide)]; exact hlast,
            { kept := F.kept
              calm := fun h => F.calm (by rw [HSET.out, if_neg (by decide)] at h; exact h)
              e71 := fun h => F.e71 (HS.out 0 (by decide) h)
              e72 := fun h => F.e72 (HS.out 1 (by decide) h)
              e73 := fun h => F.e73 (HS.out 2 (by decide) h)
              e74 := fun h => F.e74 (HS.out 3 (by decide) h)
              e75 := fun _ => rfl
              e76 := fun h => F.e76 (HS.out 5 (by decide) h)
              e77 := fun h => F.e77 (HS.out 6 (by decide) h)
              e78 := fun h => F.e78 (HS.out 7 (by decide) h)
              e79 := fun h => F.e79 (HS.out 8 (by decide) h)
              e80 := fun h => F.e80 (HS.out 9 (by decide) h) }⟩⟩
        · have d3 : l.getD 3 false = true := by simp [Region.binds] at hd; simp [hd]
          have d4 : l.getD 4 false = true := by simp [Region.binds] at hd; simp [hd]
          obtain rfl := F.e74 d3
          obtain rfl := F.e75 d4
          refine wpOp_open rfl (fun K hK => ?_)
          go_simp
          exact hK.out _ _ ⟨_, _, _, _, _, _, _, _, _, _, rfl, .inl ⟨by rw [HSET.out, if_neg (by decide)]; exact hlast,
            { kept := F.kept
              calm := fun h => F.calm (by rw [HSET.out, if_neg (by decide)] at h; exact h)
              e71 := fun h => F.e71 (HS.out 0 (by decide) h)
              e72 := fun h => F.e72 (HS.out 1 (by decide) h)
              e73 := fun h => F.e73 (HS.out 2 (by decide) h)
              e74 := fun h => F.e74 (HS.out 3 (by decide) h)
              e75 := fun h => F.e75 (HS.out 4 (by decide) h)
              e76 := fun _ => rfl
              e77 := fun h => F.e77 (HS.out 6 (by decide) h)
              e78 := fun h => F.e78 (HS.out 7 (by decide) h)
              e79 := fun h => F.e79 (HS.out 8 (by decide) h)
              e80 := fun h => F.e80 (HS.out 9 (by decide) h) }⟩⟩
        · have d5 : l.getD 5 false = true := by simp [Region.binds] at hd; simp [hd]
          obtain rfl := F.e76 d5
          have c1 := HCR.out _ F.kept
          refine wpOp_open rfl (fun K hK => ?_)
          go_simp
          exact hK.out _ _ ⟨_, _, _, _, _, _, _, _, _, _, rfl, .inl ⟨by rw [HSET.out, if_neg (by decide)]; exact hlast,
            { kept := F.kept
              calm := fun h => F.calm (by rw [HSET.out, if_neg (by decide)] at h; exact h)
              e71 := fun h => F.e71 (HS.out 0 (by decide) h)
              e72 := fun h => F.e72 (HS.out 1 (by decide) h)
              e73 := fun h => F.e73 (HS.out 2 (by decide) h)
              e74 := fun h => F.e74 (HS.out 3 (by decide) h)
              e75 := fun h => F.e75 (HS.out 4 (by decide) h)
              e76 := fun h => F.e76 (HS.out 5 (by decide) h)
              e77 := fun _ => rfl
              e78 := fun h => F.e78 (HS.out 7 (by decide) h)
              e79 := fun h => F.e79 (HS.out 8 (by decide) h)
              e80 := fun h => F.e80 (HS.out 9 (by decide) h) }⟩⟩
        · have d6 : l.getD 6 false = true := by simp [Region.binds] at hd; simp [hd]
          obtain rfl := F.e77 d6
          have hk3 : Kept (fun _ => False) w2 (w2.alloc (.cells #[.slice p.s p.ops.length p.cap] 38)) := (Kept.refl _ w2).alloc _
          have F2 := F.on hk3
          refine wpOp_open rfl (fun K hK => ?_)
          go_simp
          exact hK.out _ _ ⟨_, _, _, _, _, _, _, _, _, _, rfl, .inl ⟨by rw [HSET.out, if_neg (by decide)]; exact hlast,
            { kept := F2.kept
              calm := fun h => F2.calm (by rw [HSET.out, if_neg (by decide)] at h; exact h)
              e71 := fun h => F2.e71 (HS.out 0 (by decide) h)
              e72 := fun h => F2.e72 (HS.out 1 (by decide) h)
              e73 := fun h => F2.e73 (HS.out 2 (by decide) h)
              e74 := fun h => F2.e74 (HS.out 3 (by decide) h)
              e75 := fun h => F2.e75 (HS.out 4 (by decide) h)
              e76 := fun h => F2.e76 (HS.out 5 (by decide) h)
              e77 := fun h => F2.e77 (HS.out 6 (by decide) h)
              e78 := fun _ => ⟨_, rfl, F.kept.size, heap_alloc_new w2 _⟩
              e79 := fun h => F2.e79 (HS.out 8 (by decide) h)
              e80 := fun h => F2.e80 (HS.out 9 (by decide) h) }⟩⟩
        · have d1 : l.getD 1 false = true := by simp [Region.binds] at hd; simp [hd]
          have d7 : l.getD 7 false = true := by simp [Region.binds] at hd; simp [hd]
          obtain rfl := F.e72 d1
          obtain ⟨B1, rfl, hB2, hB1⟩ := F.e78 d7
          have hcalm := F.calm hu'
          have hown2 := own_kept HOWN.out hcalm (fun _ _ f => f)
          have hz2 := hcalm.size
          refine wpOp_open rfl (fun K hK => ?_)
          refine step_append_elems (ys := [p]) _ (by rfl) _ _ _ (by rfl) W3.heap.size 38 i4 (.slice none 0 0) 1 24 Try.underlying23 HI4.out HZ4.out HN4.out HB4.out rfl (by decide) Pr.one (one_prs _) (.slice s3 prs.length c3) prs.length (flat Pr.cells (prs.drop k ++ prs.take k)) (by rfl) hown2 _ _ _ (by rfl) (Elems.block Pr.one hB1 rfl (by show 1 ≤ maxLen; decide)) (by show prs.length + 1 ≤ maxLen; unfold maxLen; omega) (by show (prs.length + 1) * 24 ≤ _; omega) (by omega) ?_
          intro v' w3 hown3 hg3 hat
          obtain ⟨g3, c4, rfl, hg31, hg32⟩ := World.ownsRow.form hown3 (by show 0 < prs.length + 1; omega)
          have hkw : Kept (fun q => (Value.slice s3 prs.length c3).ownBlock = some q) w2 w3 := (Kept.refl _ w2).grown hg3 (fun q _ e => e)
          rw [← flat_append] at hown3
          have hrlt : ∀ q, (Value.slice s3 prs.length c3).ownBlock = some q → q < wF.heap.size := fun q hq => (World.ownsRow.lt HOWN.out q hq).2
          simp only [Act.put, List.setIfInBounds_toArray]
          exact hK.out _ _ ⟨_, _, _, _, _, _, _, _, _, _, rfl, .inl ⟨by rw [HSET.out, if_neg (by decide)]; exact hlast,
            { kept := (hcalm.mono (fun _ _ f => f.elim)).trans hkw (fun _ _ e => e)
              calm := fun h => by rw [HSET.out, if_pos rfl] at h; cases h
              e71 := fun h => F.e71 (HS.out 0 (by decide) h)
              e72 := fun h => F.e72 (HS.out 1 (by decide) h)
              e73 := fun h => F.e73 (HS.out 2 (by decide) h)
              e74 := fun h => F.e74 (HS.out 3 (by decide) h)
              e75 := fun h => F.e75 (HS.out 4 (by decide) h)
              e76 := fun h => F.e76 (HS.out 5 (by decide) h)
              e77 := fun h => F.e77 (HS.out 6 (by decide) h)
              e78 := fun _ => ⟨B1, rfl, hB2, (hkw.block B1 (Array.getElem?_eq_some_iff.1 hB1).1 (fun hr => by have := hrlt B1 hr; omega)).trans hB1⟩
              e79 := fun _ => ⟨_, _, rfl, hown3, hat.imp id (fun e => ⟨_, e, hz2⟩)⟩
              e80 := fun h => F.e80 (HS.out 9 (by decide) h) }⟩⟩
        · refine wpOp_open rfl (fun K hK => ?_)
          go_simp
          exact hK.out _ _ ⟨_, _, _, _, _, _, _, _, _, _, rfl, .inl ⟨by rw [HSET.out, if_neg (by decide)]; exact hlast,
            { kept := F.kept
              calm := fun h => F.calm (by rw [HSET.out, if_neg (by decide)] at h; exact h)
              e71 := fun h => F.e71 (HS.out 0 (by decide) h)
              e72 := fun h => F.e72 (HS.out 1 (by decide) h)
              e73 := fun h => F.e73 (HS.out 2 (by decide) h)
              e74 := fun h => F.e74 (HS.out 3 (by decide) h)
              e75 := fun h => F.e75 (HS.out 4 (by decide) h)
              e76 := fun h => F.e76 (HS.out 5 (by decide) h)
              e77 := fun h => F.e77 (HS.out 6 (by decide) h)
              e78 := fun h => F.e78 (HS.out 7 (by decide) h)
              e79 := fun h => F.e79 (HS.out 8 (by decide) h)
              e80 := fun _ => rfl }⟩⟩
        · have d8 : l.getD 8 false = true := by simp [Region.binds] at hd; simp [hd]
          have d9 : l.getD 9 false = true := by simp [Region.binds] at hd; simp [hd]
          obtain rfl := F.e80 d9
          obtain ⟨s5, c5, rfl, hrest⟩ := F.e79 d8
          have hall : ∀ j, j < 10 → l.getD j false = true := by
            simp [Region.binds] at hd
            intro j hj
            have hj' : j = 0 ∨ j = 1 ∨ j = 2 ∨ j = 3 ∨ j = 4 ∨ j = 5 ∨ j = 6 ∨ j = 7 ∨ j = 8 ∨ j = 9 := by omega
            rcases hj' with rfl | rfl | rfl | rfl | rfl | rfl | rfl | rfl | rfl | rfl <;> simp [hd]
          have hbk := (F.kept.block wD.heap.size (by omega) HROWB.out).trans HBLF.out
          have c1 : w2.cell? ⟨wD.heap.size, 1, none⟩ = some (.slice s3 prs.length c3) := by rw [cell_at w2 _ 1 _ _ hbk]; rfl
          have f1 := frozen_at w2 wD.heap.size 1 _ _ hbk
          clear hbk
          refine wpOp_open rfl (fun K hK => ?_)
          go_simp
          exact hK.out _ _ ⟨_, _, _, _, _, _, _, _, _, _, rfl, .inr ⟨by rw [HSET.out, if_pos rfl], fun j hj => by rw [HSET.out]; split; rfl; exact hall j hj, l, w2, hall, F, rfl⟩⟩
      case hend =>
        intro l a w2 hs hI hr
        have hs' : l.size = 11 := hs
        obtain ⟨v71, v72, v73, v74, v75, v76, v77, v78, v79, v80, rfl, ⟨hlast, F⟩ | ⟨_, _, l0, w0, hall0, F, rfl⟩⟩ := hI
        case inl =>
          exfalso
          have e0 : l.getD 0 false = true := getD_same (by omega) (ready_in (i := 0) hr (by decide) (by simp [Region.binds]))
          have q0 : l[0]?.getD false = true := by simpa using e0
          have e1 : l.getD 1 false = true := getD_same (by omega) (ready_in (i := 1) hr (by decide) (by simp [Region.binds, q0]))
          have q1 : l[1]?.getD false = true := by simpa using e1
          have e2 : l.getD 2 false = true := getD_same (by omega) (ready_in (i := 2) hr (by decide) (by simp [Region.binds]))
          have q2 : l[2]?.getD false = true := by simpa using e2
          have e3 : l.getD 3 false = true := getD_same (by omega) (ready_in (i := 3) hr (by decide) (by simp [Region.binds, q2]))
          have q3 : l[3]?.getD false = true := by simpa using e3
          have e4 : l.getD 4 false = true := getD_same (by omega) (ready_in (i := 4) hr (by decide) (by simp [Region.binds]))
          have q4 : l[4]?.getD false = true := by simpa using e4
          have e5 : l.getD 5 false = true := getD_same (by omega) (ready_in (i := 5) hr (by decide) (by simp [Region.binds, q3, q4]))
          have q5 : l[5]?.getD false = true := by simpa using e5
          have e6 : l.getD 6 false = true := getD_same (by omega) (ready_in (i := 6) hr (by decide) (by simp [Region.binds, q5]))
          have q6 : l[6]?.getD false = true := by simpa using e6
          have e7 : l.getD 7 false = true := getD_same (by omega) (ready_in (i := 7) hr (by decide) (by simp [Region.binds, q6]))
          have q7 : l[7]?.getD false = true := by simpa using e7
          have e8 : l.getD 8 false = true := getD_same (by omega) (ready_in (i := 8) hr (by decide) (by simp [Region.binds, q1, q7]))
          have q8 : l[8]?.getD false = true := by simpa using e8
          have e9 : l.getD 9 false = true := getD_same (by omega) (ready_in (i := 9) hr (by decide) (by simp [Region.binds, q0, q1, q2, q3, q4, q5, q6, q7, q8]))
          have q9 : l[9]?.getD false = true := by simpa using e9
          have e10 : l.getD 10 false = true := getD_same (by omega) (ready_in (i := 10) hr (by decide) (by simp [Region.binds, q0, q1, q2, q3, q4, q5, q6, q7, q8, q9]))
          have q10 : l[10]?.getD false = true := by simpa using e10
          rw [e10] at hlast
          cases hlast
        obtain ⟨s5, c5, rfl, hown5, hat5⟩ := F.e79 (hall0 8 (by omega))
        have hpm := List.mem_of_getElem? HP.out
        have hpq : p ∈ prs.drop k ++ prs.take k := by
          rw [List.mem_append, List.mem_drop_iff_getElem]
          left
          obtain ⟨hlt, e⟩ := List.getElem?_eq_some_iff.1 HP.out
          exact ⟨0, by omega, by simpa using e⟩
        have hkS : Kept (fun q => q = wD.heap.size) w0 (w0.setCell ⟨wD.heap.size, 1, none⟩ (.slice s5 (prs.length + 1) c5)) := (Kept.refl (fun q => q = wD.heap.size) w0).setCell _ _ (fun _ => rfl)
        have hkR : Kept (fun q => q = wD.heap.size ∨ (Value.slice s3 prs.length c3).ownBlock = some q) wF (w0.setCell ⟨wD.heap.size, 1, none⟩ (.slice s5 (prs.length + 1) c5)) := (F.kept.mono (fun _ _ e => .inr e)).trans hkS (fun _ _ e => .inl e)
        have hql2 : (prs.drop k ++ prs.take k ++ [p]).length = prs.length + 1 := by rw [List.length_append, HQL.out]; rfl
        have hblG := set_block (o := 1) (v := .slice s5 (prs.length + 1) c5) ((F.kept.block wD.heap.size (by omega) HROWB.out).trans HBLF.out)
        have hzW := F.kept.size
        have h5b : ∀ q, (Value.slice s5 (prs.length + 1) c5).ownBlock = some q → wD.heap.size < q := by
          intro q hq
          rcases hat5 with h | ⟨g', h, h'⟩
          · have := HRB.out q (h.symm.trans hq); omega
          · have := h.symm.trans hq
            simp only [Option.some.injEq] at this
            omega
        have hownG := own_kept hown5 hkS (fun q hq e => by have := h5b q hq; omega)
        have hkBG : Kept (fun q => q = wD.heap.size ∨ W3.heap.size ≤ q) W3 (w0.setCell ⟨wD.heap.size, 1, none⟩ (.slice s5 (prs.length + 1) c5)) := (HKB.out.trans HKF.out (fun _ _ f => f.elim)).trans hkR (fun i hi e => e.imp id (fun e => HRB.out i e))
        have hopG : ∀ q ∈ prs, Elems (w0.setCell ⟨wD.heap.size, 1, none⟩ (.slice s5 (prs.length + 1) c5)) w.heap.size q.s 5 Cl.cells q.ops := fun q hq => ((HOPE.out q hq).kept HKF.out (by omega) (fun _ _ f => f)).kept hkR (by omega) (fun i hi e => e.elim (fun e => by omega) (fun e => by have := HRB.out i e; omega))
        have hkWG : Kept (fun _ => False) w (w0.setCell ⟨wD.heap.size, 1, none⟩ (.slice s5 (prs.length + 1) c5)) := (HKWE.out.trans HKF.out (fun _ _ f => f)).trans hkR (fun i hi e => e.elim (fun e => by omega) (fun e => by have := HRB.out i e; omega))
        have hzG : w0.heap.size ≤ (w0.setCell ⟨wD.heap.size, 1, none⟩ (.slice s5 (prs.length + 1) c5)).heap.size := hkS.size
        clear hkS hkR hown5 hat5 h5b hr hs hs' hall0
        clear F
        generalize (w0.setCell ⟨wD.heap.size, 1, none⟩ (.slice s5 (prs.length + 1) c5)) = wG at *
        replace hblG : wG.heap[wD.heap.size]? = some (.cells #[.slice y.os y.obs.length y.oc, .slice s5 (prs.length + 1) c5, .slice y.ks y.pis.length y.kc] 26 (0, 0)) := hblG
        have hqm2 : ∀ q ∈ prs.drop k ++ prs.take k ++ [p], q ∈ prs := fun q hq => (List.mem_append.1 hq).elim (HQM.out q) (fun hq => by simp only [List.mem_cons, List.not_mem_nil, or_false] at hq; subst hq; exact hpm)
        have hlG := turned_lies (HV.out.ends hkBG) hownG hql2.symm (by rw [hql2]; unfold maxLen; omega) (fun q hq => hopG q (hqm2 q hq)) (by omega)
        have hlz := large_turned (x := ⟨os, oc, obs, some ⟨g, off, none⟩, pc, prs, ks, kc, pis⟩) (y := ⟨y.os, y.oc, y.obs, s3, c3, prs.drop k ++ prs.take k, y.ks, y.kc, y.pis⟩) (k := k) HY1.out HY2.out rfl HL.out
        have hgz := good_turned (x := ⟨os, oc, obs, some ⟨g, off, none⟩, pc, prs, ks, kc, pis⟩) (y := ⟨y.os, y.oc, y.obs, s3, c3, prs.drop k ++ prs.take k, y.ks, y.kc, y.pis⟩) (k := k) HY1.out HY2.out rfl HG.out
        have hlz2 := large_again (x := ⟨y.os, y.oc, y.obs, s3, c3, prs.drop k ++ prs.take k, y.ks, y.kc, y.pis⟩) (y := ⟨y.os, y.oc, y.obs, s5, c5, prs.drop k ++ prs.take k ++ [p], y.ks, y.kc, y.pis⟩) (p := p) rfl rfl rfl hpq hlz
        have hgz2 := good_again (x := ⟨y.os, y.oc, y.obs, s3, c3, prs.drop k ++ prs.take k, y.ks, y.kc, y.pis⟩) (y := ⟨y.os, y.oc, y.obs, s5, c5, prs.drop k ++ prs.take k ++ [p], y.ks, y.kc, y.pis⟩) (p := p) rfl rfl rfl hpq hgz
        replace hlz2 : largeF (⟨y.os, y.oc, y.obs, s5, c5, prs.drop k ++ prs.take k ++ [p], y.ks, y.kc, y.pis⟩ : Sc) = !decide (prs.length < 8) := by
          rw [hlz2]
          show (!decide ((prs.drop k ++ prs.take k).length < 8)) = _
          rw [HQL.out]
        have c0 : wG.cell? ⟨wD.heap.size, 0, none⟩ = some (.slice y.os y.obs.length y.oc) := by rw [cell_at wG _ 0 _ _ hblG]; rfl
        have c1 : wG.cell? ⟨wD.heap.size, 1, none⟩ = some (.slice s5 (prs.length + 1) c5) := by rw [cell_at wG _ 1 _ _ hblG]; rfl
        have c2 : wG.cell? ⟨wD.heap.size, 2, none⟩ = some (.slice y.ks y.pis.length y.kc) := by rw [cell_at wG _ 2 _ _ hblG]; rfl
        clear hblG hkBG
        have HKWG := Lib.hid hkWG; clear hkWG
        by_cases h8 : prs.length < 8
        · have hck := check_small hlG (Nat.le_refl _) (by rw [hlz2, decide_eq_true h8]; rfl) true hgz2
          change Calls _ _ #[.agg #[.slice y.os y.obs.length y.oc, .slice s5 (prs.drop k ++ prs.take k ++ [p]).length c5, .slice y.ks y.pis.length y.kc]] _ _ at hck
          rw [hql2] at hck
          have HCK := Lib.hid hck
          clear hck hlG hlz hgz hlz2 hgz2 hqm2 hopG hownG hql2 hpm hpq
          have h8' : (prs.length : Int) < 8 := by omega
          go_wp2_with fail
          refine (HCK.out).mono ?_
          rintro e wH ⟨rfl, hkH⟩
          go_wp2_with fail
          go_ret
          exact ⟨rfl, HBEL.out _ (HKWG.out.trans hkH (fun _ _ f => f))⟩
        · have hck := check_large hlG (Nat.le_refl _) (by rw [hlz2, decide_eq_false h8]; rfl)
          change Calls _ _ #[.agg #[.slice y.os y.obs.length y.oc, .slice s5 (prs.drop k ++ prs.take k ++ [p]).length c5, .slice y.ks y.pis.length y.kc]] _ _ at hck
          rw [hql2] at hck
          have HCK := Lib.hid hck
          clear hck hlG hlz hgz hlz2 hgz2 hqm2 hopG hownG hql2 hpm hpq
          have h8' : decide ((prs.length : Int) < 8) = false := decide_eq_false (by omega)
          go_wp2_with fail
          refine (HCK.out).mono ?_
          rintro e wH ⟨rfl, hkH⟩
          go_wp2_with fail
          go_ret
          exact ⟨rfl, HBEL.out _ (HKWG.out.trans hkH (fun _ _ f => f))⟩
  · have ha2 : (0 : Int) ≤ a1 := by omega
    have hpk := Int.emod_nonneg a1 (show (prs.length : Int) ≠ 0 by omega)
    have hpl := Int.emod_lt_of_pos a1 hnpos
    obtain ⟨k, hk⟩ : ∃ k : Nat, a1 % (prs.length : Int) = k := ⟨(a1 % (prs.length : Int)).toNat, by omega⟩
    have hkn : k < prs.length := by omega
    have HH := Lib.hid hk
    clear hk hpk hpl
    go_wp2_with fail
    rw [HH.out]
    clear ha ha2 HH
    clear e0 e8 hnpos p0 p1 p2
    refine (copy_any ((HX.out.kept HK3.out HB.out (fun _ _ f => f)).more (Nat.le_trans HB.out HK3.out.size)) HF.out).mono ?_
    rintro e wD ⟨y, rfl, hy1, hy2, hy3, hown, hk4⟩
    have HK4 := Lib.hid (HK3.out.trans hk4 (fun _ _ f => f)); clear hk4
    obtain ⟨W3, hW3⟩ : ∃ W3, wD.alloc (.cells #[.slice y.os y.obs.length y.oc, .slice y.ps y.prs.length y.pc, .slice y.ks y.pis.length y.kc] 26) = W3 := ⟨_, rfl⟩
    have hv := hown.var (.cells #[.slice y.os y.obs.length y.oc, .slice y.ps y.prs.length y.pc, .slice y.ks y.pis.length y.kc] 26)
    have hbl := heap_alloc_new wD (.cells #[.slice y.os y.obs.length y.oc, .slice y.ps y.prs.length y.pc, .slice y.ks y.pis.length y.kc] 26)
    have hkv := HK4.out.alloc (.cells #[.slice y.os y.obs.length y.oc, .slice y.ps y.prs.length y.pc, .slice y.ks y.pis.length y.kc] 26)
    have hz3 : W3.heap.size = wD.heap.size + 1 := by rw [← hW3]; simp
    rw [hW3] at hv hbl hkv
    have hbw : w.heap.size < wD.heap.size := by have := HK4.out.size; rw [World.size_alloc] at this; omega
    have HV := Lib.hid hv; clear hv
    have HBL := Lib.hid hbl; clear hbl
    have HKV := Lib.hid hkv; clear hkv
    have HY1 := Lib.hid hy1; clear hy1
    have HY2 := Lib.hid hy2; clear hy2
    clear hown hy3
    have HCELL := Lib.hid (fun (w' : World) (hk : Kept (fun _ => False) W3 w') => (box3 (HKV.out.trans hk (fun _ _ f => f))).2.1)
    have hpr3 : Prs W3 w.heap.size (some ⟨g, off, none⟩) prs := (HX.out.kept HKV.out HB.out (fun _ _ f => f)).prs
    have HPR := Lib.hid (fun (w' : World) (hk : Kept (fun _ => False) W3 w') => hpr3.kept hk (show w.heap.size ≤ W3.heap.size by omega) (fun _ _ f => f))
    clear hpr3
    have cb := HCELL.out W3 (Kept.refl _ _)
    obtain ⟨i4, hi4, hz4, hn4, hb4'⟩ := info_parts Try.infoOps
    have HI4 := Lib.hid hi4; clear hi4
    have HZ4 := Lib.hid hz4; clear hz4
    have HN4 := Lib.hid hn4; clear hn4
    have HB4 := Lib.hid hb4'; clear hb4'
    have k0 : (0 : Int) ≤ (k : Int) := by omega
    have k1 : (k : Int) ≤ (prs.length : Int) := by omega
    have k2 : (k : Int) ≤ (pc : Int) := by omega
    have k3 : (prs.length : Int) ≤ (pc : Int) := by omega
    go_wp2_with fail
    refine wp_region_any (by kernel_rfl) (wpAny_inv (TurnInv W3 w.heap.size wD.heap.size k g off pc prs (fun v57 v58 v59 v60 v61 v62 v63 v64 v65 v66 v67 v68 => ⟨#[({ os := os, oc := oc, obs := obs, ps := some { block := g, off := off }, pc := pc, prs := prs, ks := ks, kc := kc, pis := pis } : Sc).agg, Value.int IntKind.i64 a1, Value.pointer (some { block := w.heap.size, off := 0 }), undef, Value.bool false, Value.bool true, Value.bool true, Value.nilIface, Value.int IntKind.i64 ↑prs.length, Value.int IntKind.i64 ↑k, Value.pointer (some { block := wD.heap.size, off := 0 }), undef, undef, Value.bool true, Value.agg #[Value.slice os obs.length oc, Value.slice (some { block := g, off := off }) prs.length pc, Value.slice ks pis.length kc], Value.bool true, Value.bool true, Value.bool false, undef, Value.agg #[Value.slice os obs.length oc, Value.slice (some { block := g, off := off }) prs.length pc, Value.slice ks pis.length kc], Value.nilIface, Value.pointer (some { block := w.heap.size, off := 1 }), Value.slice (some { block := g, off := off }) prs.length pc, Value.int IntKind.i64 ↑prs.length, Value.nilIface, Value.bool false, Value.bool false, Value.int IntKind.i64 ↑prs.length, Value.bool false, Value.bool false, Value.bool false, Value.int IntKind.i64 ↑prs.length, Value.bool false, Value.bool false, undef, undef, undef, undef, undef, undef, undef, undef, undef, undef, undef, undef, undef, Value.int IntKind.i64 a1, Value.bool (decide (a1 < 0)), undef, undef, undef, Value.int IntKind.i64 a1, Value.int IntKind.i64 ↑prs.length, Value.int IntKind.i64 ↑k, Value.agg #[Value.slice os obs.length oc, Value.slice (some { block := g, off := off }) prs.length pc, Value.slice ks pis.length kc], y.agg, v57, v58, v59, v60, v61, v62, v63, v64, v65, v66, v67, v68, undef, undef, undef, undef, undef, undef, undef, undef, undef, undef, undef, undef, undef, undef, undef, undef, undef, undef, undef, undef, undef, undef, undef, undef, undef, undef], []⟩)) ?hstep ?hend _ _ _ _ (by simp) (by simp) ?hstart)
    case hstart =>
      exact ⟨_, _, _, _, _, _, _, _, _, _, _, _, rfl, .inl ⟨by simp, ⟨(Kept.refl _ _).drew, fun h => by simp at h, fun h => by simp at h, fun h => by simp at h, fun h => by simp at h, fun h => by simp at h, fun h => by simp at h, fun h => by simp at h, fun h => by simp at h, fun h => by simp at h, fun h => by simp at h, fun h => by simp at h, fun h => by simp at h⟩⟩⟩
    case hstep =>
      intro l a w2 i hs hI hi
      have hs' : l.size = 13 := hs
      obtain ⟨hlt, hu, hd⟩ := ready_of hi
      have hset : ∀ j b, (l.setIfInBounds i true).getD j b = if j = i then true else l.getD j b := fun j b => getD_set (by omega)
      have hlt' : i < 13 := hlt
      clear hi hlt
      have hu' := getD_false hu
      obtain ⟨v57, v58, v59, v60, v61, v62, v63, v64, v65, v66, v67, v68, rfl, ⟨hlast, F⟩ | ⟨hlast, hall, _⟩⟩ := hI
      case inr =>
        exfalso
        by_cases hil : i = 12
        · subst hil; rw [hlast] at hu'; cases hu'
        · rw [hall i (by omega)] at hu'; cases hu'
      have hi : i = 0 ∨ i = 1 ∨ i = 2 ∨ i = 3 ∨ i = 4 ∨ i = 5 ∨ i = 6 ∨ i = 7 ∨ i = 8 ∨ i = 9 ∨ i = 10 ∨ i = 11 ∨ i = 12 := by omega
      clear hlt'
      have hsj : ∀ j, j ≠ i → (l.setIfInBounds i true).getD j false = true → l.getD j false = true := fun j hj h => by rw [hset, if_neg hj] at h; exact h
      have HS := Lib.hid hsj; clear hsj
      have HSET := Lib.hid hset; clear hset
      rcases hi with rfl | rfl | rfl | rfl | rfl | rfl | rfl | rfl | rfl | rfl | rfl | rfl | rfl
      · have hk3 : Kept (fun _ => False) w2 (w2.alloc (.cells #[] 38)) := (Kept.refl _ w2).alloc _
        have F2 := F.on hk3
        refine wpOp_open rfl (fun K hK => ?_)
        go_simp
        exact hK.out _ _ ⟨_, _, _, _, _, _, _, _, _, _, _, _, rfl, .inl ⟨by rw [HSET.out, if_neg (by decide)]; exact hlast,
          { kept := F2.kept
            e57 := fun _ => ⟨_, rfl, fun _ => World.ownsRow_made w2 #[] 0 F.kept.size (Nat.zero_le _) rfl⟩
            e58 := fun h => F2.e58 (HS.out 1 (by decide) h)
            e59 := fun h => F2.e59 (HS.out 2 (by decide) h)
            e60 := fun h => F2.e60 (HS.out 3 (by decide) h)
            e61 := fun h => F2.e61 (HS.out 4 (by decide) h)
            e62 := fun h => by obtain ⟨s, c, e, h1⟩ := F2.e62 (HS.out 5 (by decide) h); exact ⟨s, c, e, fun h5 => h1 (by rw [HSET.out, if_neg (by decide)] at h5; exact h5)⟩
            e63 := fun h => F2.e63 (HS.out 6 (by decide) h)
            e64 := fun h => F2.e64 (HS.out 7 (by decide) h)
            e65 := fun h => F2.e65 (HS.out 8 (by decide) h)
            e66 := fun h => F2.e66 (HS.out 9 (by decide) h)
            e67 := fun h => by obtain ⟨h5, s, c, e, h1⟩ := F2.e67 (HS.out 10 (by decide) h); exact ⟨by rw [HSET.out]; split; rfl; exact h5, s, c, e, h1⟩
            e68 := fun h => F2.e68 (HS.out 11 (by decide) h) }⟩⟩
      · refine wpOp_open rfl (fun K hK => ?_)
        go_simp
        exact hK.out _ _ ⟨_, _, _, _, _, _, _, _, _, _, _, _, rfl, .inl ⟨by rw [HSET.out, if_neg (by decide)]; exact hlast,
          { kept := F.kept
            e57 := fun h => by obtain ⟨g', e, h1⟩ := F.e57 (HS.out 0 (by decide) h); exact ⟨g', e, fun h5 => h1 (by rw [HSET.out, if_neg (by decide)] at h5; exact h5)⟩
            e58 := fun _ => rfl
            e59 := fun h => F.e59 (HS.out 2 (by decide) h)
            e60 := fun h => F.e60 (HS.out 3 (by decide) h)
            e61 := fun h => F.e61 (HS.out 4 (by decide) h)
            e62 := fun h => by obtain ⟨s, c, e, h1⟩ := F.e62 (HS.out 5 (by decide) h); exact ⟨s, c, e, fun h5 => h1 (by rw [HSET.out, if_neg (by decide)] at h5; exact h5)⟩
            e63 := fun h => F.e63 (HS.out 6 (by decide) h)
            e64 := fun h => F.e64 (HS.out 7 (by decide) h)
            e65 := fun h => F.e65 (HS.out 8 (by decide) h)
            e66 := fun h => F.e66 (HS.out 9 (by decide) h)
            e67 := fun h => by obtain ⟨h5, s, c, e, h1⟩ := F.e67 (HS.out 10 (by decide) h); exact ⟨by rw [HSET.out]; split; rfl; exact h5, s, c, e, h1⟩
            e68 := fun h => F.e68 (HS.out 11 (by decide) h) }⟩⟩
      · have d1 : l.getD 1 false = true := by simp [Region.binds] at hd; simp [hd]
        obtain rfl := F.e58 d1
        have c1 := HCELL.out _ F.kept
        refine wpOp_open rfl (fun K hK => ?_)
        go_simp
        exact hK.out _ _ ⟨_, _, _, _, _, _, _, _, _, _, _, _, rfl, .inl ⟨by rw [HSET.out, if_neg (by decide)]; exact hlast,
          { kept := F.kept
            e57 := fun h => by obtain ⟨g', e, h1⟩ := F.e57 (HS.out 0 (by decide) h); exact ⟨g', e, fun h5 => h1 (by rw [HSET.out, if_neg (by decide)] at h5; exact h5)⟩
            e58 := fun h => F.e58 (HS.out 1 (by decide) h)
            e59 := fun _ => rfl
            e60 := fun h => F.e60 (HS.out 3 (by decide) h)
            e61 := fun h => F.e61 (HS.out 4 (by decide) h)
            e62 := fun h => by obtain ⟨s, c, e, h1⟩ := F.e62 (HS.out 5 (by decide) h); exact ⟨s, c, e, fun h5 => h1 (by rw [HSET.out, if_neg (by decide)] at h5; exact h5)⟩
            e63 := fun h => F.e63 (HS.out 6 (by decide) h)
            e64 := fun h => F.e64 (HS.out 7 (by decide) h)
            e65 := fun h => F.e65 (HS.out 8 (by decide) h)
            e66 := fun h => F.e66 (HS.out 9 (by decide) h)
            e67 := fun h => by obtain ⟨h5, s, c, e, h1⟩ := F.e67 (HS.out 10 (by decide) h); exact ⟨by rw [HSET.out]; split; rfl; exact h5, s, c, e, h1⟩
            e68 := fun h => F.e68 (HS.out 11 (by decide) h) }⟩⟩
      · refine wpOp_open rfl (fun K hK => ?_)
        go_simp
        exact hK.out _ _ ⟨_, _, _, _, _, _, _, _, _, _, _, _, rfl, .inl ⟨by rw [HSET.out, if_neg (by decide)]; exact hlast,
          { kept := F.kept
            e57 := fun h => by obtain ⟨g', e, h1⟩ := F.e57 (HS.out 0 (by decide) h); exact ⟨g', e, fun h5 => h1 (by rw [HSET.out, if_neg (by decide)] at h5; exact h5)⟩
            e58 := fun h => F.e58 (HS.out 1 (by decide) h)
            e59 := fun h => F.e59 (HS.out 2 (by decide) h)
            e60 := fun _ => rfl
            e61 := fun h => F.e61 (HS.out 4 (by decide) h)
            e62 := fun h => by obtain ⟨s, c, e, h1⟩ := F.e62 (HS.out 5 (by decide) h); exact ⟨s, c, e, fun h5 => h1 (by rw [HSET.out, if_neg (by decide)] at h5; exact h5)⟩
            e63 := fun h => F.e63 (HS.out 6 (by decide) h)
            e64 := fun h => F.e64 (HS.out 7 (by decide) h)
            e65 := fun h => F.e65 (HS.out 8 (by decide) h)
            e66 := fun h => F.e66 (HS.out 9 (by decide) h)
            e67 := fun h => by obtain ⟨h5, s, c, e, h1⟩ := F.e67 (HS.out 10 (by decide) h); exact ⟨by rw [HSET.out]; split; rfl; exact h5, s, c, e, h1⟩
            e68 := fun h => F.e68 (HS.out 11 (by decide) h) }⟩⟩
      · have d2 : l.getD 2 false = true := by simp [Region.binds] at hd; simp [hd]
        have d3 : l.getD 3 false = true := by simp [Region.binds] at hd; simp [hd]
        obtain rfl := F.e59 d2
        obtain rfl := F.e60 d3
        refine wpOp_open rfl (fun K hK => ?_)
        go_simp
        exact hK.out _ _ ⟨_, _, _, _, _, _, _, _, _, _, _, _, rfl, .inl ⟨by rw [HSET.out, if_neg (by decide)]; exact hlast,
          { kept := F.kept
            e57 := fun h => by obtain ⟨g', e, h1⟩ := F.e57 (HS.out 0 (by decide) h); exact ⟨g', e, fun h5 => h1 (by rw [HSET.out, if_neg (by decide)] at h5; exact h5)⟩
            e58 := fun h => F.e58 (HS.out 1 (by decide) h)
            e59 := fun h => F.e59 (HS.out 2 (by decide) h)
            e60 := fun h => F.e60 (HS.out 3 (by decide) h)
            e61 := fun _ => by rw [if_neg (show ¬ pc = k by omega)]
            e62 := fun h => by obtain ⟨s, c, e, h1⟩ := F.e62 (HS.out 5 (by decide) h); exact ⟨s, c, e, fun h5 => h1 (by rw [HSET.out, if_neg (by decide)] at h5; exact h5)⟩
            e63 := fun h => F.e63 (HS.out 6 (by decide) h)
            e64 := fun h => F.e64 (HS.out 7 (by decide) h)
            e65 := fun h => F.e65 (HS.out 8 (by decide) h)
            e66 := fun h => F.e66 (HS.out 9 (by decide) h)
            e67 := fun h => by obtain ⟨h5, s, c, e, h1⟩ := F.e67 (HS.out 10 (by decide) h); exact ⟨by rw [HSET.out]; split; rfl; exact h5, s, c, e, h1⟩
            e68 := fun h => F.e68 (HS.out 11 (by decide) h) }⟩⟩
      · have d0 : l.getD 0 false = true := by simp [Region.binds] at hd; simp [hd]
        have d4 : l.getD 4 false = true := by simp [Region.binds] at hd; simp [hd]
        obtain ⟨g1, rfl, hown1⟩ := F.e57 d0
        replace hown1 := hown1 hu'
        obtain rfl := F.e61 d4
        have hyl : (prs.drop k).length = prs.length - k := List.length_drop
        have hel := (HPR.out _ F.kept).row.drop k
        rw [Nat.mul_one] at hel
        refine wpOp_open rfl (fun K hK => ?_)
        refine step_append_elems (ys := prs.drop k) _ (by rfl) _ _ _ (by rfl) W3.heap.size 38 i4 (.slice none 0 0) 1 24 Try.underlying23 HI4.out HZ4.out HN4.out HB4.out rfl (by decide) Pr.one (one_prs _) (.slice (some ⟨g1, 0, none⟩) 0 0) 0 [] (by rfl) hown1 _ _ (pc - k) (by rw [hyl]; rfl) hel (by rw [hyl]; unfold maxLen; omega) (by rw [hyl]; omega) F.kept.size ?_
        intro v' w3 hown3 hg3 hat
        rw [hyl, Nat.zero_add, List.nil_append] at hown3
        obtain ⟨g3, c3, rfl, hg31, hg32⟩ := World.ownsRow.form hown3 (by omega)
        have hg1 : W3.heap.size ≤ g1 := (World.ownsRow.lt hown1 g1 rfl).1
        have hkw : Kept (fun q => q = g1) w2 w3 := (Kept.refl _ w2).grown hg3 (fun q _ e => by simp only [Value.ownBlock, Option.some.injEq] at e; exact e.symm)
        simp only [Act.put, List.setIfInBounds_toArray]
        exact hK.out _ _ ⟨_, _, _, _, _, _, _, _, _, _, _, _, rfl, .inl ⟨by rw [HSET.out, if_neg (by decide)]; exact hlast,
          { kept := F.kept.trans hkw (fun i hi e => by omega)
            e57 := fun _ => ⟨g1, rfl, fun h5 => by rw [HSET.out, if_pos rfl] at h5; cases h5⟩
            e58 := fun h => F.e58 (HS.out 1 (by decide) h)
            e59 := fun h => F.e59 (HS.out 2 (by decide) h)
            e60 := fun h => F.e60 (HS.out 3 (by decide) h)
            e61 := fun h => F.e61 (HS.out 4 (by decide) h)
            e62 := fun _ => ⟨_, _, rfl, fun _ => hown3⟩
            e63 := fun h => F.e63 (HS.out 6 (by decide) h)
            e64 := fun h => F.e64 (HS.out 7 (by decide) h)
            e65 := fun h => F.e65 (HS.out 8 (by decide) h)
            e66 := fun h => F.e66 (HS.out 9 (by decide) h)
            e67 := fun h => by exfalso; have h5 := (F.e67 (HS.out 10 (by decide) h)).1; rw [h5] at hu'; cases hu'
            e68 := fun h => F.e68 (HS.out 11 (by decide) h) }⟩⟩
      · refine wpOp_open rfl (fun K hK => ?_)
        go_simp
        exact hK.out _ _ ⟨_, _, _, _, _, _, _, _, _, _, _, _, rfl, .inl ⟨by rw [HSET.out, if_neg (by decide)]; exact hlast,
          { kept := F.kept
            e57 := fun h => by obtain ⟨g', e, h1⟩ := F.e57 (HS.out 0 (by decide) h); exact ⟨g', e, fun h5 => h1 (by rw [HSET.out, if_neg (by decide)] at h5; exact h5)⟩
            e58 := fun h => F.e58 (HS.out 1 (by decide) h)
            e59 := fun h => F.e59 (HS.out 2 (by decide) h)
            e60 := fun h => F.e60 (HS.out 3 (by decide) h)
            e61 := fun h => F.e61 (HS.out 4 (by decide) h)
            e62 := fun h => by obtain ⟨s, c, e, h1⟩ := F.e62 (HS.out 5 (by decide) h); exact ⟨s, c, e, fun h5 => h1 (by rw [HSET.out, if_neg (by decide)] at h5; exact h5)⟩
            e63 := fun _ => rfl
            e64 := fun h => F.e64 (HS.out 7 (by decide) h)
            e65 := fun h => F.e65 (HS.out 8 (by decide) h)
            e66 := fun h => F.e66 (HS.out 9 (by decide) h)
            e67 := fun h => by obtain ⟨h5, s, c, e, h1⟩ := F.e67 (HS.out 10 (by decide) h); exact ⟨by rw [HSET.out]; split; rfl; exact h5, s, c, e, h1⟩
            e68 := fun h => F.e68 (HS.out 11 (by decide) h) }⟩⟩
      · have d6 : l.getD 6 false = true := by simp [Region.binds] at hd; simp [hd]
        obtain rfl := F.e63 d6
        have c1 := HCELL.out _ F.kept
        refine wpOp_open rfl (fun K hK => ?_)
        go_simp
        exact hK.out _ _ ⟨_, _, _, _, _, _, _, _, _, _, _, _, rfl, .inl ⟨by rw [HSET.out, if_neg (by decide)]; exact hlast,
          { kept := F.kept
            e57 := fun h => by obtain ⟨g', e, h1⟩ := F.e57 (HS.out 0 (by decide) h); exact ⟨g', e, fun h5 => h1 (by rw [HSET.out, if_neg (by decide)] at h5; exact h5)⟩
            e58 := fun h => F.e58 (HS.out 1 (by decide) h)
            e59 := fun h => F.e59 (HS.out 2 (by decide) h)
            e60 := fun h => F.e60 (HS.out 3 (by decide) h)
            e61 := fun h => F.e61 (HS.out 4 (by decide) h)
            e62 := fun h => by obtain ⟨s, c, e, h1⟩ := F.e62 (HS.out 5 (by decide) h); exact ⟨s, c, e, fun h5 => h1 (by rw [HSET.out, if_neg (by decide)] at h5; exact h5)⟩
            e63 := fun h => F.e63 (HS.out 6 (by decide) h)
            e64 := fun _ => rfl
            e65 := fun h => F.e65 (HS.out 8 (by decide) h)
            e66 := fun h => F.e66 (HS.out 9 (by decide) h)
            e67 := fun h => by obtain ⟨h5, s, c, e, h1⟩ := F.e67 (HS.out 10 (by decide) h); exact ⟨by rw [HSET.out]; split; rfl; exact h5, s, c, e, h1⟩
            e68 := fun h => F.e68 (HS.out 11 (by decide) h) }⟩⟩
      · refine wpOp_open rfl (fun K hK => ?_)
        go_simp
        exact hK.out _ _ ⟨_, _, _, _, _, _, _, _, _, _, _, _, rfl, .inl ⟨by rw [HSET.out, if_neg (by decide)]; exact hlast,
          { kept := F.kept
            e57 := fun h => by obtain ⟨g', e, h1⟩ := F.e57 (HS.out 0 (by decide) h); exact ⟨g', e, fun h5 => h1 (by rw [HSET.out, if_neg (by decide)] at h5; exact h5)⟩
            e58 := fun h => F.e58 (HS.out 1 (by decide) h)
            e59 := fun h => F.e59 (HS.out 2 (by decide) h)
            e60 := fun h => F.e60 (HS.out 3 (by decide) h)
            e61 := fun h => F.e61 (HS.out 4 (by decide) h)
            e62 := fun h => by obtain ⟨s, c, e, h1⟩ := F.e62 (HS.out 5 (by decide) h); exact ⟨s, c, e, fun h5 => h1 (by rw [HSET.out, if_neg (by decide)] at h5; exact h5)⟩
            e63 := fun h => F.e63 (HS.out 6 (by decide) h)
            e64 := fun h => F.e64 (HS.out 7 (by decide) h)
            e65 := fun _ => rfl
            e66 := fun h => F.e66 (HS.out 9 (by decide) h)
            e67 := fun h => by obtain ⟨h5, s, c, e, h1⟩ := F.e67 (HS.out 10 (by decide) h); exact ⟨by rw [HSET.out]; split; rfl; exact h5, s, c, e, h1⟩
            e68 := fun h => F.e68 (HS.out 11 (by decide) h) }⟩⟩
      · have d7 : l.getD 7 false = true := by simp [Region.binds] at hd; simp [hd]
        have d8 : l.getD 8 false = true := by simp [Region.binds] at hd; simp [hd]
        obtain rfl := F.e64 d7
        obtain rfl := F.e65 d8
        refine wpOp_open rfl (fun K hK => ?_)
        go_simp
        exact hK.out _ _ ⟨_, _, _, _, _, _, _, _, _, _, _, _, rfl, .inl ⟨by rw [HSET.out, if_neg (by decide)]; exact hlast,
          { kept := F.kept
            e57 := fun h => by obtain ⟨g', e, h1⟩ := F.e57 (HS.out 0 (by decide) h); exact ⟨g', e, fun h5 => h1 (by rw [HSET.out, if_neg (by decide)] at h5; exact h5)⟩
            e58 := fun h => F.e58 (HS.out 1 (by decide) h)
            e59 := fun h => F.e59 (HS.out 2 (by decide) h)
            e60 := fun h => F.e60 (HS.out 3 (by decide) h)
            e61 := fun h => F.e61 (HS.out 4 (by decide) h)
            e62 := fun h => by obtain ⟨s, c, e, h1⟩ := F.e62 (HS.out 5 (by decide) h); exact ⟨s, c, e, fun h5 => h1 (by rw [HSET.out, if_neg (by decide)] at h5; exact h5)⟩
            e63 := fun h => F.e63 (HS.out 6 (by decide) h)
            e64 := fun h => F.e64 (HS.out 7 (by decide) h)
            e65 := fun h => F.e65 (HS.out 8 (by decide) h)
            e66 := fun _ => rfl
            e67 := fun h => by obtain ⟨h5, s, c, e, h1⟩ := F.e67 (HS.out 10 (by decide) h); exact ⟨by rw [HSET.out]; split; rfl; exact h5, s, c, e, h1⟩
            e68 := fun h => F.e68 (HS.out 11 (by decide) h) }⟩⟩
      · have d5 : l.getD 5 false = true := by simp [Region.binds] at hd; simp [hd]
        have d9 : l.getD 9 false = true := by simp [Region.binds] at hd; simp [hd]
        obtain ⟨s1, c1, rfl, hown1⟩ := F.e62 d5
        replace hown1 := hown1 hu'
        obtain rfl := F.e66 d9
        have hyl : (prs.take k).length = k := by rw [List.length_take]; omega
        have hel := (HPR.out _ F.kept).row.take k
        refine wpOp_open rfl (fun K hK => ?_)
        refine step_append_elems (ys := prs.take k) _ (by rfl) _ _ _ (by rfl) W3.heap.size 38 i4 (.slice none 0 0) 1 24 Try.underlying23 HI4.out HZ4.out HN4.out HB4.out rfl (by decide) Pr.one (one_prs _) (.slice s1 (prs.length - k) c1) (prs.length - k) (flat Pr.cells (prs.drop k)) (by rfl) hown1 _ _ pc (by rw [hyl]; rfl) hel (by rw [hyl]; unfold maxLen; omega) (by rw [hyl]; omega) F.kept.size ?_
        intro v' w3 hown3 hg3 hat
        rw [hyl, ← flat_append] at hown3
        obtain ⟨g3, c3, rfl, hg31, hg32⟩ := World.ownsRow.form hown3 (by omega)
        have hkw : Kept (fun q => (Value.slice s1 (prs.length - k) c1).ownBlock = some q) w2 w3 := (Kept.refl _ w2).grown hg3 (fun q _ e => e)
        simp only [Act.put, List.setIfInBounds_toArray]
        exact hK.out _ _ ⟨_, _, _, _, _, _, _, _, _, _, _, _, rfl, .inl ⟨by rw [HSET.out, if_neg (by decide)]; exact hlast,
          { kept := F.kept.trans hkw (fun i hi e => by have := (World.ownsRow.lt hown1 i e).1; omega)
            e57 := fun h => by obtain ⟨g', e, h1⟩ := F.e57 (HS.out 0 (by decide) h); exact ⟨g', e, fun h5 => by rw [HSET.out, if_neg (by decide), d5] at h5; cases h5⟩
            e58 := fun h => F.e58 (HS.out 1 (by decide) h)
            e59 := fun h => F.e59 (HS.out 2 (by decide) h)
            e60 := fun h => F.e60 (HS.out 3 (by decide) h)
            e61 := fun h => F.e61 (HS.out 4 (by decide) h)
            e62 := fun _ => ⟨_, _, rfl, fun h5 => by rw [HSET.out, if_pos rfl] at h5; cases h5⟩
            e63 := fun h => F.e63 (HS.out 6 (by decide) h)
            e64 := fun h => F.e64 (HS.out 7 (by decide) h)
            e65 := fun h => F.e65 (HS.out 8 (by decide) h)
            e66 := fun h => F.e66 (HS.out 9 (by decide) h)
            e67 := fun _ => ⟨by rw [HSET.out, if_neg (by decide)]; exact d5, _, _, rfl, hown3⟩
            e68 := fun h => F.e68 (HS.out 11 (by decide) h) }⟩⟩
      · refine wpOp_open rfl (fun K hK => ?_)
        go_simp
        exact hK.out _ _ ⟨_, _, _, _, _, _, _, _, _, _, _, _, rfl, .inl ⟨by rw [HSET.out, if_neg (by decide)]; exact hlast,
          { kept := F.kept
            e57 := fun h => by obtain ⟨g', e, h1⟩ := F.e57 (HS.out 0 (by decide) h); exact ⟨g', e, fun h5 => h1 (by rw [HSET.out, if_neg (by decide)] at h5; exact h5)⟩
            e58 := fun h => F.e58 (HS.out 1 (by decide) h)
            e59 := fun h => F.e59 (HS.out 2 (by decide) h)
            e60 := fun h => F.e60 (HS.out 3 (by decide) h)
            e61 := fun h => F.e61 (HS.out 4 (by decide) h)
            e62 := fun h => by obtain ⟨s, c, e, h1⟩ := F.e62 (HS.out 5 (by decide) h); exact ⟨s, c, e, fun h5 => h1 (by rw [HSET.out, if_neg (by decide)] at h5; exact h5)⟩
            e63 := fun h => F.e63 (HS.out 6 (by decide) h)
            e64 := fun h => F.e64 (HS.out 7 (by decide) h)
            e65 := fun h => F.e65 (HS.out 8 (by decide) h)
            e66 := fun h => F.e66 (HS.out 9 (by decide) h)
            e67 := fun h => by obtain ⟨h5, s, c, e, h1⟩ := F.e67 (HS.out 10 (by decide) h); exact ⟨by rw [HSET.out]; split; rfl; exact h5, s, c, e, h1⟩
            e68 := fun _ => rfl }⟩⟩
      · have d10 : l.getD 10 false = true := by simp [Region.binds] at hd; simp [hd]
        have d11 : l.getD 11 false = true := by simp [Region.binds] at hd; simp [hd]
        obtain rfl := F.e68 d11
        obtain ⟨_, s1, c1, rfl, hown1⟩ := F.e67 d10
        have hall : ∀ j, j < 12 → l.getD j false = true := by
          simp [Region.binds] at hd
          intro j hj
          have hj' : j = 0 ∨ j = 1 ∨ j = 2 ∨ j = 3 ∨ j = 4 ∨ j = 5 ∨ j = 6 ∨ j = 7 ∨ j = 8 ∨ j = 9 ∨ j = 10 ∨ j = 11 := by omega
          rcases hj' with rfl | rfl | rfl | rfl | rfl | rfl | rfl | rfl | rfl | rfl | rfl | rfl <;> simp [hd]
        have hbk := (F.kept.block wD.heap.size (by omega) (fun f => f)).trans HBL.out
        have c1 : w2.cell? ⟨wD.heap.size, 1, none⟩ = some (.slice y.ps y.prs.length y.pc) := by rw [cell_at w2 _ 1 _ _ hbk]; rfl
        have f1 := frozen_at w2 wD.heap.size 1 _ _ hbk
        clear hbk
        refine wpOp_open rfl (fun K hK => ?_)
        go_simp
        exact hK.out _ _ ⟨_, _, _, _, _, _, _, _, _, _, _, _, rfl, .inr ⟨by rw [HSET.out, if_pos rfl], fun j hj => by rw [HSET.out]; split; rfl; exact hall j hj, l, w2, hall, F, rfl⟩⟩
    case hend =>
      intro l a w2 hs hI hr
      have hs' : l.size = 13 := hs
      obtain ⟨v57, v58, v59, v60, v61, v62, v63, v64, v65, v66, v67, v68, rfl, ⟨hlast, F⟩ | ⟨_, _, l0, w0, hall0, F, rfl⟩⟩ := hI
      case inl =>
        exfalso
        have e0 : l.getD 0 false = true := getD_same (by omega) (ready_in (i := 0) hr (by decide) (by simp [Region.binds]))
        have q0 : l[0]?.getD false = true := by simpa using e0
        have e1 : l.getD 1 false = true := getD_same (by omega) (ready_in (i := 1) hr (by decide) (by simp [Region.binds]))
        have q1 : l[1]?.getD false = true := by simpa using e1
        have e2 : l.getD 2 false = true := getD_same (by omega) (ready_in (i := 2) hr (by decide) (by simp [Region.binds, q1]))
        have q2 : l[2]?.getD false = true := by simpa using e2
        have e3 : l.getD 3 false = true := getD_same (by omega) (ready_in (i := 3) hr (by decide) (by simp [Region.binds]))
        have q3 : l[3]?.getD false = true := by simpa using e3
        have e4 : l.getD 4 false = true := getD_same (by omega) (ready_in (i := 4) hr (by decide) (by simp [Region.binds, q2, q3]))
        have q4 : l[4]?.getD false = true := by simpa using e4
        have e5 : l.getD 5 false = true := getD_same (by omega) (ready_in (i := 5) hr (by decide) (by simp [Region.binds, q0, q4]))
        have q5 : l[5]?.getD false = true := by simpa using e5
        have e6 : l.getD 6 false = true := getD_same (by omega) (ready_in (i := 6) hr (by decide) (by simp [Region.binds]))
        have q6 : l[6]?.getD false = true := by simpa using e6
        have e7 : l.getD 7 false = true := getD_same (by omega) (ready_in (i := 7) hr (by decide) (by simp [Region.binds, q6]))
        have q7 : l[7]?.getD false = true := by simpa using e7
        have e8 : l.getD 8 false = true := getD_same (by omega) (ready_in (i := 8) hr (by decide) (by simp [Region.binds]))
        have q8 : l[8]?.getD false = true := by simpa using e8
        have e9 : l.getD 9 false = true := getD_same (by omega) (ready_in (i := 9) hr (by decide) (by simp [Region.binds, q7, q8]))
        have q9 : l[9]?.getD false = true := by simpa using e9
        have e10 : l.getD 10 false = true := getD_same (by omega) (ready_in (i := 10) hr (by decide) (by simp [Region.binds, q5, q9]))
        have q10 : l[10]?.getD false = true := by simpa using e10
        have e11 : l.getD 11 false = true := getD_same (by omega) (ready_in (i := 11) hr (by decide) (by simp [Region.binds, q0, q1, q2, q3, q4, q5, q6, q7, q8, q9, q10]))
        have q11 : l[11]?.getD false = true := by simpa using e11
        have e12 : l.getD 12 false = true := getD_same (by omega) (ready_in (i := 12) hr (by decide) (by simp [Region.binds, q0, q1, q2, q3, q4, q5, q6, q7, q8, q9, q10, q11]))
        have q12 : l[12]?.getD false = true := by simpa using e12
        rw [e12] at hlast
        cases hlast
      obtain ⟨_, s3, c3, hv67, hown3⟩ := F.e67 (hall0 10 (by omega))
      rw [show prs.length - k + k = prs.length from by omega] at hv67 hown3
      subst hv67
      have hkS : Kept (fun q => q = wD.heap.size) w0 (w0.setCell ⟨wD.heap.size, 1, none⟩ (.slice s3 prs.length c3)) := (Kept.refl (fun q => q = wD.heap.size) w0).setCell _ _ (fun _ => rfl)
      have hql : (prs.drop k ++ prs.take k).length = prs.length := by rw [List.length_append, List.length_drop, List.length_take]; omega
      have hqm : ∀ q ∈ prs.drop k ++ prs.take k, q ∈ prs := fun q hq => (List.mem_append.1 hq).elim List.mem_of_mem_drop List.mem_of_mem_take
      have hblE := set_block (o := 1) (v := .slice s3 prs.length c3) ((F.kept.block wD.heap.size (by omega) (fun f => f)).trans HBL.out)
      have hzW := F.kept.size
      have hownE := own_kept hown3 hkS (fun q hq e => by have := (World.ownsRow.lt hown3 q hq).1; omega)
      have hkB : Kept (fun q => q = wD.heap.size ∨ W3.heap.size ≤ q) W3 (w0.setCell ⟨wD.heap.size, 1, none⟩ (.slice s3 prs.length c3)) := (F.kept.mono (fun _ _ f => f.elim)).trans hkS (fun _ _ e => .inl e)
      have hopE : ∀ q ∈ prs, Elems (w0.setCell ⟨wD.heap.size, 1, none⟩ (.slice s3 prs.length c3)) w.heap.size q.s 5 Cl.cells q.ops := fun q hq => ((HPR.out _ F.kept).ops q hq).kept hkS (by omega) (fun i hi e => by omega)
      have hkWE : Kept (fun _ => False) w (w0.setCell ⟨wD.heap.size, 1, none⟩ (.slice s3 prs.length c3)) := ((HK0.out.trans HKV.out (fun _ _ f => f)).trans F.kept (fun _ _ f => f)).trans hkS (fun i hi e => by omega)
      have hcxE := (hkS.cell (p := ⟨w.heap.size, 1, none⟩) (by show w.heap.size < w0.heap.size; omega) (by show ¬ w.heap.size = wD.heap.size; omega)).trans (HCELL.out _ F.kept)
      have hrwE : Elems (w0.setCell ⟨wD.heap.size, 1, none⟩ (.slice s3 prs.length c3)) w.heap.size (some ⟨g, off, none⟩) 1 Pr.cells prs := (HPR.out _ F.kept).row.kept hkS (by omega) (fun i hi e => by omega)
      have hzE : w0.heap.size ≤ (w0.setCell ⟨wD.heap.size, 1, none⟩ (.slice s3 prs.length c3)).heap.size := hkS.size
      have hrb : ∀ q, (Value.slice s3 prs.length c3).ownBlock = some q → W3.heap.size ≤ q := fun q hq => (World.ownsRow.lt hown3 q hq).1
      clear hkS hown3 hr hs hs' hall0
      clear F
      generalize (w0.setCell ⟨wD.heap.size, 1, none⟩ (.slice s3 prs.length c3)) = wE at *
      replace hblE : wE.heap[wD.heap.size]? = some (.cells #[.slice y.os y.obs.length y.oc, .slice s3 prs.length c3, .slice y.ks y.pis.length y.kc] 26 (0, 0)) := hblE
      have hlE := turned_lies (HV.out.ends hkB) hownE hql.symm (by rw [hql]; unfold maxLen; omega) (fun q hq => hopE q (hqm q hq)) (by omega)
      have hck := check_small hlE (Nat.le_refl _) (large_turned (x := ⟨os, oc, obs, some ⟨g, off, none⟩, pc, prs, ks, kc, pis⟩) (k := k) HY1.out HY2.out rfl HL.out) true (good_turned (x := ⟨os, oc, obs, some ⟨g, off, none⟩, pc, prs, ks, kc, pis⟩) (k := k) HY1.out HY2.out rfl HG.out)
      change Calls _ _ #[.agg #[.slice y.os y.obs.length y.oc, .slice s3 (prs.drop k ++ prs.take k).length c3, .slice y.ks y.pis.length y.kc]] _ _ at hck
      rw [hql] at hck
      have HCK := Lib.hid hck; clear hck
      have c0 : wE.cell? ⟨wD.heap.size, 0, none⟩ = some (.slice y.os y.obs.length y.oc) := by rw [cell_at wE _ 0 _ _ hblE]; rfl
      have c1 : wE.cell? ⟨wD.heap.size, 1, none⟩ = some (.slice s3 prs.length c3) := by rw [cell_at wE _ 1 _ _ hblE]; rfl
      have c2 : wE.cell? ⟨wD.heap.size, 2, none⟩ = some (.slice y.ks y.pis.length y.kc) := by rw [cell_at wE _ 2 _ _ hblE]; rfl
      have HBLE := Lib.hid hblE; clear hblE
      have HOWE := Lib.hid hownE; clear hownE
      have HKB := Lib.hid hkB; clear hkB
      have HOPE := Lib.hid hopE; clear hopE
      have HKWE := Lib.hid hkWE; clear hkWE
      have HCXE := Lib.hid hcxE; clear hcxE
      have HRWE := Lib.hid hrwE; clear hrwE
      have HLE := Lib.hid hlE; clear hlE
      have HQM := Lib.hid hqm; clear hqm
      have HQL := Lib.hid hql; clear hql
      have HRB := Lib.hid hrb; clear hrb
      clear cb
      go_wp2_with fail
      refine (HCK.out).mono ?_
      rintro e wF ⟨rfl, hkF⟩
      clear c0 c1 c2 HCK
      have hzF := hkF.size
      have HBLF := Lib.hid ((hkF.block wD.heap.size (by omega) (fun f => f)).trans HBLE.out)
      have HOWN := Lib.hid (own_kept HOWE.out hkF (fun _ _ f => f))
      have HOWN2 : RowKit.Hid (wF.ownsRow W3.heap.size 38 1 (.slice s3 prs.length c3) prs.length (flat Pr.cells (prs.drop k ++ prs.take k))) := HOWN
      have HROWB : RowKit.Hid (¬ (Value.slice s3 prs.length c3).ownBlock = some wD.heap.size) := Lib.hid (fun e => by have := HRB.out _ e; omega)
      obtain ⟨p, hp⟩ : ∃ p, prs[k]? = some p := ⟨_, List.getElem?_eq_getElem (by omega)⟩
      have HCX := Lib.hid (fun (w' : World) (hk : Kept (fun q => (Value.slice s3 prs.length c3).ownBlock = some q) wF w') => ((hk.cell (p := ⟨w.heap.size, 1, none⟩) (by show w.heap.size < wF.heap.size; omega) (fun e => by have := HRB.out _ e; have : (⟨w.heap.size, 1, none⟩ : Addr).block = w.heap.size := rfl; omega)).trans (hkF.cell (p := ⟨w.heap.size, 1, none⟩) (by show w.heap.size < wE.heap.size; omega) (fun f => f))).trans HCXE.out)
      have hrwF := HRWE.out.kept hkF (by omega) (fun _ _ f => f)
      have HCR := Lib.hid (fun (w' : World) (hk : Kept (fun q => (Value.slice s3 prs.length c3).ownBlock = some q) wF w') => by
        obtain ⟨g', off', e, _, h⟩ := pr_at (hrwF.kept hk (by omega) (fun i hi e => by have := HRB.out _ e; omega)) hp
        simp only [Option.some.injEq, Addr.mk.injEq, and_true] at e
        obtain ⟨rfl, rfl⟩ := e
        exact h)
      have HP := Lib.hid hp; clear hp hrwF
      have HKF := Lib.hid hkF; clear hkF
      have k4 : (k : Int) < (prs.length : Int) := by omega
      go_wp2_with fail
      refine wp_region_any (by kernel_rfl) (wpAny_inv (AgainInv wF W3.heap.size w.heap.size wD.heap.size k g off pc prs.length s3 c3 (prs.drop k ++ prs.take k) p (fun v71 v72 v73 v74 v75 v76 v77 v78 v79 v80 => ⟨#[({ os := os, oc := oc, obs := obs, ps := some { block := g, off := off }, pc := pc, prs := prs, ks := ks, kc := kc, pis := pis } : Sc).agg, Value.int IntKind.i64 a1, Value.pointer (some { block := w.heap.size, off := 0 }), undef, Value.bool false, Value.bool true, Value.bool true, Value.nilIface, Value.int IntKind.i64 ↑prs.length, Value.int IntKind.i64 ↑k, Value.pointer (some { block := wD.heap.size, off := 0 }), Value.nilIface, undef, Value.bool true, Value.agg #[Value.slice os obs.length oc, Value.slice (some { block := g, off := off }) prs.length pc, Value.slice ks pis.length kc], Value.bool true, Value.bool true, Value.bool false, undef, Value.agg #[Value.slice os obs.length oc, Value.slice (some { block := g, off := off }) prs.length pc, Value.slice ks pis.length kc], Value.nilIface, Value.pointer (some { block := w.heap.size, off := 1 }), Value.slice (some { block := g, off := off }) prs.length pc, Value.int IntKind.i64 ↑prs.length, Value.nilIface, Value.bool false, Value.bool false, Value.int IntKind.i64 ↑prs.length, Value.bool false, Value.bool false, Value.bool false, Value.int IntKind.i64 ↑prs.length, Value.bool false, Value.bool false, undef, undef, undef, undef, undef, undef, undef, undef, undef, undef, undef, undef, undef, Value.int IntKind.i64 a1, Value.bool (decide (a1 < 0)), undef, undef, undef, Value.int IntKind.i64 a1, Value.int IntKind.i64 ↑prs.length, Value.int IntKind.i64 ↑k, Value.agg #[Value.slice os obs.length oc, Value.slice (some { block := g, off := off }) prs.length pc, Value.slice ks pis.length kc], y.agg, v57, v58, v59, v60, v61, v62, v63, v64, v65, v66, Value.slice s3 prs.length c3, v68, Value.agg #[Value.slice y.os y.obs.length y.oc, Value.slice s3 prs.length c3, Value.slice y.ks y.pis.length y.kc], Value.nilIface, v71, v72, v73, v74, v75, v76, v77, v78, v79, v80, undef, undef, undef, undef, undef, undef, undef, undef, undef, undef, undef, undef, undef, undef], []⟩)) ?hstep ?hend _ _ _ _ (by simp) (by simp) ?hstart)
      case hstart =>
        exact ⟨_, _, _, _, _, _, _, _, _, _, rfl, .inl ⟨by simp, ⟨(Kept.refl _ _).drew, fun _ => (Kept.refl _ _).drew, fun h => by simp at h, fun h => by simp at h, fun h => by simp at h, fun h => by simp at h, fun h => by simp at h, fun h => by simp at h, fun h => by simp at h, fun h => by simp at h, fun h => by simp at h, fun h => by simp at h⟩⟩⟩
      case hstep =>
        intro l a w2 i hs hI hi
        have hs' : l.size = 11 := hs
        obtain ⟨hlt, hu, hd⟩ := ready_of hi
        have hset : ∀ j b, (l.setIfInBounds i true).getD j b = if j = i then true else l.getD j b := fun j b => getD_set (by omega)
        have hlt' : i < 11 := hlt
        clear hi hlt
        have hu' := getD_false hu
        obtain ⟨v71, v72, v73, v74, v75, v76, v77, v78, v79, v80, rfl, ⟨hlast, F⟩ | ⟨hlast, hall, _⟩⟩ := hI
        case inr =>
          exfalso
          by_cases hil : i = 10
          · subst hil; rw [hlast] at hu'; cases hu'
          · rw [hall i (by omega)] at hu'; cases hu'
        have hi : i = 0 ∨ i = 1 ∨ i = 2 ∨ i = 3 ∨ i = 4 ∨ i = 5 ∨ i = 6 ∨ i = 7 ∨ i = 8 ∨ i = 9 ∨ i = 10 := by omega
        clear hlt'
        have hsj : ∀ j, j ≠ i → (l.setIfInBounds i true).getD j false = true → l.getD j false = true := fun j hj h => by rw [hset, if_neg hj] at h; exact h
        have HS := Lib.hid hsj; clear hsj
        have HSET := Lib.hid hset; clear hset
        rcases hi with rfl | rfl | rfl | rfl | rfl | rfl | rfl | rfl | rfl | rfl | rfl
        · refine wpOp_open rfl (fun K hK => ?_)
          go_simp
          exact hK.out _ _ ⟨_, _, _, _, _, _, _, _, _, _, rfl, .inl ⟨by rw [HSET.out, if_neg (by decide)]; exact hlast,
            { kept := F.kept
              calm := fun h => F.calm (by rw [HSET.out, if_neg (by decide)] at h; exact h)
              e71 := fun _ => rfl
              e72 := fun h => F.e72 (HS.out 1 (by decide) h)
              e73 := fun h => F.e73 (HS.out 2 (by decide) h)
              e74 := fun h => F.e74 (HS.out 3 (by decide) h)
              e75 := fun h => F.e75 (HS.out 4 (by decide) h)
              e76 := fun h => F.e76 (HS.out 5 (by decide) h)
              e77 := fun h => F.e77 (HS.out 6 (by decide) h)
              e78 := fun h => F.e78 (HS.out 7 (by decide) h)
              e79 := fun h => F.e79 (HS.out 8 (by decide) h)
              e80 := fun h => F.e80 (HS.out 9 (by decide) h) }⟩⟩
        · have d0 : l.getD 0 false = true := by simp [Region.binds] at hd; simp [hd]
          obtain rfl := F.e71 d0
          have hbk := (F.kept.block wD.heap.size (by omega) HROWB.out).trans HBLF.out
          have c1 : w2.cell? ⟨wD.heap.size, 1, none⟩ = some (.slice s3 prs.length c3) := by rw [cell_at w2 _ 1 _ _ hbk]; rfl
          clear hbk
          refine wpOp_open rfl (fun K hK => ?_)
          go_simp
          exact hK.out _ _ ⟨_, _, _, _, _, _, _, _, _, _, rfl, .inl ⟨by rw [HSET.out, if_neg (by decide)]; exact hlast,
            { kept := F.kept
              calm := fun h => F.calm (by rw [HSET.out, if_neg (by decide)] at h; exact h)
              e71 := fun h => F.e71 (HS.out 0 (by decide) h)
              e72 := fun _ => rfl
              e73 := fun h => F.e73 (HS.out 2 (by decide) h)
              e74 := fun h => F.e74 (HS.out 3 (by decide) h)
              e75 := fun h => F.e75 (HS.out 4 (by decide) h)
              e76 := fun h => F.e76 (HS.out 5 (by decide) h)
              e77 := fun h => F.e77 (HS.out 6 (by decide) h)
              e78 := fun h => F.e78 (HS.out 7 (by decide) h)
              e79 := fun h => F.e79 (HS.out 8 (by decide) h)
              e80 := fun h => F.e80 (HS.out 9 (by decide) h) }⟩⟩
        · refine wpOp_open rfl (fun K hK => ?_)
          go_simp
          exact hK.out _ _ ⟨_, _, _, _, _, _, _, _, _, _, rfl, .inl ⟨by rw [HSET.out, if_neg (by decide)]; exact hlast,
            { kept := F.kept
              calm := fun h => F.calm (by rw [HSET.out, if_neg (by decide)] at h; exact h)
              e71 := fun h => F.e71 (HS.out 0 (by decide) h)
              e72 := fun h => F.e72 (HS.out 1 (by decide) h)
              e73 := fun _ => rfl
              e74 := fun h => F.e74 (HS.out 3 (by decide) h)
              e75 := fun h => F.e75 (HS.out 4 (by decide) h)
              e76 := fun h => F.e76 (HS.out 5 (by decide) h)
              e77 := fun h => F.e77 (HS.out 6 (by decide) h)
              e78 := fun h => F.e78 (HS.out 7 (by decide) h)
              e79 := fun h => F.e79 (HS.out 8 (by decide) h)
              e80 := fun h => F.e80 (HS.out 9 (by decide) h) }⟩⟩
        · have d2 : l.getD 2 false = true := by simp [Region.binds] at hd; simp [hd]
          obtain rfl := F.e73 d2
          have c1 := HCX.out _ F.kept
          refine wpOp_open rfl (fun K hK => ?_)
          go_simp
          exact hK.out _ _ ⟨_, _, _, _, _, _, _, _, _, _, rfl, .inl ⟨by rw [HSET.out, if_neg (by decide)]; exact hlast,
            { kept := F.kept
              calm := fun h => F.calm (by rw [HSET.out, if_neg (by decide)] at h; exact h)
              e71 := fun h => F.e71 (HS.out 0 (by decide) h)
              e72 := fun h => F.e72 (HS.out 1 (by decide) h)
              e73 := fun h => F.e73 (HS.out 2 (by decide) h)
              e74 := fun _ => rfl
              e75 := fun h => F.e75 (HS.out 4 (by decide) h)
              e76 := fun h => F.e76 (HS.out 5 (by decide) h)
              e77 := fun h => F.e77 (HS.out 6 (by decide) h)
              e78 := fun h => F.e78 (HS.out 7 (by decide) h)
              e79 := fun h => F.e79 (HS.out 8 (by decide) h)
              e80 := fun h => F.e80 (HS.out 9 (by decide) h) }⟩⟩
        · refine wpOp_open rfl (fun K hK => ?_)
          go_simp
          exact hK.out _ _ ⟨_, _, _, _, _, _, _, _, _, _, rfl, .inl ⟨by rw [HSET.out, if_neg (by decide)]; exact hlast,
            { kept := F.kept
              calm := fun h => F.calm (by rw [HSET.out, if_neg (by decide)] at h; exact h)
              e71 := fun h => F.e71 (HS.out 0 (by decide) h)
              e72 := fun h => F.e72 (HS.out 1 (by decide) h)
              e73 := fun h => F.e73 (HS.out 2 (by decide) h)
              e74 := fun h => F.e74 (HS.out 3 (by decide) h)
              e75 := fun _ => rfl
              e76 := fun h => F.e76 (HS.out 5 (by decide) h)
              e77 := fun h => F.e77 (HS.out 6 (by decide) h)
              e78 := fun h => F.e78 (HS.out 7 (by decide) h)
              e79 := fun h => F.e79 (HS.out 8 (by decide) h)
              e80 := fun h => F.e80 (HS.out 9 (by decide) h) }⟩⟩
        · have d3 : l.getD 3 false = true := by simp [Region.binds] at hd; simp [hd]
          have d4 : l.getD 4 false = true := by simp [Region.binds] at hd; simp [hd]
          obtain rfl := F.e74 d3
          obtain rfl := F.e75 d4
          refine wpOp_open rfl (fun K hK => ?_)
          go_simp
          exact hK.out _ _ ⟨_, _, _, _, _, _, _, _, _, _, rfl, .inl ⟨by rw [HSET.out, if_neg (by decide)]; exact hlast,
            { kept := F.kept
              calm := fun h => F.calm (by rw [HSET.out, if_neg (by decide)] at h; exact h)
              e71 := fun h => F.e71 (HS.out 0 (by decide) h)
              e72 := fun h => F.e72 (HS.out 1 (by decide) h)
              e73 := fun h => F.e73 (HS.out 2 (by decide) h)
              e74 := fun h => F.e74 (HS.out 3 (by decide) h)
              e75 := fun h => F.e75 (HS.out 4 (by decide) h)
              e76 := fun _ => rfl
              e77 := fun h => F.e77 (HS.out 6 (by decide) h)
              e78 := fun h => F.e78 (HS.out 7 (by decide) h)
              e79 := fun h => F.e79 (HS.out 8 (by decide) h)
              e80 := fun h => F.e80 (HS.out 9 (by decide) h) }⟩⟩
        · have d5 : l.getD 5 false = true := by simp [Region.binds] at hd; simp [hd]
          obtain rfl := F.e76 d5
          have c1 := HCR.out _ F.kept
          refine wpOp_open rfl (fun K hK => ?_)
          go_simp
          exact hK.out _ _ ⟨_, _, _, _, _, _, _, _, _, _, rfl, .inl ⟨by rw [HSET.out, if_neg (by decide)]; exact hlast,
            { kept := F.kept
              calm := fun h => F.calm (by rw [HSET.out, if_neg (by decide)] at h; exact h)
              e71 := fun h => F.e71 (HS.out 0 (by decide) h)
              e72 := fun h => F.e72 (HS.out 1 (by decide) h)
              e73 := fun h => F.e73 (HS.out 2 (by decide) h)
              e74 := fun h => F.e74 (HS.out 3 (by decide) h)
              e75 := fun h => F.e75 (HS.out 4 (by decide) h)
              e76 := fun h => F.e76 (HS.out 5 (by decide) h)
              e77 := fun _ => rfl
              e78 := fun h => F.e78 (HS.out 7 (by decide) h)
              e79 := fun h => F.e79 (HS.out 8 (by decide) h)
              e80 := fun h => F.e80 (HS.out 9 (by decide) h) }⟩⟩
        · have d6 : l.getD 6 false = true := by simp [Region.binds] at hd; simp [hd]
          obtain rfl := F.e77 d6
          have hk3 : Kept (fun _ => False) w2 (w2.alloc (.cells #[.slice p.s p.ops.length p.cap] 38)) := (Kept.refl _ w2).alloc _
          have F2 := F.on hk3
          refine wpOp_open rfl (fun K hK => ?_)
          go_simp
          exact hK.out _ _ ⟨_, _, _, _, _, _, _, _, _, _, rfl, .inl ⟨by rw [HSET.out, if_neg (by decide)]; exact hlast,
            { kept := F2.kept
              calm := fun h => F2.calm (by rw [HSET.out, if_neg (by decide)] at h; exact h)
              e71 := fun h => F2.e71 (HS.out 0 (by decide) h)
              e72 := fun h => F2.e72 (HS.out 1 (by decide) h)
              e73 := fun h => F2.e73 (HS.out 2 (by decide) h)
              e74 := fun h => F2.e74 (HS.out 3 (by decide) h)
              e75 := fun h => F2.e75 (HS.out 4 (by decide) h)
              e76 := fun h => F2.e76 (HS.out 5 (by decide) h)
              e77 := fun h => F2.e77 (HS.out 6 (by decide) h)
              e78 := fun _ => ⟨_, rfl, F.kept.size, heap_alloc_new w2 _⟩
              e79 := fun h => F2.e79 (HS.out 8 (by decide) h)
              e80 := fun h => F2.e80 (HS.out 9 (by decide) h) }⟩⟩
        · have d1 : l.getD 1 false = true := by simp [Region.binds] at hd; simp [hd]
          have d7 : l.getD 7 false = true := by simp [Region.binds] at hd; simp [hd]
          obtain rfl := F.e72 d1
          obtain ⟨B1, rfl, hB2, hB1⟩ := F.e78 d7
          have hcalm := F.calm hu'
          have hown2 := own_kept HOWN.out hcalm (fun _ _ f => f)
          have hz2 := hcalm.size
          refine wpOp_open rfl (fun K hK => ?_)
          refine step_append_elems (ys := [p]) _ (by rfl) _ _ _ (by rfl) W3.heap.size 38 i4 (.slice none 0 0) 1 24 Try.underlying23 HI4.out HZ4.out HN4.out HB4.out rfl (by decide) Pr.one (one_prs _) (.slice s3 prs.length c3) prs.length (flat Pr.cells (prs.drop k ++ prs.take k)) (by rfl) hown2 _ _ _ (by rfl) (Elems.block Pr.one hB1 rfl (by show 1 ≤ maxLen; decide)) (by show prs.length + 1 ≤ maxLen; unfold maxLen; omega) (by show (prs.length + 1) * 24 ≤ _; omega) (by omega) ?_
          intro v' w3 hown3 hg3 hat
          obtain ⟨g3, c4, rfl, hg31, hg32⟩ := World.ownsRow.form hown3 (by show 0 < prs.length + 1; omega)
          have hkw : Kept (fun q => (Value.slice s3 prs.length c3).ownBlock = some q) w2 w3 := (Kept.refl _ w2).grown hg3 (fun q _ e => e)
          rw [← flat_append] at hown3
          have hrlt : ∀ q, (Value.slice s3 prs.length c3).ownBlock = some q → q < wF.heap.size := fun q hq => (World.ownsRow.lt HOWN.out q hq).2
          simp only [Act.put, List.setIfInBounds_toArray]
          exact hK.out _ _ ⟨_, _, _, _, _, _, _, _, _, _, rfl, .inl ⟨by rw [HSET.out, if_neg (by decide)]; exact hlast,
            { kept := (hcalm.mono (fun _ _ f => f.elim)).trans hkw (fun _ _ e => e)
              calm := fun h => by rw [HSET.out, if_pos rfl] at h; cases h
              e71 := fun h => F.e71 (HS.out 0 (by decide) h)
              e72 := fun h => F.e72 (HS.out 1 (by decide) h)
              e73 := fun h => F.e73 (HS.out 2 (by decide) h)
              e74 := fun h => F.e74 (HS.out 3 (by decide) h)
              e75 := fun h => F.e75 (HS.out 4 (by decide) h)
              e76 := fun h => F.e76 (HS.out 5 (by decide) h)
              e77 := fun h => F.e77 (HS.out 6 (by decide) h)
              e78 := fun _ => ⟨B1, rfl, hB2, (hkw.block B1 (Array.getElem?_eq_some_iff.1 hB1).1 (fun hr => by have := hrlt B1 hr; omega)).trans hB1⟩
              e79 := fun _ => ⟨_, _, rfl, hown3, hat.imp id (fun e => ⟨_, e, hz2⟩)⟩
              e80 := fun h => F.e80 (HS.out 9 (by decide) h) }⟩⟩
        · refine wpOp_open rfl (fun K hK => ?_)
          go_simp
          exact hK.out _ _ ⟨_, _, _, _, _, _, _, _, _, _, rfl, .inl ⟨by rw [HSET.out, if_neg (by decide)]; exact hlast,
            { kept := F.kept
              calm := fun h => F.calm (by rw [HSET.out, if_neg (by decide)] at h; exact h)
              e71 := fun h => F.e71 (HS.out 0 (by decide) h)
              e72 := fun h => F.e72 (HS.out 1 (by decide) h)
              e73 := fun h => F.e73 (HS.out 2 (by decide) h)
              e74 := fun h => F.e74 (HS.out 3 (by decide) h)
              e75 := fun h => F.e75 (HS.out 4 (by decide) h)
              e76 := fun h => F.e76 (HS.out 5 (by decide) h)
              e77 := fun h => F.e77 (HS.out 6 (by decide) h)
              e78 := fun h => F.e78 (HS.out 7 (by decide) h)
              e79 := fun h => F.e79 (HS.out 8 (by decide) h)
              e80 := fun _ => rfl }⟩⟩
        · have d8 : l.getD 8 false = true := by simp [Region.binds] at hd; simp [hd]
          have d9 : l.getD 9 false = true := by simp [Region.binds] at hd; simp [hd]
          obtain rfl := F.e80 d9
          obtain ⟨s5, c5, rfl, hrest⟩ := F.e79 d8
          have hall : ∀ j, j < 10 → l.getD j false = true := by
            simp [Region.binds] at hd
            intro j hj
            have hj' : j = 0 ∨ j = 1 ∨ j = 2 ∨ j = 3 ∨ j = 4 ∨ j = 5 ∨ j = 6 ∨ j = 7 ∨ j = 8 ∨ j = 9 := by omega
            rcases hj' with rfl | rfl | rfl | rfl | rfl | rfl | rfl | rfl | rfl | rfl <;> simp [hd]
          have hbk := (F.kept.block wD.heap.size (by omega) HROWB.out).trans HBLF.out
          have c1 : w2.cell? ⟨wD.heap.size, 1, none⟩ = some (.slice s3 prs.length c3) := by rw [cell_at w2 _ 1 _ _ hbk]; rfl
          have f1 := frozen_at w2 wD.heap.size 1 _ _ hbk
          clear hbk
          refine wpOp_open rfl (fun K hK => ?_)
          go_simp
          exact hK.out _ _ ⟨_, _, _, _, _, _, _, _, _, _, rfl, .inr ⟨by rw [HSET.out, if_pos rfl], fun j hj => by rw [HSET.out]; split; rfl; exact hall j hj, l, w2, hall, F, rfl⟩⟩
      case hend =>
        intro l a w2 hs hI hr
        have hs' : l.size = 11 := hs
        obtain ⟨v71, v72, v73, v74, v75, v76, v77, v78, v79, v80, rfl, ⟨hlast, F⟩ | ⟨_, _, l0, w0, hall0, F, rfl⟩⟩ := hI
        case inl =>
          exfalso
          have e0 : l.getD 0 false = true := getD_same (by omega) (ready_in (i := 0) hr (by decide) (by simp [Region.binds]))
          have q0 : l[0]?.getD false = true := by simpa using e0
          have e1 : l.getD 1 false = true := getD_same (by omega) (ready_in (i := 1) hr (by decide) (by simp [Region.binds, q0]))
          have q1 : l[1]?.getD false = true := by simpa using e1
          have e2 : l.getD 2 false = true := getD_same (by omega) (ready_in (i := 2) hr (by decide) (by simp [Region.binds]))
          have q2 : l[2]?.getD false = true := by simpa using e2
          have e3 : l.getD 3 false = true := getD_same (by omega) (ready_in (i := 3) hr (by decide) (by simp [Region.binds, q2]))
          have q3 : l[3]?.getD false = true := by simpa using e3
          have e4 : l.getD 4 false = true := getD_same (by omega) (ready_in (i := 4) hr (by decide) (by simp [Region.binds]))
          have q4 : l[4]?.getD false = true := by simpa using e4
          have e5 : l.getD 5 false = true := getD_same (by omega) (ready_in (i := 5) hr (by decide) (by simp [Region.binds, q3, q4]))
          have q5 : l[5]?.getD false = true := by simpa using e5
          have e6 : l.getD 6 false = true := getD_same (by omega) (ready_in (i := 6) hr (by decide) (by simp [Region.binds, q5]))
          have q6 : l[6]?.getD false = true := by simpa using e6
          have e7 : l.getD 7 false = true := getD_same (by omega) (ready_in (i := 7) hr (by decide) (by simp [Region.binds, q6]))
          have q7 : l[7]?.getD false = true := by simpa using e7
          have e8 : l.getD 8 false = true := getD_same (by omega) (ready_in (i := 8) hr (by decide) (by simp [Region.binds, q1, q7]))
          have q8 : l[8]?.getD false = true := by simpa using e8
          have e9 : l.getD 9 false = true := getD_same (by omega) (ready_in (i := 9) hr (by decide) (by simp [Region.binds, q0, q1, q2, q3, q4, q5, q6, q7, q8]))
          have q9 : l[9]?.getD false = true := by simpa using e9
          have e10 : l.getD 10 false = true := getD_same (by omega) (ready_in (i := 10) hr (by decide) (by simp [Region.binds, q0, q1, q2, q3, q4, q5, q6, q7, q8, q9]))
          have q10 : l[10]?.getD false = true := by simpa using e10
          rw [e10] at hlast
          cases hlast
        obtain ⟨s5, c5, rfl, hown5, hat5⟩ := F.e79 (hall0 8 (by omega))
        have hpm := List.mem_of_getElem? HP.out
        have hpq : p ∈ prs.drop k ++ prs.take k := by
          rw [List.mem_append, List.mem_drop_iff_getElem]
          left
          obtain ⟨hlt, e⟩ := List.getElem?_eq_some_iff.1 HP.out
          exact ⟨0, by omega, by simpa using e⟩
        have hkS : Kept (fun q => q = wD.heap.size) w0 (w0.setCell ⟨wD.heap.size, 1, none⟩ (.slice s5 (prs.length + 1) c5)) := (Kept.refl (fun q => q = wD.heap.size) w0).setCell _ _ (fun _ => rfl)
        have hkR : Kept (fun q => q = wD.heap.size ∨ (Value.slice s3 prs.length c3).ownBlock = some q) wF (w0.setCell ⟨wD.heap.size, 1, none⟩ (.slice s5 (prs.length + 1) c5)) := (F.kept.mono (fun _ _ e => .inr e)).trans hkS (fun _ _ e => .inl e)
        have hql2 : (prs.drop k ++ prs.take k ++ [p]).length = prs.length + 1 := by rw [List.length_append, HQL.out]; rfl
        have hblG := set_block (o := 1) (v := .slice s5 (prs.length + 1) c5) ((F.kept.block wD.heap.size (by omega) HROWB.out).trans HBLF.out)
        have hzW := F.kept.size
        have h5b : ∀ q, (Value.slice s5 (prs.length + 1) c5).ownBlock = some q → wD.heap.size < q := by
          intro q hq
          rcases hat5 with h | ⟨g', h, h'⟩
          · have := HRB.out q (h.symm.trans hq); omega
          · have := h.symm.trans hq
            simp only [Option.some.injEq] at this
            omega
        have hownG := own_kept hown5 hkS (fun q hq e => by have := h5b q hq; omega)
        have hkBG : Kept (fun q => q = wD.heap.size ∨ W3.heap.size ≤ q) W3 (w0.setCell ⟨wD.heap.size, 1, none⟩ (.slice s5 (prs.length + 1) c5)) := (HKB.out.trans HKF.out (fun _ _ f => f.elim)).trans hkR (fun i hi e => e.imp id (fun e => HRB.out i e))
        have hopG : ∀ q ∈ prs, Elems (w0.setCell ⟨wD.heap.size, 1, none⟩ (.slice s5 (prs.length + 1) c5)) w.heap.size q.s 5 Cl.cells q.ops := fun q hq => ((HOPE.out q hq).kept HKF.out (by omega) (fun _ _ f => f)).kept hkR (by omega) (fun i hi e => e.elim (fun e => by omega) (fun e => by have := HRB.out i e; omega))
        have hkWG : Kept (fun _ => False) w (w0.setCell ⟨wD.heap.size, 1, none⟩ (.slice s5 (prs.length + 1) c5)) := (HKWE.out.trans HKF.out (fun _ _ f => f)).trans hkR (fun i hi e => e.elim (fun e => by omega) (fun e => by have := HRB.out i e; omega))
        have hzG : w0.heap.size ≤ (w0.setCell ⟨wD.heap.size, 1, none⟩ (.slice s5 (prs.length + 1) c5)).heap.size := hkS.size
        clear hkS hkR hown5 hat5 h5b hr hs hs' hall0
        clear F
        generalize (w0.setCell ⟨wD.heap.size, 1, none⟩ (.slice s5 (prs.length + 1) c5)) = wG at *
        replace hblG : wG.heap[wD.heap.size]? = some (.cells #[.slice y.os y.obs.length y.oc, .slice s5 (prs.length + 1) c5, .slice y.ks y.pis.length y.kc] 26 (0, 0)) := hblG
        have hqm2 : ∀ q ∈ prs.drop k ++ prs.take k ++ [p], q ∈ prs := fun q hq => (List.mem_append.1 hq).elim (HQM.out q) (fun hq => by simp only [List.mem_cons, List.not_mem_nil, or_false] at hq; subst hq; exact hpm)
        have hlG := turned_lies (HV.out.ends hkBG) hownG hql2.symm (by rw [hql2]; unfold maxLen; omega) (fun q hq => hopG q (hqm2 q hq)) (by omega)
        have hlz := large_turned (x := ⟨os, oc, obs, some ⟨g, off, none⟩, pc, prs, ks, kc, pis⟩) (y := ⟨y.os, y.oc, y.obs, s3, c3, prs.drop k ++ prs.take k, y.ks, y.kc, y.pis⟩) (k := k) HY1.out HY2.out rfl HL.out
        have hgz := good_turned (x := ⟨os, oc, obs, some ⟨g, off, none⟩, pc, prs, ks, kc, pis⟩) (y := ⟨y.os, y.oc, y.obs, s3, c3, prs.drop k ++ prs.take k, y.ks, y.kc, y.pis⟩) (k := k) HY1.out HY2.out rfl HG.out
        have hlz2 := large_again (x := ⟨y.os, y.oc, y.obs, s3, c3, prs.drop k ++ prs.take k, y.ks, y.kc, y.pis⟩) (y := ⟨y.os, y.oc, y.obs, s5, c5, prs.drop k ++ prs.take k ++ [p], y.ks, y.kc, y.pis⟩) (p := p) rfl rfl rfl hpq hlz
        have hgz2 := good_again (x := ⟨y.os, y.oc, y.obs, s3, c3, prs.drop k ++ prs.take k, y.ks, y.kc, y.pis⟩) (y := ⟨y.os, y.oc, y.obs, s5, c5, prs.drop k ++ prs.take k ++ [p], y.ks, y.kc, y.pis⟩) (p := p) rfl rfl rfl hpq hgz
        replace hlz2 : largeF (⟨y.os, y.oc, y.obs, s5, c5, prs.drop k ++ prs.take k ++ [p], y.ks, y.kc, y.pis⟩ : Sc) = !decide (prs.length < 8) := by
          rw [hlz2]
          show (!decide ((prs.drop k ++ prs.take k).length < 8)) = _
          rw [HQL.out]
        have c0 : wG.cell? ⟨wD.heap.size, 0, none⟩ = some (.slice y.os y.obs.length y.oc) := by rw [cell_at wG _ 0 _ _ hblG]; rfl
        have c1 : wG.cell? ⟨wD.heap.size, 1, none⟩ = some (.slice s5 (prs.length + 1) c5) := by rw [cell_at wG _ 1 _ _ hblG]; rfl
        have c2 : wG.cell? ⟨wD.heap.size, 2, none⟩ = some (.slice y.ks y.pis.length y.kc) := by rw [cell_at wG _ 2 _ _ hblG]; rfl
        clear hblG hkBG
        have HKWG := Lib.hid hkWG; clear hkWG
        by_cases h8 : prs.length < 8
        · have hck := check_small hlG (Nat.le_refl _) (by rw [hlz2, decide_eq_true h8]; rfl) true hgz2
          change Calls _ _ #[.agg #[.slice y.os y.obs.length y.oc, .slice s5 (prs.drop k ++ prs.take k ++ [p]).length c5, .slice y.ks y.pis.length y.kc]] _ _ at hck
          rw [hql2] at hck
          have HCK := Lib.hid hck
          clear hck hlG hlz hgz hlz2 hgz2 hqm2 hopG hownG hql2 hpm hpq
          have h8' : (prs.length : Int) < 8 := by omega
          go_wp2_with fail
          refine (HCK.out).mono ?_
          rintro e wH ⟨rfl, hkH⟩
          go_wp2_with fail
          go_ret
          exact ⟨rfl, HBEL.out _ (HKWG.out.trans hkH (fun _ _ f => f))⟩
        · have hck := check_large hlG (Nat.le_refl _) (by rw [hlz2, decide_eq_false h8]; rfl)
          change Calls _ _ #[.agg #[.slice y.os y.obs.length y.oc, .slice s5 (prs.drop k ++ prs.take k ++ [p]).length c5, .slice y.ks y.pis.length y.kc]] _ _ at hck
          rw [hql2] at hck
          have HCK := Lib.hid hck
          clear hck hlG hlz hgz hlz2 hgz2 hqm2 hopG hownG hql2 hpm hpq
          have h8' : decide ((prs.length : Int) < 8) = false := decide_eq_false (by omega)
          go_wp2_with fail
          refine (HCK.out).mono ?_
          rintro e wH ⟨rfl, hkH⟩
          go_wp2_with fail
          go_ret
          exact ⟨rfl, HBEL.out _ (HKWG.out.trans hkH (fun _ _ f => f))⟩

theorem own : ownKnob Try.prog.godebug = none := by kernel_rfl
theorem laidOut : laidOutB Try.prog = true := by kernel_rfl

set_option maxRecDepth 100000 in
theorem lifted (os : Os) (started : os.Started) (H : Type) (enc : TypeId × Value → H) :
    ReturnsInHanded {} Try.checked os 7 .any (Rows.progOthersSpec.pre6 enc Try.prog Try.f7 Rows.progOthersRow.domain false) (Rows.progOthersSpec.post enc Try.prog Try.f7 false true false false) := by
  refine returnsInHanded_of_change (C := Try.checked) own started (by kernel_rfl) Try.func7
    (ChangeSpec.witness6 (enc := enc) (C := Try.checked) false ⟨#[], #[.agg #[.slice none 0 0, .slice none 0 0, .slice none 0 0], .int .i64 0], []⟩ 8 (by kernel_rfl) (by kernel_rfl) (by kernel_rfl) (by kernel_rfl)) ?_
  intro W base args ds gs before hval0 hW hcnd _
  have hval : ∀ (j : Nat) t v, Try.f7.params[j]? = some t → args[j]? = some v → Value.okWide Try.prog W .any base t v := hval0
  have hW' := hW
  obtain ⟨p, q, hA0, hV, rfl, hfz, hnd⟩ := hW
  have hA : DataW.TrodAll enc Try.prog W 0 (fun _ => true) true Try.f7.params.toList args.toList ds p := hA0
  rw [Try.params7] at hA hval
  obtain ⟨v0, vs0, d0, ds0, p0, q0, hargs, rfl, rfl, h0, r0⟩ := trodAll_cons hA
  obtain ⟨v1, vs1, d1, ds1, p1, q1, rfl, rfl, rfl, h1, r1⟩ := trodAll_cons r0
  obtain ⟨rfl, rfl, rfl⟩ := trodAll_nil r1
  obtain rfl : args = #[v0, v1] := by cases args; simp_all
  obtain ⟨rfl, rfl⟩ := trodVars_none hV
  have k0 := h0
  have lt0 : ∀ x ∈ p0, x.block < W.heap.size := by obtain ⟨m, hm⟩ := k0; exact DataW.trod_lt m _ _ _ hm
  obtain ⟨x0, rfl, hx0, hc0⟩ := sc_of_cap (okWide_struct Try.underlying26 (hval 0 26 v0 rfl rfl)) k0
  obtain ⟨a1, rfl, rfl, rfl, w1⟩ := open_int Try.underlying3 (hval 1 3 v1 rfl rfl) h1
  clear hA0 hval0
  refine (walk x0 a1 w1 W hx0 hc0).mono fun e W' ⟨he, bel⟩ => ?_
  subst he
  exact ⟨_, rfl, _, _, _, [], _, [], hW', trodAll_mk1 (shut_bool Try.underlying4 _), (trodAll_cons_mk (Below.trod laidOut (by kernel_rfl) (of_decide_eq_true (by kernel_rfl)) k0 bel lt0) (trodAll_cons_mk (shut_int Try.underlying3 w1) trodAll_mk0)), rfl, bel.frame _, fun h => by cases h⟩

theorem over : Rows.progOthersRow.holds Try.pinned (OpenSpec.ofChange Rows.progOthersSpec) :=
  OpenClaim.holds_of_wide 7 Try.f7 rfl rfl rfl rfl rfl rfl rfl ⟨rfl, rfl, rfl, rfl, rfl⟩ rfl rfl rfl rfl rfl (by kernel_rfl) Try.func7 (by kernel_rfl)
    (of_decide_eq_true (by kernel_rfl)) (by unfold Func.isWrapper; first | (rw [if_pos (by decide +kernel)]; kernel_rfl) | (rw [if_neg (by decide +kernel)]; exact ⟨rfl, rfl⟩))
    (fun os started H enc _ => lifted os started H enc)

end progOthers
/-- The statement. -/
theorem progOthers_holds : Rows.ProgOthersSaid := progOthers.over
end Go.Proofs.Ytgdagmiiobbeeaa
