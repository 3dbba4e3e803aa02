/-
  For every input the statement ModelStays answers true: things that are handed in stay as they are; what was told stays, whatever becomes of it.
  Conditions: none.
-/
import Derived.Test.YthjblniabnjfhaaModArg
import Derived.Test.YthjblniabnjfhaaModLight
import Derived.Test.YthjblniabnjfhaaModSame
import Derived.Test.YthjblniabnjfhaaModCopyR
import Derived.Test.YthjblniabnjfhaaModStep
import Derived.WalkKit
import Derived.ProofKit
import Derived.OpenShut
namespace Go.Proofs.Ythjblniabnjfhaa
namespace modelStays
open Go.ChangeShapes Go.WideShapes Go.ChangeAt Go.RowKit
set_option linter.unusedVariables false
set_option linter.unusedSimpArgs false

set_option maxHeartbeats 8000000 in
set_option maxRecDepth 100000 in
theorem not_light {x : Th} {s : Option Addr} {c : Nat} {t k v : Int} {w : World} (HK0 : Hid (Kept (fun _ => False) w ((w.alloc (.cells (x.box s c) 27)).alloc (.cells #[.int .i64 k, .int .i64 v] 29)))) (HT0 : Hid (BoxT ((w.alloc (.cells (x.box s c) 27)).alloc (.cells #[.int .i64 k, .int .i64 v] 29)) w.heap.size x s c)) (HN0 : Hid (BoxN ((w.alloc (.cells (x.box s c) 27)).alloc (.cells #[.int .i64 k, .int .i64 v] 29)) (w.heap.size + 1) k v)) (HE0 : Hid (ElB w.heap.size ((w.alloc (.cells (x.box s c) 27)).alloc (.cells #[.int .i64 k, .int .i64 v] 29)) s x.ws)) (HL : Hid (lightM x = false)) : Calls Try.prog 5 #[x.agg s c, .int .i64 t, .agg #[.int .i64 k, .int .i64 v]] w fun e w' => e = .returned (.bool true) ∧ Below w.heap.size w w' := by
  go_enter Try.func5, Try.ntmps5
  go_wp2_with fail
  refine (up_any _).mono ?_
  rintro e w1 ⟨rfl, hk1⟩
  have HK1 := Lib.hid (HK0.out.tr0 hk1)
  have hT1 := HT0.out.kept0 hk1
  clear hk1
  go_wp2_with (first | refine wpList_loadT (by rfl) (by rfl) (by rfl) (by first | assumption | exact BoxT.past (by assumption) _ | exact BoxT.stepF (by assumption) (by assumption)) ?_ | refine wpList_loadN (by rfl) (by rfl) (by rfl) (by first | assumption | exact BoxN.stepF (by assumption) (by assumption)) ?_ | (refine wpList_storeT (by rfl) (by rfl) (by rfl) (by rfl) (BoxT.fresh _) ?_; intro WS hBS hKS))
  refine (light_any x s c _ _ HL.out).mono ?_
  rintro e w2 ⟨rfl, hk2⟩
  go_wp2_with fail
  go_ret
  exact ⟨rfl, (HK1.out.tr0 hk2).below (Nat.le_refl _) (fun _ f => f.elim)⟩

set_option maxHeartbeats 8000000 in
set_option maxRecDepth 100000 in
theorem is_light {x : Th} {s : Option Addr} {c : Nat} {t k v : Int} {w : World} (HK0 : Hid (Kept (fun _ => False) w ((w.alloc (.cells (x.box s c) 27)).alloc (.cells #[.int .i64 k, .int .i64 v] 29)))) (HT0 : Hid (BoxT ((w.alloc (.cells (x.box s c) 27)).alloc (.cells #[.int .i64 k, .int .i64 v] 29)) w.heap.size x s c)) (HN0 : Hid (BoxN ((w.alloc (.cells (x.box s c) 27)).alloc (.cells #[.int .i64 k, .int .i64 v] 29)) (w.heap.size + 1) k v)) (HE0 : Hid (ElB w.heap.size ((w.alloc (.cells (x.box s c) 27)).alloc (.cells #[.int .i64 k, .int .i64 v] 29)) s x.ws)) (HL : Hid (lightM x = true)) (HF : Hid (Fit x)) (v0 : -9223372036854775808 ≤ v) (v1 : v ≤ 9223372036854775807) (hy3 : (doM x t k v).ws.length ≤ 200) : Calls Try.prog 5 #[x.agg s c, .int .i64 t, .agg #[.int .i64 k, .int .i64 v]] w fun e w' => e = .returned (.bool true) ∧ Below w.heap.size w w' := by
  obtain ⟨y, hy⟩ : ∃ y, doM x t k v = y := ⟨_, rfl⟩
  obtain ⟨r, hr⟩ : ∃ r, mayM x t k v = r := ⟨_, rfl⟩
  have hl := HF.out.ws
  rw [hy] at hy3
  have HD : Hid (∀ w' s c, InW w' x s → Calls Try.prog 14 #[x.agg s c, .int .i64 t, .agg #[.int .i64 k, .int .i64 v]] w' (Told w' y r)) := Lib.hid (fun w' s c hi => by
    have h := do_any x t k v s c w' HF.out hi v0 v1
    rw [hy, hr] at h
    exact h)
  clear hy hr v0 v1
  go_enter Try.func5, Try.ntmps5
  go_wp2_with fail
  refine (up_any _).mono ?_
  rintro e w1 ⟨rfl, hk1⟩
  have hT_0 := HT0.out.kept0 hk1
  have hN_0 := HN0.out.kept0 hk1
  have HE_0 := Lib.hid ((show ElB w.heap.size w1 s x.ws from HE0.out.kept0 hk1))
  have HBL_0 := Lib.hid ((HK0.out.tr0 hk1).below (Nat.le_refl _) (fun _ f => f.elim))
  clear hk1
  go_wp2_with (first | refine wpList_loadT (by rfl) (by rfl) (by rfl) (by first | assumption | exact BoxT.past (by assumption) _ | exact BoxT.stepF (by assumption) (by assumption)) ?_ | refine wpList_loadN (by rfl) (by rfl) (by rfl) (by first | assumption | exact BoxN.stepF (by assumption) (by assumption)) ?_ | (refine wpList_storeT (by rfl) (by rfl) (by rfl) (by rfl) (BoxT.fresh _) ?_; intro WS hBS hKS))
  refine (light_any x s c _ _ HL.out).mono ?_
  rintro e w2 ⟨rfl, hk2⟩
  have hT_1 := hT_0.kept0 hk2
  have hN_1 := hN_0.kept0 hk2
  have HE_1 := Lib.hid (HE_0.out.kept0 hk2)
  have HBL_1 := Lib.hid (belK HBL_0.out (Nat.le_refl _) hk2)
  clear hT_0 hN_0 HE_0 HBL_0
  clear hk2
  go_wp2_with (first | refine wpList_loadT (by rfl) (by rfl) (by rfl) (by first | assumption | exact BoxT.past (by assumption) _ | exact BoxT.stepF (by assumption) (by assumption)) ?_ | refine wpList_loadN (by rfl) (by rfl) (by rfl) (by first | assumption | exact BoxN.stepF (by assumption) (by assumption)) ?_ | (refine wpList_storeT (by rfl) (by rfl) (by rfl) (by rfl) (BoxT.fresh _) ?_; intro WS hBS hKS))
  refine (copyR_any x s c _ hl HE_1.out.inW).mono ?_
  rintro e w3 ⟨s9, c9, rfl, hW9, hk3⟩
  have hT_2 := hT_1.kept0 hk3
  have hN_2 := hN_1.kept0 hk3
  have HE_2 := Lib.hid (HE_1.out.kept0 hk3)
  have HBL_2 := Lib.hid (belK HBL_1.out (Nat.le_refl _) hk3)
  clear hT_1 hN_1 HE_1 HBL_1
  clear hk3
  go_wp2_with (first | refine wpList_loadT (by rfl) (by rfl) (by rfl) (by first | assumption | exact BoxT.past (by assumption) _ | exact BoxT.stepF (by assumption) (by assumption)) ?_ | refine wpList_loadN (by rfl) (by rfl) (by rfl) (by first | assumption | exact BoxN.stepF (by assumption) (by assumption)) ?_ | (refine wpList_storeT (by rfl) (by rfl) (by rfl) (by rfl) (BoxT.fresh _) ?_; intro WSa hBSa hKSa))
  have hT_3 := hT_2.stepF hKSa
  have hN_3 := hN_2.stepF hKSa
  have HE_3 := Lib.hid (HE_2.out.stepF hKSa)
  have HBL_3 := Lib.hid (belF HBL_2.out (Nat.le_refl _) hKSa)
  clear hT_2 hN_2 HE_2 HBL_2
  have h9_3 := hBSa
  have hW9a := hW9.stepF hKSa
  have HE9_3 := Lib.hid (show ElB WSa.heap.size WSa s9 x.ws from ⟨Nat.le_refl _, hW9a.el⟩)
  clear hBSa hKSa hW9 hW9a
  have HM1 : Hid (w.heap.size < WSa.heap.size ∧ w.heap.size + 1 < WSa.heap.size ∧ w3.heap.size < WSa.heap.size) := Lib.hid ⟨hT_3.lt, hN_3.lt, h9_3.lt⟩
  refine (HD.out _ s9 c9 HE9_3.out.inW).mono ?_
  rintro e w5 ⟨s10, c10, rfl, hW10, hk5⟩
  have HM2 : Hid (WSa.heap.size ≤ w5.heap.size) := Lib.hid hk5.size
  have hT_4 := hT_3.kept0 hk5
  have hN_4 := hN_3.kept0 hk5
  have HE_4 := Lib.hid (HE_3.out.kept0 hk5)
  have HBL_4 := Lib.hid (belK HBL_3.out (Nat.le_refl _) hk5)
  have h9_4 := h9_3.kept0 hk5
  have HE9_4 := Lib.hid (HE9_3.out.kept0 hk5)
  clear hT_3 hN_3 HE_3 HBL_3 h9_3 HE9_3
  clear hk5
  have HSG : Hid (∀ q, (y.ws ≠ [] ∧ s10 = some ⟨q, 0, none⟩) → WSa.heap.size ≤ q ∧ q < w5.heap.size) := Lib.hid (fun q ⟨hne, hs⟩ => by
    obtain ⟨g, hg, a, b, _⟩ := hW10.nw hne
    rw [hs] at hg
    simp only [Option.some.injEq, Addr.mk.injEq, and_true] at hg
    omega)
  have HW10_4 := Lib.hid (hW10)
  clear hW10
  go_wp2_with (first | refine wpList_loadT (by rfl) (by rfl) (by rfl) (by first | assumption | exact BoxT.past (by assumption) _ | exact BoxT.stepF (by assumption) (by assumption)) ?_ | refine wpList_loadN (by rfl) (by rfl) (by rfl) (by first | assumption | exact BoxN.stepF (by assumption) (by assumption)) ?_ | (refine wpList_storeT (by rfl) (by rfl) (by rfl) (by rfl) (BoxT.fresh _) ?_; intro WSb hBSb hKSb))
  have hT_5 := hT_4.stepF hKSb
  have hN_5 := hN_4.stepF hKSb
  have HE_5 := Lib.hid (HE_4.out.stepF hKSb)
  have HBL_5 := Lib.hid (belF HBL_4.out (Nat.le_refl _) hKSb)
  have h9_5 := h9_4.stepF hKSb
  have HE9_5 := Lib.hid (HE9_4.out.stepF hKSb)
  have HW10_5 := Lib.hid (HW10_4.out.stepF hKSb)
  clear hT_4 hN_4 HE_4 HBL_4 h9_4 HE9_4 HW10_4
  have h10_5 := hBSb
  clear hBSb hKSb
  have HM3 : Hid (w5.heap.size < WSb.heap.size) := Lib.hid h10_5.lt
  refine (copyR_any y s10 c10 _ (by omega) (HW10_5.out.el)).mono ?_
  rintro e w6 ⟨s12, c12, rfl, hW12, hk6⟩
  have HM4 : Hid (WSb.heap.size ≤ w6.heap.size) := Lib.hid hk6.size
  have hT_6 := hT_5.kept0 hk6
  have hN_6 := hN_5.kept0 hk6
  have HE_6 := Lib.hid (HE_5.out.kept0 hk6)
  have HBL_6 := Lib.hid (belK HBL_5.out (Nat.le_refl _) hk6)
  have h9_6 := h9_5.kept0 hk6
  have HE9_6 := Lib.hid (HE9_5.out.kept0 hk6)
  have HW10_6 := Lib.hid (HW10_5.out.kept0 hk6)
  have h10_6 := h10_5.kept0 hk6
  clear hT_5 hN_5 HE_5 HBL_5 h9_5 HE9_5 HW10_5 h10_5
  clear hk6
  have HW12_6 := Lib.hid (hW12)
  clear hW12
  go_wp2_with (first | refine wpList_loadT (by rfl) (by rfl) (by rfl) (by first | assumption | exact BoxT.past (by assumption) _ | exact BoxT.stepF (by assumption) (by assumption)) ?_ | refine wpList_loadN (by rfl) (by rfl) (by rfl) (by first | assumption | exact BoxN.stepF (by assumption) (by assumption)) ?_ | (refine wpList_storeT (by rfl) (by rfl) (by rfl) (by rfl) (BoxT.fresh _) ?_; intro WSc hBSc hKSc))
  have hT_7 := hT_6.stepF hKSc
  have hN_7 := hN_6.stepF hKSc
  have HE_7 := Lib.hid (HE_6.out.stepF hKSc)
  have HBL_7 := Lib.hid (belF HBL_6.out (Nat.le_refl _) hKSc)
  have h9_7 := h9_6.stepF hKSc
  have HE9_7 := Lib.hid (HE9_6.out.stepF hKSc)
  have HW10_7 := Lib.hid (HW10_6.out.stepF hKSc)
  have h10_7 := h10_6.stepF hKSc
  have HW12_7 := Lib.hid (HW12_6.out.stepF hKSc)
  clear hT_6 hN_6 HE_6 HBL_6 h9_6 HE9_6 HW10_6 h10_6 HW12_6
  have h12_7 := hBSc
  clear hBSc hKSc
  refine (same_any x x s9 s c9 c _ HE9_7.out.inW HE_7.out.inW (by omega) true (sameM_refl x)).mono ?_
  rintro e w7 ⟨rfl, hk7⟩
  have hT_8 := hT_7.kept0 hk7
  have hN_8 := hN_7.kept0 hk7
  have HE_8 := Lib.hid (HE_7.out.kept0 hk7)
  have HBL_8 := Lib.hid (belK HBL_7.out (Nat.le_refl _) hk7)
  have h9_8 := h9_7.kept0 hk7
  have HE9_8 := Lib.hid (HE9_7.out.kept0 hk7)
  have HW10_8 := Lib.hid (HW10_7.out.kept0 hk7)
  have h10_8 := h10_7.kept0 hk7
  have HW12_8 := Lib.hid (HW12_7.out.kept0 hk7)
  have h12_8 := h12_7.kept0 hk7
  clear hT_7 hN_7 HE_7 HBL_7 h9_7 HE9_7 HW10_7 h10_7 HW12_7 h12_7
  clear hk7
  go_wp2_with fail
  have HhT := Lib.hid hT_8
  have HhN := Lib.hid hN_8
  have Hh9 := Lib.hid h9_8
  have Hh10 := Lib.hid h10_8
  have Hh12 := Lib.hid h12_8
  clear hT_8 hN_8 h9_8 h10_8 h12_8
  go_loopw [13] (fun i wr => ∃ j : Nat, i = .int .i64 j ∧ j ≤ y.ws.length ∧ Kept (fun q => y.ws ≠ [] ∧ s10 = some ⟨q, 0, none⟩) w7 wr ∧ (∀ p, wr.frozen? p = w7.frozen? p) ∧ ∀ p, (w7.cell? p).isSome = true → (wr.cell? p).isSome = true) (fun i _ => y.ws.length - (intOf i).toNat)
  case atStart => exact ⟨0, rfl, Nat.zero_le _, Kept.refl _ _, fun _ => rfl, fun _ h => h⟩
  case round =>
    obtain ⟨j, rfl, hj, hkL, hfr, hsm⟩ := hrel
    have HM := Lib.hid (And.intro HM1.out (And.intro HM2.out (And.intro HM3.out HM4.out)))
    have n10 : ¬ (y.ws ≠ [] ∧ s10 = some ⟨w5.heap.size, 0, none⟩) := fun e => by have := HSG.out _ e; omega
    have k10 := Hh10.out.kept hkL n10
    by_cases hlt : j < y.ws.length
    · have hne : y.ws ≠ [] := by intro e; rw [e] at hlt; exact absurd hlt (Nat.not_lt_zero _)
      obtain ⟨g, hs, ga, gb, gf⟩ := HW10_8.out.nw hne
      obtain ⟨q, hq⟩ : ∃ q, y.ws[j]? = some q := ⟨_, List.getElem?_eq_getElem hlt⟩
      obtain ⟨g', off, e', _, hcell⟩ := HW10_8.out.el.2 j q hq
      rw [hs] at e'
      simp only [Option.some.injEq, Addr.mk.injEq, and_true] at e'
      obtain ⟨rfl, rfl⟩ := e'
      have hc0 := hcell 0 _ rfl
      rw [Nat.zero_add, Nat.add_zero] at hc0
      obtain ⟨u, hu⟩ := Option.isSome_iff_exists.1 (hsm ⟨g, j * 2, none⟩ (by rw [hc0]; rfl))
      have hf := (hfr ⟨g, j * 2, none⟩).trans (gf _)
      have y12 := k10.cells.c12
      rw [hs] at y12
      have HKL : Hid (Kept (fun q => y.ws ≠ [] ∧ s10 = some ⟨q, 0, none⟩) w7 (wr.setCell ⟨g, j * 2, none⟩ (.int .i64 99))) := Lib.hid (hkL.setCell _ _ (fun _ => ⟨hne, hs⟩))
      have HFR : Hid (∀ p, (wr.setCell ⟨g, j * 2, none⟩ (.int .i64 99)).frozen? p = w7.frozen? p) := Lib.hid (fun p => (frozen_set _ _).trans (hfr p))
      have HSM : Hid (∀ p, (w7.cell? p).isSome = true → ((wr.setCell ⟨g, j * 2, none⟩ (.int .i64 99)).cell? p).isSome = true) := Lib.hid (fun p h => some_set _ _ (hsm p h))
      have j1 : (j : Int) < (y.ws.length : Int) := by omega
      have j2 : (j : Int) + 1 ≤ 202 := by omega
      clear hkL hfr hsm k10 n10 hcell hc0 hq hne gf
      go_wp2_with fail
      go_roundw
      case rel => exact ⟨j + 1, by go_num, by omega, HKL.out, HFR.out, HSM.out⟩
      case measure => simp [intOf]; omega
    · have j1 : ¬ (j : Int) < (y.ws.length : Int) := by omega
      have y12 := k10.cells.c12
      have hT_100 := HhT.out.kept hkL (fun e => by have := HSG.out _ e; have := HM.out; omega)
      have hN_100 := (show BoxN wr (w.heap.size + 1) k v from hkL.at_ HhN.out (fun e => by have := HSG.out _ e; have := HM.out; omega))
      have h9_100 := Hh9.out.kept hkL (fun e => by have := HSG.out _ e; have := HM.out; omega)
      have h12_100 := Hh12.out.kept hkL (fun e => by have := HSG.out _ e; have := HM.out; omega)
      have HE_100 := Lib.hid (HE_8.out.keptS hkL (fun q hq e => by have := HSG.out _ e; have := HM.out; omega))
      have HE9_100 := Lib.hid (HE9_8.out.keptS hkL (fun q hq e => by have := HSG.out _ e; have := HM.out; omega))
      have HW12_100 := Lib.hid (HW12_8.out.kept hkL (fun q hq e => by have := HSG.out _ e; have := HM.out; omega))
      have HBL_100 := Lib.hid (HBL_8.out.trans (hkL.below (HBL_8.out.size) (fun q e => by have := HSG.out _ e; have := HM.out; omega)))
      clear hkL hfr hsm k10 n10
      go_wp2_with (first | refine wpList_loadT (by rfl) (by rfl) (by rfl) (by first | assumption | exact BoxT.past (by assumption) _ | exact BoxT.stepF (by assumption) (by assumption)) ?_ | refine wpList_loadN (by rfl) (by rfl) (by rfl) (by first | assumption | exact BoxN.stepF (by assumption) (by assumption)) ?_ | (refine wpList_storeT (by rfl) (by rfl) (by rfl) (by rfl) (BoxT.fresh _) ?_; intro WS hBS hKS))
      refine (same_any x x s9 s c9 c _ HE9_100.out.inW HE_100.out.inW (by omega) true (sameM_refl x)).mono ?_
      rintro e w8 ⟨rfl, hk8⟩
      have hT_101 := hT_100.kept0 hk8
      have hN_101 := hN_100.kept0 hk8
      have h9_101 := h9_100.kept0 hk8
      have h12_101 := h12_100.kept0 hk8
      have HE_101 := Lib.hid (HE_100.out.kept0 hk8)
      have HE9_101 := Lib.hid (HE9_100.out.kept0 hk8)
      have HW12_101 := Lib.hid (HW12_100.out.kept0 hk8)
      have HBL_101 := Lib.hid (belK HBL_100.out (Nat.le_refl _) hk8)
      clear hT_100 hN_100 h9_100 h12_100 HE_100 HE9_100 HW12_100 HBL_100
      clear hk8 y12
      go_wp2_with (first | refine wpList_loadT (by rfl) (by rfl) (by rfl) (by first | assumption | exact BoxT.past (by assumption) _ | exact BoxT.stepF (by assumption) (by assumption)) ?_ | refine wpList_loadN (by rfl) (by rfl) (by rfl) (by first | assumption | exact BoxN.stepF (by assumption) (by assumption)) ?_ | (refine wpList_storeT (by rfl) (by rfl) (by rfl) (by rfl) (BoxT.fresh _) ?_; intro WS hBS hKS))
      refine (HD.out _ s9 c9 HE9_101.out.inW).mono ?_
      rintro e w9 ⟨s14, c14, rfl, hW14, hk9⟩
      have hT_102 := hT_101.kept0 hk9
      have hN_102 := hN_101.kept0 hk9
      have h9_102 := h9_101.kept0 hk9
      have h12_102 := h12_101.kept0 hk9
      have HE_102 := Lib.hid (HE_101.out.kept0 hk9)
      have HE9_102 := Lib.hid (HE9_101.out.kept0 hk9)
      have HW12_102 := Lib.hid (HW12_101.out.kept0 hk9)
      have HBL_102 := Lib.hid (belK HBL_101.out (Nat.le_refl _) hk9)
      clear hT_101 hN_101 h9_101 h12_101 HE_101 HE9_101 HW12_101 HBL_101
      clear hk9
      have HW14_102 := Lib.hid (hW14)
      clear hW14
      cases r with
      | false =>
        go_wp2_with (first | refine wpList_loadT (by rfl) (by rfl) (by rfl) (by first | assumption | exact BoxT.past (by assumption) _ | exact BoxT.stepF (by assumption) (by assumption)) ?_ | refine wpList_loadN (by rfl) (by rfl) (by rfl) (by first | assumption | exact BoxN.stepF (by assumption) (by assumption)) ?_ | (refine wpList_storeT (by rfl) (by rfl) (by rfl) (by rfl) (BoxT.fresh _) ?_; intro WSd hBSd hKSd))
        have hT_103 := hT_102.stepF hKSd
        have hN_103 := hN_102.stepF hKSd
        have h9_103 := h9_102.stepF hKSd
        have h12_103 := h12_102.stepF hKSd
        have HE_103 := Lib.hid (HE_102.out.stepF hKSd)
        have HE9_103 := Lib.hid (HE9_102.out.stepF hKSd)
        have HW12_103 := Lib.hid (HW12_102.out.stepF hKSd)
        have HBL_103 := Lib.hid (belF HBL_102.out (Nat.le_refl _) hKSd)
        have HW14_103 := Lib.hid (HW14_102.out.stepF hKSd)
        clear hT_102 hN_102 h9_102 h12_102 HE_102 HE9_102 HW12_102 HBL_102 HW14_102
        refine (same_any y y s14 s12 c14 c12 _ HW14_103.out.el HW12_103.out.el (by omega) true (sameM_refl y)).mono ?_
        rintro e w10 ⟨rfl, hk10⟩
        have HFIN := Lib.hid (belK HBL_103.out (Nat.le_refl _) hk10)
        clear hk10
        go_wp2_with fail
        go_ret
        exact ⟨rfl, HFIN.out⟩
      | true =>
        go_wp2_with (first | refine wpList_loadT (by rfl) (by rfl) (by rfl) (by first | assumption | exact BoxT.past (by assumption) _ | exact BoxT.stepF (by assumption) (by assumption)) ?_ | refine wpList_loadN (by rfl) (by rfl) (by rfl) (by first | assumption | exact BoxN.stepF (by assumption) (by assumption)) ?_ | (refine wpList_storeT (by rfl) (by rfl) (by rfl) (by rfl) (BoxT.fresh _) ?_; intro WSd hBSd hKSd))
        have hT_103 := hT_102.stepF hKSd
        have hN_103 := hN_102.stepF hKSd
        have h9_103 := h9_102.stepF hKSd
        have h12_103 := h12_102.stepF hKSd
        have HE_103 := Lib.hid (HE_102.out.stepF hKSd)
        have HE9_103 := Lib.hid (HE9_102.out.stepF hKSd)
        have HW12_103 := Lib.hid (HW12_102.out.stepF hKSd)
        have HBL_103 := Lib.hid (belF HBL_102.out (Nat.le_refl _) hKSd)
        have HW14_103 := Lib.hid (HW14_102.out.stepF hKSd)
        clear hT_102 hN_102 h9_102 h12_102 HE_102 HE9_102 HW12_102 HBL_102 HW14_102
        refine (same_any y y s14 s12 c14 c12 _ HW14_103.out.el HW12_103.out.el (by omega) true (sameM_refl y)).mono ?_
        rintro e w10 ⟨rfl, hk10⟩
        have HFIN := Lib.hid (belK HBL_103.out (Nat.le_refl _) hk10)
        clear hk10
        go_wp2_with fail
        go_ret
        exact ⟨rfl, HFIN.out⟩

theorem do_len (x : Th) (t k v : Int) (h : x.ws.length ≤ 100) : (doM x t k v).ws.length ≤ 200 := by
  unfold doM
  split
  · unfold doesM heldM countM swapM takeM freeM
    repeat' split
    all_goals first
      | (show x.ws.length ≤ 200; omega)
      | (show (x.ws ++ [_]).length ≤ 200; rw [List.length_append]; simp; omega)
      | (show x.ws.tail.length ≤ 200; rw [List.length_tail]; omega)
      | (show (x.ws.filter _).length ≤ 200; exact Nat.le_trans (List.length_filter_le _ _) (by omega))
  · omega
theorem walk (x : Th) (s : Option Addr) (c : Nat) (t k v : Int) (w : World) (hE : InW w x s) (hok : ThOk x) (v0 : -9223372036854775808 ≤ v) (v1 : v ≤ 9223372036854775807) : Calls Try.prog 5 #[x.agg s c, .int .i64 t, .agg #[.int .i64 k, .int .i64 v]] w fun e w' => e = .returned (.bool true) ∧ Below w.heap.size w w' := by
  have hk0 : Kept (fun _ => False) w ((w.alloc (.cells (x.box s c) 27)).alloc (.cells #[.int .i64 k, .int .i64 v] 29)) := ((Kept.refl _ w).alloc _).alloc _
  have HK0 := Lib.hid hk0
  have HT0 : Hid (BoxT ((w.alloc (.cells (x.box s c) 27)).alloc (.cells #[.int .i64 k, .int .i64 v] 29)) w.heap.size x s c) := Lib.hid ((BoxT.new w x s c).kept0 ((Kept.refl _ _).alloc _))
  have HN0 : Hid (BoxN ((w.alloc (.cells (x.box s c) 27)).alloc (.cells #[.int .i64 k, .int .i64 v] 29)) (w.heap.size + 1) k v) := Lib.hid (by
    have := BoxN.new (w.alloc (.cells (x.box s c) 27)) k v
    rwa [show (w.alloc (.cells (x.box s c) 27)).heap.size = w.heap.size + 1 from by simp] at this)
  have hE0 : ElB w.heap.size ((w.alloc (.cells (x.box s c) 27)).alloc (.cells #[.int .i64 k, .int .i64 v] 29)) s x.ws := (show ElB w.heap.size w s x.ws from ⟨Nat.le_refl _, hE⟩).kept0 hk0
  cases hl : lightM x with
  | false => exact not_light HK0 HT0 HN0 (Lib.hid hE0) (Lib.hid hl)
  | true =>
    have hlf := light_fit hl hok.o0 hok.o1 hok.t0 hok.t1
    exact is_light HK0 HT0 HN0 (Lib.hid hE0) (Lib.hid hl) (Lib.hid hlf.1) v0 v1 (do_len x t k v hlf.2.1)

theorem own : ownKnob Try.prog.godebug = none := by kernel_rfl
theorem laidOut : laidOutB Try.prog = true := by kernel_rfl

set_option maxRecDepth 100000 in
theorem lifted (os : Os) (started : os.Started) (H : Type) (enc : TypeId × Value → H) :
    ReturnsInHanded {} Try.checked os 5 .any (Rows.modelStaysSpec.pre6 enc Try.prog Try.f5 Rows.modelStaysRow.domain false) (Rows.modelStaysSpec.post enc Try.prog Try.f5 false true false false) := by
  refine returnsInHanded_of_change (C := Try.checked) own started (by kernel_rfl) Try.func5
    (ChangeSpec.witness6 (enc := enc) (C := Try.checked) false ⟨#[], #[.agg #[.int .i64 0, .int .i64 0, .int .i64 0, .int .i64 0, .int .i64 0, .int .i64 0, .int .i64 0, .int .i64 0, .int .i64 0, .int .i64 0, .int .i64 0, .int .i64 0, .slice none 0 0, .int .i64 0, .int .i64 0], .int .i64 0, .agg #[.int .i64 0, .int .i64 0]], []⟩ 8 (by kernel_rfl) (by kernel_rfl) (by kernel_rfl) (by kernel_rfl)) ?_
  intro W base args ds gs before hval0 hW hcnd _
  have hval : ∀ (j : Nat) t v, Try.f5.params[j]? = some t → args[j]? = some v → Value.okWide Try.prog W .any base t v := hval0
  have hW' := hW
  obtain ⟨p, q, hA0, hV, rfl, hfz, hnd⟩ := hW
  have hA : DataW.TrodAll enc Try.prog W 0 (fun _ => true) true Try.f5.params.toList args.toList ds p := hA0
  rw [Try.params5] at hA hval
  obtain ⟨v0, vs0, d0, ds0, p0, q0, hargs, rfl, rfl, h0, r0⟩ := trodAll_cons hA
  obtain ⟨v1, vs1, d1, ds1, p1, q1, rfl, rfl, rfl, h1, r1⟩ := trodAll_cons r0
  obtain ⟨v2, vs2, d2, ds2, p2, q2, rfl, rfl, rfl, h2, r2⟩ := trodAll_cons r1
  obtain ⟨rfl, rfl, rfl⟩ := trodAll_nil r2
  obtain rfl : args = #[v0, v1, v2] := by cases args; simp_all
  obtain ⟨rfl, rfl⟩ := trodVars_none hV
  have k0 := h0
  have lt0 : ∀ x ∈ p0, x.block < W.heap.size := by obtain ⟨m, hm⟩ := k0; exact DataW.trod_lt m _ _ _ hm
  obtain ⟨x0, s0, c0, rfl, hx0, hok0⟩ := th_of (okWide_struct Try.underlying27 (hval 0 27 v0 rfl rfl)) k0
  obtain ⟨a1, rfl, rfl, rfl, w1⟩ := open_int Try.underlying3 (hval 1 3 v1 rfl rfl) h1
  have k2 := h2
  have lt2 : ∀ x ∈ p2, x.block < W.heap.size := by obtain ⟨m, hm⟩ := k2; exact DataW.trod_lt m _ _ _ hm
  obtain ⟨nk2, nv2, rfl, hn2⟩ := note_of (okWide_struct Try.underlying29 (hval 2 29 v2 rfl rfl)) k2
  clear hA0 hval0
  refine (walk x0 s0 c0 a1 nk2 nv2 W hx0 hok0 hn2.1 hn2.2).mono fun e W' ⟨he, bel⟩ => ?_
  subst he
  exact ⟨_, rfl, _, _, _, [], _, [], hW', trodAll_mk1 (shut_bool Try.underlying4 _), (trodAll_cons_mk (Below.trod laidOut (by kernel_rfl) (of_decide_eq_true (by kernel_rfl)) k0 bel lt0) (trodAll_cons_mk (shut_int Try.underlying3 w1) (trodAll_cons_mk (Below.trod laidOut (by kernel_rfl) (of_decide_eq_true (by kernel_rfl)) k2 bel lt2) trodAll_mk0))), rfl, bel.frame _, fun h => by cases h⟩

theorem over : Rows.modelStaysRow.holds Try.pinned (OpenSpec.ofChange Rows.modelStaysSpec) :=
  OpenClaim.holds_of_wide 5 Try.f5 rfl rfl rfl rfl rfl rfl rfl ⟨rfl, rfl, rfl, rfl, rfl⟩ rfl rfl rfl rfl rfl (by kernel_rfl) Try.func5 (by kernel_rfl)
    (of_decide_eq_true (by kernel_rfl)) (by unfold Func.isWrapper; first | (rw [if_pos (by decide +kernel)]; kernel_rfl) | (rw [if_neg (by decide +kernel)]; exact ⟨rfl, rfl⟩))
    (fun os started H enc _ => lifted os started H enc)

end modelStays
/-- The statement. -/
theorem modelStays_holds : Rows.ModelStaysSaid := modelStays.over
end Go.Proofs.Ythjblniabnjfhaa
