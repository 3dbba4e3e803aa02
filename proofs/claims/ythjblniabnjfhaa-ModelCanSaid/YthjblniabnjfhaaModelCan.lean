/-
  For every input the statement ModelCan answers true: what can go on may be done, as a mark.
  Conditions: none.
-/
import Derived.Test.YthjblniabnjfhaaModArg
import Derived.Test.YthjblniabnjfhaaModLight
import Derived.Test.YthjblniabnjfhaaModCan
import Derived.Test.YthjblniabnjfhaaModStep
import Derived.WalkKit
import Derived.ProofKit
import Derived.OpenShut
namespace Go.Proofs.Ythjblniabnjfhaa
namespace modelCan
open Go.ChangeShapes Go.WideShapes Go.ChangeAt Go.RowKit
set_option linter.unusedVariables false
set_option linter.unusedSimpArgs false

theorem can_kind {x : Th} {t k n : Int} (h : canM x t k n = true) : k = 1 ∨ k = 4 ∨ k = 8 ∨ k = 13 ∨ k = 10 ∨ k = 19 := by
  unfold canM at h
  rw [Bool.and_eq_true] at h
  obtain ⟨h1, h2⟩ := h
  refine Classical.byContradiction (fun hn => ?_)
  have e : awKind k = 0 := by unfold awKind; rw [if_neg (by omega), if_neg (by omega), if_neg (by omega), if_neg (by omega), if_neg (by omega), if_neg (by omega)]
  rw [e] at h1
  have hk : x.kind = 0 := (beq_iff_eq.1 h1).symm
  unfold mayM mayInM at h2
  rw [hk] at h2
  simp at h2
theorem can_may {x : Th} {t k n : Int} (h : canM x t k n = true) : mayM x t (awMark k) (awVal x k n) = true := by
  unfold canM at h
  rw [Bool.and_eq_true] at h
  exact h.2

set_option maxHeartbeats 4000000 in
set_option maxRecDepth 100000 in
theorem not_light {x : Th} {s : Option Addr} {c : Nat} {t o n wt : Int} {br : Bool} {w : World} {k : Int} (HK0 : Hid (Kept (fun _ => False) w ((w.alloc (.cells (x.box s c) 27)).alloc (.cells #[.int .i64 k, .int .i64 o, .int .i64 n, .int .i64 wt, .bool br] 31)))) (HT0 : Hid (BoxT ((w.alloc (.cells (x.box s c) 27)).alloc (.cells #[.int .i64 k, .int .i64 o, .int .i64 n, .int .i64 wt, .bool br] 31)) w.heap.size x s c)) (HO0 : Hid (((w.alloc (.cells (x.box s c) 27)).alloc (.cells #[.int .i64 k, .int .i64 o, .int .i64 n, .int .i64 wt, .bool br] 31)).heap[w.heap.size + 1]? = some (.cells #[.int .i64 k, .int .i64 o, .int .i64 n, .int .i64 wt, .bool br] 31 (0, 0)))) (HE0 : Hid (InW ((w.alloc (.cells (x.box s c) 27)).alloc (.cells #[.int .i64 k, .int .i64 o, .int .i64 n, .int .i64 wt, .bool br] 31)) x s)) (HOK : Hid (ThOk x)) (HN : Hid (-9223372036854775808 ≤ n ∧ n ≤ 9223372036854775807)) (HL : Hid (lightM x = false)) : Calls Try.prog 6 #[x.agg s c, .int .i64 t, opAgg k o n wt br] w fun e w' => e = .returned (.bool true) ∧ Below w.heap.size w w' := by
  go_enter Try.func6, Try.ntmps6
  go_wp2_with fail
  refine (up_any _).mono ?_
  rintro e w1 ⟨rfl, hk1⟩
  have HK1 := Lib.hid (HK0.out.tr0 hk1)
  have hT1 := HT0.out.kept0 hk1
  have HO1 := Lib.hid (hk1.at0 HO0.out)
  have HE1 := Lib.hid (HE0.out.kept0 hk1)
  clear hk1
  go_wp2_with (first | refine wpList_loadT (by rfl) (by rfl) (by rfl) (by first | assumption | exact BoxT.past (by assumption) _) ?_ | (refine wpList_storeT (by rfl) (by rfl) (by rfl) (by rfl) (BoxT.fresh _) ?_; intro WS hBS hKS))
  refine (light_any x s c _ _ HL.out).mono ?_
  rintro e w2 ⟨rfl, hk2⟩
  go_wp2_with fail
  go_ret
  exact ⟨rfl, (HK1.out.tr0 hk2).below (Nat.le_refl _) (fun _ f => f.elim)⟩

set_option maxHeartbeats 4000000 in
set_option maxRecDepth 100000 in
theorem can_not {x : Th} {s : Option Addr} {c : Nat} {t o n wt : Int} {br : Bool} {w : World} {k : Int} (HK0 : Hid (Kept (fun _ => False) w ((w.alloc (.cells (x.box s c) 27)).alloc (.cells #[.int .i64 k, .int .i64 o, .int .i64 n, .int .i64 wt, .bool br] 31)))) (HT0 : Hid (BoxT ((w.alloc (.cells (x.box s c) 27)).alloc (.cells #[.int .i64 k, .int .i64 o, .int .i64 n, .int .i64 wt, .bool br] 31)) w.heap.size x s c)) (HO0 : Hid (((w.alloc (.cells (x.box s c) 27)).alloc (.cells #[.int .i64 k, .int .i64 o, .int .i64 n, .int .i64 wt, .bool br] 31)).heap[w.heap.size + 1]? = some (.cells #[.int .i64 k, .int .i64 o, .int .i64 n, .int .i64 wt, .bool br] 31 (0, 0)))) (HE0 : Hid (InW ((w.alloc (.cells (x.box s c) 27)).alloc (.cells #[.int .i64 k, .int .i64 o, .int .i64 n, .int .i64 wt, .bool br] 31)) x s)) (HOK : Hid (ThOk x)) (HN : Hid (-9223372036854775808 ≤ n ∧ n ≤ 9223372036854775807)) (HL : Hid (lightM x = true)) (HF : Hid (Fit x)) (HC : Hid (canM x t k n = false)) : Calls Try.prog 6 #[x.agg s c, .int .i64 t, opAgg k o n wt br] w fun e w' => e = .returned (.bool true) ∧ Below w.heap.size w w' := by
  go_enter Try.func6, Try.ntmps6
  go_wp2_with fail
  refine (up_any _).mono ?_
  rintro e w1 ⟨rfl, hk1⟩
  have HK1 := Lib.hid (HK0.out.tr0 hk1)
  have hT1 := HT0.out.kept0 hk1
  have HO1 := Lib.hid (hk1.at0 HO0.out)
  have HE1 := Lib.hid (HE0.out.kept0 hk1)
  clear hk1
  go_wp2_with (first | refine wpList_loadT (by rfl) (by rfl) (by rfl) (by first | assumption | exact BoxT.past (by assumption) _) ?_ | (refine wpList_storeT (by rfl) (by rfl) (by rfl) (by rfl) (BoxT.fresh _) ?_; intro WS hBS hKS))
  refine (light_any x s c _ _ HL.out).mono ?_
  rintro e w2 ⟨rfl, hk2⟩
  have HK2 := Lib.hid (HK1.out.tr0 hk2)
  have hT2 := hT1.kept0 hk2
  have HO2 := Lib.hid (hk2.at0 HO1.out)
  obtain ⟨_, _, _, _, _⟩ := op_cells HO2.out
  have HE2 := Lib.hid (HE1.out.kept0 hk2)
  clear hk2 hT1
  go_wp2_with (first | refine wpList_loadT (by rfl) (by rfl) (by rfl) (by first | assumption | exact BoxT.past (by assumption) _) ?_ | (refine wpList_storeT (by rfl) (by rfl) (by rfl) (by rfl) (BoxT.fresh _) ?_; intro WS hBS hKS))
  refine (can_any x t k o n wt br s c _ HF.out HE2.out HN.out.1 HN.out.2 _ HC.out).mono ?_
  rintro e w3 ⟨rfl, hk3⟩
  go_wp2_with fail
  go_ret
  exact ⟨rfl, (HK2.out.tr0 hk3).below (Nat.le_refl _) (fun _ f => f.elim)⟩

set_option maxHeartbeats 4000000 in
set_option maxRecDepth 100000 in
theorem can_1 {x : Th} {s : Option Addr} {c : Nat} {t o n wt : Int} {br : Bool} {w : World} (HK0 : Hid (Kept (fun _ => False) w ((w.alloc (.cells (x.box s c) 27)).alloc (.cells #[.int .i64 1, .int .i64 o, .int .i64 n, .int .i64 wt, .bool br] 31)))) (HT0 : Hid (BoxT ((w.alloc (.cells (x.box s c) 27)).alloc (.cells #[.int .i64 1, .int .i64 o, .int .i64 n, .int .i64 wt, .bool br] 31)) w.heap.size x s c)) (HO0 : Hid (((w.alloc (.cells (x.box s c) 27)).alloc (.cells #[.int .i64 1, .int .i64 o, .int .i64 n, .int .i64 wt, .bool br] 31)).heap[w.heap.size + 1]? = some (.cells #[.int .i64 1, .int .i64 o, .int .i64 n, .int .i64 wt, .bool br] 31 (0, 0)))) (HE0 : Hid (InW ((w.alloc (.cells (x.box s c) 27)).alloc (.cells #[.int .i64 1, .int .i64 o, .int .i64 n, .int .i64 wt, .bool br] 31)) x s)) (HOK : Hid (ThOk x)) (HN : Hid (-9223372036854775808 ≤ n ∧ n ≤ 9223372036854775807)) (HL : Hid (lightM x = true)) (HF : Hid (Fit x)) (HC : Hid (canM x t 1 n = true)) : Calls Try.prog 6 #[x.agg s c, .int .i64 t, opAgg 1 o n wt br] w fun e w' => e = .returned (.bool true) ∧ Below w.heap.size w w' := by
  obtain ⟨y, hy⟩ : ∃ y, doM x t 1 1 = y := ⟨_, rfl⟩
  have HD : Hid (∀ w', InW w' x s → Calls Try.prog 14 #[x.agg s c, .int .i64 t, .agg #[.int .i64 1, .int .i64 1]] w' (Told w' y true)) := Lib.hid (fun w' hi => by
    have h := do_any x t 1 1 s c w' HF.out hi (by decide) (by decide)
    rw [hy, show mayM x t 1 1 = true from can_may HC.out] at h
    exact h)
  clear hy
  go_enter Try.func6, Try.ntmps6
  go_wp2_with fail
  refine (up_any _).mono ?_
  rintro e w1 ⟨rfl, hk1⟩
  have HK1 := Lib.hid (HK0.out.tr0 hk1)
  have hT1 := HT0.out.kept0 hk1
  have HO1 := Lib.hid (hk1.at0 HO0.out)
  have HE1 := Lib.hid (HE0.out.kept0 hk1)
  clear hk1
  go_wp2_with (first | refine wpList_loadT (by rfl) (by rfl) (by rfl) (by first | assumption | exact BoxT.past (by assumption) _) ?_ | (refine wpList_storeT (by rfl) (by rfl) (by rfl) (by rfl) (BoxT.fresh _) ?_; intro WS hBS hKS))
  refine (light_any x s c _ _ HL.out).mono ?_
  rintro e w2 ⟨rfl, hk2⟩
  have HK2 := Lib.hid (HK1.out.tr0 hk2)
  have hT2 := hT1.kept0 hk2
  have HO2 := Lib.hid (hk2.at0 HO1.out)
  obtain ⟨_, _, _, _, _⟩ := op_cells HO2.out
  have HE2 := Lib.hid (HE1.out.kept0 hk2)
  clear hk2 hT1
  go_wp2_with (first | refine wpList_loadT (by rfl) (by rfl) (by rfl) (by first | assumption | exact BoxT.past (by assumption) _) ?_ | (refine wpList_storeT (by rfl) (by rfl) (by rfl) (by rfl) (BoxT.fresh _) ?_; intro WS hBS hKS))
  refine (can_any x t 1 o n wt br s c _ HF.out HE2.out HN.out.1 HN.out.2 _ HC.out).mono ?_
  rintro e w3 ⟨rfl, hk3⟩
  have hT3 := hT2.kept0 hk3
  obtain ⟨c0, c1, c2, c3, _, _, _, _, _, _, _, _, _, c13, _⟩ := hT3.cells
  obtain ⟨_, _, _, _, _⟩ := op_cells (hk3.at0 HO2.out)
  have hlt := hT3.lt
  have hlt2 : w.heap.size + 1 < w3.heap.size := (Array.getElem?_eq_some_iff.1 (hk3.at0 HO2.out)).1
  have HK3 := Lib.hid (HK2.out.tr0 hk3)
  have HE3 := Lib.hid (HE2.out.kept0 hk3)
  clear hk3 hT2
  go_wp2_with (first | refine wpList_loadT (by rfl) (by rfl) (by rfl) (by first | assumption | exact BoxT.past (by assumption) _) ?_ | (refine wpList_storeT (by rfl) (by rfl) (by rfl) (by rfl) (BoxT.fresh _) ?_; intro WS hBS hKS))
  refine (HD.out _ (HE3.out.kept0 ((Kept.refl _ _).alloc _))).mono ?_
  rintro e w4 ⟨s4, c4, rfl, _, hk4⟩
  have HK4 := Lib.hid ((HK3.out.alloc _).tr0 hk4)
  clear hk4
  go_wp2_with (first | refine wpList_loadT (by rfl) (by rfl) (by rfl) (by first | assumption | exact BoxT.past (by assumption) _) ?_ | (refine wpList_storeT (by rfl) (by rfl) (by rfl) (by rfl) (BoxT.fresh _) ?_; intro WS hBS hKS))
  go_ret
  exact ⟨rfl, (((HK4.out.alloc _).mono (T := fun k => k = w4.heap.size) (fun _ _ f => f.elim)).trans hKS (fun _ _ e => e)).below (Nat.le_refl _) (fun q e => by have := HK4.out.size; omega)⟩

set_option maxHeartbeats 4000000 in
set_option maxRecDepth 100000 in
theorem can_4 {x : Th} {s : Option Addr} {c : Nat} {t o n wt : Int} {br : Bool} {w : World} (HK0 : Hid (Kept (fun _ => False) w ((w.alloc (.cells (x.box s c) 27)).alloc (.cells #[.int .i64 4, .int .i64 o, .int .i64 n, .int .i64 wt, .bool br] 31)))) (HT0 : Hid (BoxT ((w.alloc (.cells (x.box s c) 27)).alloc (.cells #[.int .i64 4, .int .i64 o, .int .i64 n, .int .i64 wt, .bool br] 31)) w.heap.size x s c)) (HO0 : Hid (((w.alloc (.cells (x.box s c) 27)).alloc (.cells #[.int .i64 4, .int .i64 o, .int .i64 n, .int .i64 wt, .bool br] 31)).heap[w.heap.size + 1]? = some (.cells #[.int .i64 4, .int .i64 o, .int .i64 n, .int .i64 wt, .bool br] 31 (0, 0)))) (HE0 : Hid (InW ((w.alloc (.cells (x.box s c) 27)).alloc (.cells #[.int .i64 4, .int .i64 o, .int .i64 n, .int .i64 wt, .bool br] 31)) x s)) (HOK : Hid (ThOk x)) (HN : Hid (-9223372036854775808 ≤ n ∧ n ≤ 9223372036854775807)) (HL : Hid (lightM x = true)) (HF : Hid (Fit x)) (HC : Hid (canM x t 4 n = true)) : Calls Try.prog 6 #[x.agg s c, .int .i64 t, opAgg 4 o n wt br] w fun e w' => e = .returned (.bool true) ∧ Below w.heap.size w w' := by
  obtain ⟨y, hy⟩ : ∃ y, doM x t 1 n = y := ⟨_, rfl⟩
  have HD : Hid (∀ w', InW w' x s → Calls Try.prog 14 #[x.agg s c, .int .i64 t, .agg #[.int .i64 1, .int .i64 n]] w' (Told w' y true)) := Lib.hid (fun w' hi => by
    have h := do_any x t 1 n s c w' HF.out hi HN.out.1 HN.out.2
    rw [hy, show mayM x t 1 n = true from can_may HC.out] at h
    exact h)
  clear hy
  go_enter Try.func6, Try.ntmps6
  go_wp2_with fail
  refine (up_any _).mono ?_
  rintro e w1 ⟨rfl, hk1⟩
  have HK1 := Lib.hid (HK0.out.tr0 hk1)
  have hT1 := HT0.out.kept0 hk1
  have HO1 := Lib.hid (hk1.at0 HO0.out)
  have HE1 := Lib.hid (HE0.out.kept0 hk1)
  clear hk1
  go_wp2_with (first | refine wpList_loadT (by rfl) (by rfl) (by rfl) (by first | assumption | exact BoxT.past (by assumption) _) ?_ | (refine wpList_storeT (by rfl) (by rfl) (by rfl) (by rfl) (BoxT.fresh _) ?_; intro WS hBS hKS))
  refine (light_any x s c _ _ HL.out).mono ?_
  rintro e w2 ⟨rfl, hk2⟩
  have HK2 := Lib.hid (HK1.out.tr0 hk2)
  have hT2 := hT1.kept0 hk2
  have HO2 := Lib.hid (hk2.at0 HO1.out)
  obtain ⟨_, _, _, _, _⟩ := op_cells HO2.out
  have HE2 := Lib.hid (HE1.out.kept0 hk2)
  clear hk2 hT1
  go_wp2_with (first | refine wpList_loadT (by rfl) (by rfl) (by rfl) (by first | assumption | exact BoxT.past (by assumption) _) ?_ | (refine wpList_storeT (by rfl) (by rfl) (by rfl) (by rfl) (BoxT.fresh _) ?_; intro WS hBS hKS))
  refine (can_any x t 4 o n wt br s c _ HF.out HE2.out HN.out.1 HN.out.2 _ HC.out).mono ?_
  rintro e w3 ⟨rfl, hk3⟩
  have hT3 := hT2.kept0 hk3
  obtain ⟨c0, c1, c2, c3, _, _, _, _, _, _, _, _, _, c13, _⟩ := hT3.cells
  obtain ⟨_, _, _, _, _⟩ := op_cells (hk3.at0 HO2.out)
  have hlt := hT3.lt
  have hlt2 : w.heap.size + 1 < w3.heap.size := (Array.getElem?_eq_some_iff.1 (hk3.at0 HO2.out)).1
  have HK3 := Lib.hid (HK2.out.tr0 hk3)
  have HE3 := Lib.hid (HE2.out.kept0 hk3)
  clear hk3 hT2
  go_wp2_with (first | refine wpList_loadT (by rfl) (by rfl) (by rfl) (by first | assumption | exact BoxT.past (by assumption) _) ?_ | (refine wpList_storeT (by rfl) (by rfl) (by rfl) (by rfl) (BoxT.fresh _) ?_; intro WS hBS hKS))
  refine (HD.out _ (HE3.out.kept0 ((Kept.refl _ _).alloc _))).mono ?_
  rintro e w4 ⟨s4, c4, rfl, _, hk4⟩
  have HK4 := Lib.hid ((HK3.out.alloc _).tr0 hk4)
  clear hk4
  go_wp2_with (first | refine wpList_loadT (by rfl) (by rfl) (by rfl) (by first | assumption | exact BoxT.past (by assumption) _) ?_ | (refine wpList_storeT (by rfl) (by rfl) (by rfl) (by rfl) (BoxT.fresh _) ?_; intro WS hBS hKS))
  go_ret
  exact ⟨rfl, (((HK4.out.alloc _).mono (T := fun k => k = w4.heap.size) (fun _ _ f => f.elim)).trans hKS (fun _ _ e => e)).below (Nat.le_refl _) (fun q e => by have := HK4.out.size; omega)⟩

set_option maxHeartbeats 4000000 in
set_option maxRecDepth 100000 in
theorem can_8 {x : Th} {s : Option Addr} {c : Nat} {t o n wt : Int} {br : Bool} {w : World} (HK0 : Hid (Kept (fun _ => False) w ((w.alloc (.cells (x.box s c) 27)).alloc (.cells #[.int .i64 8, .int .i64 o, .int .i64 n, .int .i64 wt, .bool br] 31)))) (HT0 : Hid (BoxT ((w.alloc (.cells (x.box s c) 27)).alloc (.cells #[.int .i64 8, .int .i64 o, .int .i64 n, .int .i64 wt, .bool br] 31)) w.heap.size x s c)) (HO0 : Hid (((w.alloc (.cells (x.box s c) 27)).alloc (.cells #[.int .i64 8, .int .i64 o, .int .i64 n, .int .i64 wt, .bool br] 31)).heap[w.heap.size + 1]? = some (.cells #[.int .i64 8, .int .i64 o, .int .i64 n, .int .i64 wt, .bool br] 31 (0, 0)))) (HE0 : Hid (InW ((w.alloc (.cells (x.box s c) 27)).alloc (.cells #[.int .i64 8, .int .i64 o, .int .i64 n, .int .i64 wt, .bool br] 31)) x s)) (HOK : Hid (ThOk x)) (HN : Hid (-9223372036854775808 ≤ n ∧ n ≤ 9223372036854775807)) (HL : Hid (lightM x = true)) (HF : Hid (Fit x)) (HC : Hid (canM x t 8 n = true)) : Calls Try.prog 6 #[x.agg s c, .int .i64 t, opAgg 8 o n wt br] w fun e w' => e = .returned (.bool true) ∧ Below w.heap.size w w' := by
  obtain ⟨y, hy⟩ : ∃ y, doM x t 1 0 = y := ⟨_, rfl⟩
  have HD : Hid (∀ w', InW w' x s → Calls Try.prog 14 #[x.agg s c, .int .i64 t, .agg #[.int .i64 1, .int .i64 0]] w' (Told w' y true)) := Lib.hid (fun w' hi => by
    have h := do_any x t 1 0 s c w' HF.out hi (by decide) (by decide)
    rw [hy, show mayM x t 1 0 = true from can_may HC.out] at h
    exact h)
  clear hy
  go_enter Try.func6, Try.ntmps6
  go_wp2_with fail
  refine (up_any _).mono ?_
  rintro e w1 ⟨rfl, hk1⟩
  have HK1 := Lib.hid (HK0.out.tr0 hk1)
  have hT1 := HT0.out.kept0 hk1
  have HO1 := Lib.hid (hk1.at0 HO0.out)
  have HE1 := Lib.hid (HE0.out.kept0 hk1)
  clear hk1
  go_wp2_with (first | refine wpList_loadT (by rfl) (by rfl) (by rfl) (by first | assumption | exact BoxT.past (by assumption) _) ?_ | (refine wpList_storeT (by rfl) (by rfl) (by rfl) (by rfl) (BoxT.fresh _) ?_; intro WS hBS hKS))
  refine (light_any x s c _ _ HL.out).mono ?_
  rintro e w2 ⟨rfl, hk2⟩
  have HK2 := Lib.hid (HK1.out.tr0 hk2)
  have hT2 := hT1.kept0 hk2
  have HO2 := Lib.hid (hk2.at0 HO1.out)
  obtain ⟨_, _, _, _, _⟩ := op_cells HO2.out
  have HE2 := Lib.hid (HE1.out.kept0 hk2)
  clear hk2 hT1
  go_wp2_with (first | refine wpList_loadT (by rfl) (by rfl) (by rfl) (by first | assumption | exact BoxT.past (by assumption) _) ?_ | (refine wpList_storeT (by rfl) (by rfl) (by rfl) (by rfl) (BoxT.fresh _) ?_; intro WS hBS hKS))
  refine (can_any x t 8 o n wt br s c _ HF.out HE2.out HN.out.1 HN.out.2 _ HC.out).mono ?_
  rintro e w3 ⟨rfl, hk3⟩
  have hT3 := hT2.kept0 hk3
  obtain ⟨c0, c1, c2, c3, _, _, _, _, _, _, _, _, _, c13, _⟩ := hT3.cells
  obtain ⟨_, _, _, _, _⟩ := op_cells (hk3.at0 HO2.out)
  have hlt := hT3.lt
  have hlt2 : w.heap.size + 1 < w3.heap.size := (Array.getElem?_eq_some_iff.1 (hk3.at0 HO2.out)).1
  have HK3 := Lib.hid (HK2.out.tr0 hk3)
  have HE3 := Lib.hid (HE2.out.kept0 hk3)
  clear hk3 hT2
  go_wp2_with (first | refine wpList_loadT (by rfl) (by rfl) (by rfl) (by first | assumption | exact BoxT.past (by assumption) _) ?_ | (refine wpList_storeT (by rfl) (by rfl) (by rfl) (by rfl) (BoxT.fresh _) ?_; intro WS hBS hKS))
  refine (HD.out _ (HE3.out.kept0 ((Kept.refl _ _).alloc _))).mono ?_
  rintro e w4 ⟨s4, c4, rfl, _, hk4⟩
  have HK4 := Lib.hid ((HK3.out.alloc _).tr0 hk4)
  clear hk4
  go_wp2_with (first | refine wpList_loadT (by rfl) (by rfl) (by rfl) (by first | assumption | exact BoxT.past (by assumption) _) ?_ | (refine wpList_storeT (by rfl) (by rfl) (by rfl) (by rfl) (BoxT.fresh _) ?_; intro WS hBS hKS))
  go_ret
  exact ⟨rfl, (((HK4.out.alloc _).mono (T := fun k => k = w4.heap.size) (fun _ _ f => f.elim)).trans hKS (fun _ _ e => e)).below (Nat.le_refl _) (fun q e => by have := HK4.out.size; omega)⟩

set_option maxHeartbeats 4000000 in
set_option maxRecDepth 100000 in
theorem can_13 {x : Th} {s : Option Addr} {c : Nat} {t o n wt : Int} {br : Bool} {w : World} (HK0 : Hid (Kept (fun _ => False) w ((w.alloc (.cells (x.box s c) 27)).alloc (.cells #[.int .i64 13, .int .i64 o, .int .i64 n, .int .i64 wt, .bool br] 31)))) (HT0 : Hid (BoxT ((w.alloc (.cells (x.box s c) 27)).alloc (.cells #[.int .i64 13, .int .i64 o, .int .i64 n, .int .i64 wt, .bool br] 31)) w.heap.size x s c)) (HO0 : Hid (((w.alloc (.cells (x.box s c) 27)).alloc (.cells #[.int .i64 13, .int .i64 o, .int .i64 n, .int .i64 wt, .bool br] 31)).heap[w.heap.size + 1]? = some (.cells #[.int .i64 13, .int .i64 o, .int .i64 n, .int .i64 wt, .bool br] 31 (0, 0)))) (HE0 : Hid (InW ((w.alloc (.cells (x.box s c) 27)).alloc (.cells #[.int .i64 13, .int .i64 o, .int .i64 n, .int .i64 wt, .bool br] 31)) x s)) (HOK : Hid (ThOk x)) (HN : Hid (-9223372036854775808 ≤ n ∧ n ≤ 9223372036854775807)) (HL : Hid (lightM x = true)) (HF : Hid (Fit x)) (HC : Hid (canM x t 13 n = true)) : Calls Try.prog 6 #[x.agg s c, .int .i64 t, opAgg 13 o n wt br] w fun e w' => e = .returned (.bool true) ∧ Below w.heap.size w w' := by
  obtain ⟨y, hy⟩ : ∃ y, doM x t 1 1 = y := ⟨_, rfl⟩
  have HD : Hid (∀ w', InW w' x s → Calls Try.prog 14 #[x.agg s c, .int .i64 t, .agg #[.int .i64 1, .int .i64 1]] w' (Told w' y true)) := Lib.hid (fun w' hi => by
    have h := do_any x t 1 1 s c w' HF.out hi (by decide) (by decide)
    rw [hy, show mayM x t 1 1 = true from can_may HC.out] at h
    exact h)
  clear hy
  go_enter Try.func6, Try.ntmps6
  go_wp2_with fail
  refine (up_any _).mono ?_
  rintro e w1 ⟨rfl, hk1⟩
  have HK1 := Lib.hid (HK0.out.tr0 hk1)
  have hT1 := HT0.out.kept0 hk1
  have HO1 := Lib.hid (hk1.at0 HO0.out)
  have HE1 := Lib.hid (HE0.out.kept0 hk1)
  clear hk1
  go_wp2_with (first | refine wpList_loadT (by rfl) (by rfl) (by rfl) (by first | assumption | exact BoxT.past (by assumption) _) ?_ | (refine wpList_storeT (by rfl) (by rfl) (by rfl) (by rfl) (BoxT.fresh _) ?_; intro WS hBS hKS))
  refine (light_any x s c _ _ HL.out).mono ?_
  rintro e w2 ⟨rfl, hk2⟩
  have HK2 := Lib.hid (HK1.out.tr0 hk2)
  have hT2 := hT1.kept0 hk2
  have HO2 := Lib.hid (hk2.at0 HO1.out)
  obtain ⟨_, _, _, _, _⟩ := op_cells HO2.out
  have HE2 := Lib.hid (HE1.out.kept0 hk2)
  clear hk2 hT1
  go_wp2_with (first | refine wpList_loadT (by rfl) (by rfl) (by rfl) (by first | assumption | exact BoxT.past (by assumption) _) ?_ | (refine wpList_storeT (by rfl) (by rfl) (by rfl) (by rfl) (BoxT.fresh _) ?_; intro WS hBS hKS))
  refine (can_any x t 13 o n wt br s c _ HF.out HE2.out HN.out.1 HN.out.2 _ HC.out).mono ?_
  rintro e w3 ⟨rfl, hk3⟩
  have hT3 := hT2.kept0 hk3
  obtain ⟨c0, c1, c2, c3, _, _, _, _, _, _, _, _, _, c13, _⟩ := hT3.cells
  obtain ⟨_, _, _, _, _⟩ := op_cells (hk3.at0 HO2.out)
  have hlt := hT3.lt
  have hlt2 : w.heap.size + 1 < w3.heap.size := (Array.getElem?_eq_some_iff.1 (hk3.at0 HO2.out)).1
  have HK3 := Lib.hid (HK2.out.tr0 hk3)
  have HE3 := Lib.hid (HE2.out.kept0 hk3)
  clear hk3 hT2
  go_wp2_with (first | refine wpList_loadT (by rfl) (by rfl) (by rfl) (by first | assumption | exact BoxT.past (by assumption) _) ?_ | (refine wpList_storeT (by rfl) (by rfl) (by rfl) (by rfl) (BoxT.fresh _) ?_; intro WS hBS hKS))
  refine (HD.out _ (HE3.out.kept0 ((Kept.refl _ _).alloc _))).mono ?_
  rintro e w4 ⟨s4, c4, rfl, _, hk4⟩
  have HK4 := Lib.hid ((HK3.out.alloc _).tr0 hk4)
  clear hk4
  go_wp2_with (first | refine wpList_loadT (by rfl) (by rfl) (by rfl) (by first | assumption | exact BoxT.past (by assumption) _) ?_ | (refine wpList_storeT (by rfl) (by rfl) (by rfl) (by rfl) (BoxT.fresh _) ?_; intro WS hBS hKS))
  go_ret
  exact ⟨rfl, (((HK4.out.alloc _).mono (T := fun k => k = w4.heap.size) (fun _ _ f => f.elim)).trans hKS (fun _ _ e => e)).below (Nat.le_refl _) (fun q e => by have := HK4.out.size; omega)⟩

set_option maxHeartbeats 4000000 in
set_option maxRecDepth 100000 in
theorem can_10 {x : Th} {s : Option Addr} {c : Nat} {t o n wt : Int} {br : Bool} {w : World} (HK0 : Hid (Kept (fun _ => False) w ((w.alloc (.cells (x.box s c) 27)).alloc (.cells #[.int .i64 10, .int .i64 o, .int .i64 n, .int .i64 wt, .bool br] 31)))) (HT0 : Hid (BoxT ((w.alloc (.cells (x.box s c) 27)).alloc (.cells #[.int .i64 10, .int .i64 o, .int .i64 n, .int .i64 wt, .bool br] 31)) w.heap.size x s c)) (HO0 : Hid (((w.alloc (.cells (x.box s c) 27)).alloc (.cells #[.int .i64 10, .int .i64 o, .int .i64 n, .int .i64 wt, .bool br] 31)).heap[w.heap.size + 1]? = some (.cells #[.int .i64 10, .int .i64 o, .int .i64 n, .int .i64 wt, .bool br] 31 (0, 0)))) (HE0 : Hid (InW ((w.alloc (.cells (x.box s c) 27)).alloc (.cells #[.int .i64 10, .int .i64 o, .int .i64 n, .int .i64 wt, .bool br] 31)) x s)) (HOK : Hid (ThOk x)) (HN : Hid (-9223372036854775808 ≤ n ∧ n ≤ 9223372036854775807)) (HL : Hid (lightM x = true)) (HF : Hid (Fit x)) (HC : Hid (canM x t 10 n = true)) : Calls Try.prog 6 #[x.agg s c, .int .i64 t, opAgg 10 o n wt br] w fun e w' => e = .returned (.bool true) ∧ Below w.heap.size w w' := by
  obtain ⟨y, hy⟩ : ∃ y, doM x t 2 0 = y := ⟨_, rfl⟩
  have HD : Hid (∀ w', InW w' x s → Calls Try.prog 14 #[x.agg s c, .int .i64 t, .agg #[.int .i64 2, .int .i64 0]] w' (Told w' y true)) := Lib.hid (fun w' hi => by
    have h := do_any x t 2 0 s c w' HF.out hi (by decide) (by decide)
    rw [hy, show mayM x t 2 0 = true from can_may HC.out] at h
    exact h)
  clear hy
  go_enter Try.func6, Try.ntmps6
  go_wp2_with fail
  refine (up_any _).mono ?_
  rintro e w1 ⟨rfl, hk1⟩
  have HK1 := Lib.hid (HK0.out.tr0 hk1)
  have hT1 := HT0.out.kept0 hk1
  have HO1 := Lib.hid (hk1.at0 HO0.out)
  have HE1 := Lib.hid (HE0.out.kept0 hk1)
  clear hk1
  go_wp2_with (first | refine wpList_loadT (by rfl) (by rfl) (by rfl) (by first | assumption | exact BoxT.past (by assumption) _) ?_ | (refine wpList_storeT (by rfl) (by rfl) (by rfl) (by rfl) (BoxT.fresh _) ?_; intro WS hBS hKS))
  refine (light_any x s c _ _ HL.out).mono ?_
  rintro e w2 ⟨rfl, hk2⟩
  have HK2 := Lib.hid (HK1.out.tr0 hk2)
  have hT2 := hT1.kept0 hk2
  have HO2 := Lib.hid (hk2.at0 HO1.out)
  obtain ⟨_, _, _, _, _⟩ := op_cells HO2.out
  have HE2 := Lib.hid (HE1.out.kept0 hk2)
  clear hk2 hT1
  go_wp2_with (first | refine wpList_loadT (by rfl) (by rfl) (by rfl) (by first | assumption | exact BoxT.past (by assumption) _) ?_ | (refine wpList_storeT (by rfl) (by rfl) (by rfl) (by rfl) (BoxT.fresh _) ?_; intro WS hBS hKS))
  refine (can_any x t 10 o n wt br s c _ HF.out HE2.out HN.out.1 HN.out.2 _ HC.out).mono ?_
  rintro e w3 ⟨rfl, hk3⟩
  have hT3 := hT2.kept0 hk3
  obtain ⟨c0, c1, c2, c3, _, _, _, _, _, _, _, _, _, c13, _⟩ := hT3.cells
  obtain ⟨_, _, _, _, _⟩ := op_cells (hk3.at0 HO2.out)
  have hlt := hT3.lt
  have hlt2 : w.heap.size + 1 < w3.heap.size := (Array.getElem?_eq_some_iff.1 (hk3.at0 HO2.out)).1
  have HK3 := Lib.hid (HK2.out.tr0 hk3)
  have HE3 := Lib.hid (HE2.out.kept0 hk3)
  clear hk3 hT2
  go_wp2_with (first | refine wpList_loadT (by rfl) (by rfl) (by rfl) (by first | assumption | exact BoxT.past (by assumption) _) ?_ | (refine wpList_storeT (by rfl) (by rfl) (by rfl) (by rfl) (BoxT.fresh _) ?_; intro WS hBS hKS))
  refine (HD.out _ (HE3.out.kept0 ((Kept.refl _ _).alloc _))).mono ?_
  rintro e w4 ⟨s4, c4, rfl, _, hk4⟩
  have HK4 := Lib.hid ((HK3.out.alloc _).tr0 hk4)
  clear hk4
  go_wp2_with (first | refine wpList_loadT (by rfl) (by rfl) (by rfl) (by first | assumption | exact BoxT.past (by assumption) _) ?_ | (refine wpList_storeT (by rfl) (by rfl) (by rfl) (by rfl) (BoxT.fresh _) ?_; intro WS hBS hKS))
  go_ret
  exact ⟨rfl, (((HK4.out.alloc _).mono (T := fun k => k = w4.heap.size) (fun _ _ f => f.elim)).trans hKS (fun _ _ e => e)).below (Nat.le_refl _) (fun q e => by have := HK4.out.size; omega)⟩

set_option maxHeartbeats 4000000 in
set_option maxRecDepth 100000 in
theorem can_19 {x : Th} {s : Option Addr} {c : Nat} {t o n wt : Int} {br : Bool} {w : World} (HK0 : Hid (Kept (fun _ => False) w ((w.alloc (.cells (x.box s c) 27)).alloc (.cells #[.int .i64 19, .int .i64 o, .int .i64 n, .int .i64 wt, .bool br] 31)))) (HT0 : Hid (BoxT ((w.alloc (.cells (x.box s c) 27)).alloc (.cells #[.int .i64 19, .int .i64 o, .int .i64 n, .int .i64 wt, .bool br] 31)) w.heap.size x s c)) (HO0 : Hid (((w.alloc (.cells (x.box s c) 27)).alloc (.cells #[.int .i64 19, .int .i64 o, .int .i64 n, .int .i64 wt, .bool br] 31)).heap[w.heap.size + 1]? = some (.cells #[.int .i64 19, .int .i64 o, .int .i64 n, .int .i64 wt, .bool br] 31 (0, 0)))) (HE0 : Hid (InW ((w.alloc (.cells (x.box s c) 27)).alloc (.cells #[.int .i64 19, .int .i64 o, .int .i64 n, .int .i64 wt, .bool br] 31)) x s)) (HOK : Hid (ThOk x)) (HN : Hid (-9223372036854775808 ≤ n ∧ n ≤ 9223372036854775807)) (HL : Hid (lightM x = true)) (HF : Hid (Fit x)) (HC : Hid (canM x t 19 n = true)) : Calls Try.prog 6 #[x.agg s c, .int .i64 t, opAgg 19 o n wt br] w fun e w' => e = .returned (.bool true) ∧ Below w.heap.size w w' := by
  obtain ⟨y, hy⟩ : ∃ y, doM x t 14 x.offer = y := ⟨_, rfl⟩
  have HD : Hid (∀ w', InW w' x s → Calls Try.prog 14 #[x.agg s c, .int .i64 t, .agg #[.int .i64 14, .int .i64 x.offer]] w' (Told w' y true)) := Lib.hid (fun w' hi => by
    have h := do_any x t 14 x.offer s c w' HF.out hi HOK.out.o0 HOK.out.o1
    rw [hy, show mayM x t 14 x.offer = true from can_may HC.out] at h
    exact h)
  clear hy
  go_enter Try.func6, Try.ntmps6
  go_wp2_with fail
  refine (up_any _).mono ?_
  rintro e w1 ⟨rfl, hk1⟩
  have HK1 := Lib.hid (HK0.out.tr0 hk1)
  have hT1 := HT0.out.kept0 hk1
  have HO1 := Lib.hid (hk1.at0 HO0.out)
  have HE1 := Lib.hid (HE0.out.kept0 hk1)
  clear hk1
  go_wp2_with (first | refine wpList_loadT (by rfl) (by rfl) (by rfl) (by first | assumption | exact BoxT.past (by assumption) _) ?_ | (refine wpList_storeT (by rfl) (by rfl) (by rfl) (by rfl) (BoxT.fresh _) ?_; intro WS hBS hKS))
  refine (light_any x s c _ _ HL.out).mono ?_
  rintro e w2 ⟨rfl, hk2⟩
  have HK2 := Lib.hid (HK1.out.tr0 hk2)
  have hT2 := hT1.kept0 hk2
  have HO2 := Lib.hid (hk2.at0 HO1.out)
  obtain ⟨_, _, _, _, _⟩ := op_cells HO2.out
  have HE2 := Lib.hid (HE1.out.kept0 hk2)
  clear hk2 hT1
  go_wp2_with (first | refine wpList_loadT (by rfl) (by rfl) (by rfl) (by first | assumption | exact BoxT.past (by assumption) _) ?_ | (refine wpList_storeT (by rfl) (by rfl) (by rfl) (by rfl) (BoxT.fresh _) ?_; intro WS hBS hKS))
  refine (can_any x t 19 o n wt br s c _ HF.out HE2.out HN.out.1 HN.out.2 _ HC.out).mono ?_
  rintro e w3 ⟨rfl, hk3⟩
  have hT3 := hT2.kept0 hk3
  obtain ⟨c0, c1, c2, c3, _, _, _, _, _, _, _, _, _, c13, _⟩ := hT3.cells
  obtain ⟨_, _, _, _, _⟩ := op_cells (hk3.at0 HO2.out)
  have hlt := hT3.lt
  have hlt2 : w.heap.size + 1 < w3.heap.size := (Array.getElem?_eq_some_iff.1 (hk3.at0 HO2.out)).1
  have HK3 := Lib.hid (HK2.out.tr0 hk3)
  have HE3 := Lib.hid (HE2.out.kept0 hk3)
  clear hk3 hT2
  go_wp2_with (first | refine wpList_loadT (by rfl) (by rfl) (by rfl) (by first | assumption | exact BoxT.past (by assumption) _) ?_ | (refine wpList_storeT (by rfl) (by rfl) (by rfl) (by rfl) (BoxT.fresh _) ?_; intro WS hBS hKS))
  refine (HD.out _ (HE3.out.kept0 ((Kept.refl _ _).alloc _))).mono ?_
  rintro e w4 ⟨s4, c4, rfl, _, hk4⟩
  have HK4 := Lib.hid ((HK3.out.alloc _).tr0 hk4)
  clear hk4
  go_wp2_with (first | refine wpList_loadT (by rfl) (by rfl) (by rfl) (by first | assumption | exact BoxT.past (by assumption) _) ?_ | (refine wpList_storeT (by rfl) (by rfl) (by rfl) (by rfl) (BoxT.fresh _) ?_; intro WS hBS hKS))
  go_ret
  exact ⟨rfl, (((HK4.out.alloc _).mono (T := fun k => k = w4.heap.size) (fun _ _ f => f.elim)).trans hKS (fun _ _ e => e)).below (Nat.le_refl _) (fun q e => by have := HK4.out.size; omega)⟩

theorem walk (x : Th) (s : Option Addr) (c : Nat) (t k o n wt : Int) (br : Bool) (w : World) (hE : InW w x s) (hok : ThOk x) (n0 : -9223372036854775808 ≤ n) (n1 : n ≤ 9223372036854775807) : Calls Try.prog 6 #[x.agg s c, .int .i64 t, opAgg k o n wt br] w fun e w' => e = .returned (.bool true) ∧ Below w.heap.size w w' := by
  have hk0 : Kept (fun _ => False) w ((w.alloc (.cells (x.box s c) 27)).alloc (.cells #[.int .i64 k, .int .i64 o, .int .i64 n, .int .i64 wt, .bool br] 31)) := ((Kept.refl _ w).alloc _).alloc _
  have HK0 := Lib.hid hk0
  have HT0 : Hid (BoxT ((w.alloc (.cells (x.box s c) 27)).alloc (.cells #[.int .i64 k, .int .i64 o, .int .i64 n, .int .i64 wt, .bool br] 31)) w.heap.size x s c) := Lib.hid ((BoxT.new w x s c).kept0 ((Kept.refl _ _).alloc _))
  have HO0 : Hid (((w.alloc (.cells (x.box s c) 27)).alloc (.cells #[.int .i64 k, .int .i64 o, .int .i64 n, .int .i64 wt, .bool br] 31)).heap[w.heap.size + 1]? = some (.cells #[.int .i64 k, .int .i64 o, .int .i64 n, .int .i64 wt, .bool br] 31 (0, 0))) := Lib.hid (by
    have := heap_new1 (w.alloc (.cells (x.box s c) 27)) (.cells #[.int .i64 k, .int .i64 o, .int .i64 n, .int .i64 wt, .bool br] 31)
    rwa [show (w.alloc (.cells (x.box s c) 27)).heap.size = w.heap.size + 1 from by simp] at this)
  have HE0 : Hid (InW ((w.alloc (.cells (x.box s c) 27)).alloc (.cells #[.int .i64 k, .int .i64 o, .int .i64 n, .int .i64 wt, .bool br] 31)) x s) := Lib.hid (hE.kept0 hk0)
  have HOK := Lib.hid hok
  have HN := Lib.hid (And.intro n0 n1)
  cases hl : lightM x with
  | false => exact not_light HK0 HT0 HO0 HE0 HOK HN (Lib.hid hl)
  | true =>
    have HF := Lib.hid (light_fit hl hok.o0 hok.o1 hok.t0 hok.t1).1
    cases hc : canM x t k n with
    | false => exact can_not HK0 HT0 HO0 HE0 HOK HN (Lib.hid hl) HF (Lib.hid hc)
    | true =>
      rcases can_kind hc with rfl | rfl | rfl | rfl | rfl | rfl
      · exact can_1 HK0 HT0 HO0 HE0 HOK HN (Lib.hid hl) HF (Lib.hid hc)
      · exact can_4 HK0 HT0 HO0 HE0 HOK HN (Lib.hid hl) HF (Lib.hid hc)
      · exact can_8 HK0 HT0 HO0 HE0 HOK HN (Lib.hid hl) HF (Lib.hid hc)
      · exact can_13 HK0 HT0 HO0 HE0 HOK HN (Lib.hid hl) HF (Lib.hid hc)
      · exact can_10 HK0 HT0 HO0 HE0 HOK HN (Lib.hid hl) HF (Lib.hid hc)
      · exact can_19 HK0 HT0 HO0 HE0 HOK HN (Lib.hid hl) HF (Lib.hid hc)

theorem own : ownKnob Try.prog.godebug = none := by kernel_rfl
theorem laidOut : laidOutB Try.prog = true := by kernel_rfl

set_option maxRecDepth 100000 in
theorem lifted (os : Os) (started : os.Started) (H : Type) (enc : TypeId × Value → H) :
    ReturnsInHanded {} Try.checked os 6 .any (Rows.modelCanSpec.pre6 enc Try.prog Try.f6 Rows.modelCanRow.domain false) (Rows.modelCanSpec.post enc Try.prog Try.f6 false true false false) := by
  refine returnsInHanded_of_change (C := Try.checked) own started (by kernel_rfl) Try.func6
    (ChangeSpec.witness6 (enc := enc) (C := Try.checked) false ⟨#[], #[.agg #[.int .i64 0, .int .i64 0, .int .i64 0, .int .i64 0, .int .i64 0, .int .i64 0, .int .i64 0, .int .i64 0, .int .i64 0, .int .i64 0, .int .i64 0, .int .i64 0, .slice none 0 0, .int .i64 0, .int .i64 0], .int .i64 0, .agg #[.int .i64 0, .int .i64 0, .int .i64 0, .int .i64 0, .bool false]], []⟩ 8 (by kernel_rfl) (by kernel_rfl) (by kernel_rfl) (by kernel_rfl)) ?_
  intro W base args ds gs before hval0 hW hcnd _
  have hval : ∀ (j : Nat) t v, Try.f6.params[j]? = some t → args[j]? = some v → Value.okWide Try.prog W .any base t v := hval0
  have hW' := hW
  obtain ⟨p, q, hA0, hV, rfl, hfz, hnd⟩ := hW
  have hA : DataW.TrodAll enc Try.prog W 0 (fun _ => true) true Try.f6.params.toList args.toList ds p := hA0
  rw [Try.params6] at hA hval
  obtain ⟨v0, vs0, d0, ds0, p0, q0, hargs, rfl, rfl, h0, r0⟩ := trodAll_cons hA
  obtain ⟨v1, vs1, d1, ds1, p1, q1, rfl, rfl, rfl, h1, r1⟩ := trodAll_cons r0
  obtain ⟨v2, vs2, d2, ds2, p2, q2, rfl, rfl, rfl, h2, r2⟩ := trodAll_cons r1
  obtain ⟨rfl, rfl, rfl⟩ := trodAll_nil r2
  obtain rfl : args = #[v0, v1, v2] := by cases args; simp_all
  obtain ⟨rfl, rfl⟩ := trodVars_none hV
  have k0 := h0
  have lt0 : ∀ x ∈ p0, x.block < W.heap.size := by obtain ⟨m, hm⟩ := k0; exact DataW.trod_lt m _ _ _ hm
  obtain ⟨x0, s0, c0, rfl, hx0, hok0⟩ := th_of (okWide_struct Try.underlying27 (hval 0 27 v0 rfl rfl)) k0
  obtain ⟨a1, rfl, rfl, rfl, w1⟩ := open_int Try.underlying3 (hval 1 3 v1 rfl rfl) h1
  have k2 := h2
  have lt2 : ∀ x ∈ p2, x.block < W.heap.size := by obtain ⟨m, hm⟩ := k2; exact DataW.trod_lt m _ _ _ hm
  obtain ⟨ok2, oo2, on2, ow2, ob2, rfl, hq2⟩ := op_of (okWide_struct Try.underlying31 (hval 2 31 v2 rfl rfl)) k2
  clear hA0 hval0
  refine (walk x0 s0 c0 a1 ok2 oo2 on2 ow2 ob2 W hx0 hok0 hq2.1 hq2.2).mono fun e W' ⟨he, bel⟩ => ?_
  subst he
  exact ⟨_, rfl, _, _, _, [], _, [], hW', trodAll_mk1 (shut_bool Try.underlying4 _), (trodAll_cons_mk (Below.trod laidOut (by kernel_rfl) (of_decide_eq_true (by kernel_rfl)) k0 bel lt0) (trodAll_cons_mk (shut_int Try.underlying3 w1) (trodAll_cons_mk (Below.trod laidOut (by kernel_rfl) (of_decide_eq_true (by kernel_rfl)) k2 bel lt2) trodAll_mk0))), rfl, bel.frame _, fun h => by cases h⟩

theorem over : Rows.modelCanRow.holds Try.pinned (OpenSpec.ofChange Rows.modelCanSpec) :=
  OpenClaim.holds_of_wide 6 Try.f6 rfl rfl rfl rfl rfl rfl rfl ⟨rfl, rfl, rfl, rfl, rfl⟩ rfl rfl rfl rfl rfl (by kernel_rfl) Try.func6 (by kernel_rfl)
    (of_decide_eq_true (by kernel_rfl)) (by unfold Func.isWrapper; first | (rw [if_pos (by decide +kernel)]; kernel_rfl) | (rw [if_neg (by decide +kernel)]; exact ⟨rfl, rfl⟩))
    (fun os started H enc _ => lifted os started H enc)

end modelCan
/-- The statement. -/
theorem modelCan_holds : Rows.ModelCanSaid := modelCan.over
end Go.Proofs.Ythjblniabnjfhaa
