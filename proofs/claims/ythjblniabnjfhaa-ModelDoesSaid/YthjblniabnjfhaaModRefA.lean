/-
  The document's answer of layer 10: sema, swap.
  Conditions: no count is beyond two millions; the waiters lie in memory.
-/
import Derived.Test.YthjblniabnjfhaaModRefK
namespace Go.Proofs.Ythjblniabnjfhaa
open Go.RowKit
set_option linter.unusedSimpArgs false
set_option linter.unusedVariables false

theorem over_of (n v : Int) {b : Bool} (h : decide (v ≤ 1000 - n) = b) : overM n v = !b := by
  rw [← h]
  unfold overM
  by_cases e : v ≤ 1000 - n
  · rw [decide_eq_true e, decide_eq_false (by omega)]; rfl
  · rw [decide_eq_false e, decide_eq_true (by omega)]; rfl
theorem over_of2 (n v : Int) {b : Bool} (h : decide (1000 - n < v) = b) : overM n v = b := by
  rw [← h]
  unfold overM
  by_cases e : 1000 - n < v
  · rw [decide_eq_true e, decide_eq_true (by omega)]
  · rw [decide_eq_false e, decide_eq_false (by omega)]

set_option maxHeartbeats 2000000 in
theorem rsema_1 (x : Th) (v : Int) (s : Option Addr) (c : Nat) (w : World) (hF : Fit x) (hE : InW w x s) :
    Calls Try.prog 23 #[x.agg s c, .int .i64 1, .int .i64 v] w (SaidB w s x.ws (if (decide (1 ≤ v) && decide (v ≤ x.n)) = true then countM x 1 v else x) (decide (1 ≤ v) && decide (v ≤ x.n))) := by
  obtain ⟨W1, W2, hW1, hW2, s1, s2, hT, hZ, hk, hEl⟩ := ref_box x s c w hE
  obtain ⟨c0, c1, c2, c3, _, _, _, _, _, _, _, _, _, c13, c14⟩ := hT.cells
  have f1 := hT.free 1
  have f2 := hT.free 2
  have f3 := hT.free 3
  have f13 := hT.free 13
  have f14 := hT.free 14
  have b0 : -2000000 ≤ x.n := hF.n0
  have b1 : x.n ≤ 2000000 := hF.n1
  have b2 : -2000000 ≤ 1000 - x.n := by omega
  have b3 : 1000 - x.n ≤ 2001000 := by omega
  have HFIN : Hid (∀ Wa W5 (y : Th) r, Kept (fun k => k = w.heap.size) W2 Wa → Kept (fun k => k = w.heap.size + 1) Wa W5 → y.ws = x.ws → SaidB w s x.ws y r (.returned (.tuple #[y.agg s c, .bool r])) W5) := Lib.hid (fun Wa W5 y r hA h5 hws => fin_said hk hA h5 hws)
  have HT := Lib.hid hT
  have HZ := Lib.hid hZ
  clear hk hEl hF hE hT hZ
  obtain ⟨mb, hmm⟩ : ∃ mb, (decide (1 ≤ v) && decide (v ≤ x.n)) = mb := ⟨_, rfl⟩
  rw [hmm]
  cases h1 : (decide (1 ≤ v)) with
  | false =>
    have hm : mb = false := by rw [← hmm]; simp only [h1, Bool.and_true, Bool.true_and, Bool.false_and, Bool.and_false, Bool.or_true, Bool.true_or, Bool.false_or, Bool.or_false, Bool.not_true, Bool.not_false]
    subst hm
    clear hmm
    rw [if_neg Bool.false_ne_true]
    have hTn : BoxT W2 w.heap.size x s c := HT.out
    have hZn : BoxT W2 (w.heap.size + 1) zeroTh none 0 := HZ.out.kept (Kept.one w.heap.size W2) (by omega)
    go_enter Try.func23, Try.ntmps23
    go_wp2_with (first | refine wpList_loadT (by rfl) (by rfl) (by rfl) (by assumption) ?_ | (refine wpList_storeT (by rfl) (by rfl) (by rfl) (by rfl) (by assumption) ?_; intro W5 hB5 hk5; obtain ⟨e0, e1, e2, e3, e4, e5, e6, e7, e8, e9, e10, e11, e12, e13, e14⟩ := hB5.cells))
    exact bodyPost_ret (v := .tuple #[Th.agg x s c, .bool false]) (by simp [results, Try.results23, go_sem, e0, e1, e2, e3, e4, e5, e6, e7, e8, e9, e10, e11, e12, e13, e14]) rfl (HFIN.out _ _ _ _ (Kept.one w.heap.size W2) hk5 rfl)
  | true =>
    cases h2 : (decide (v ≤ x.n)) with
    | false =>
      have hm : mb = false := by rw [← hmm]; simp only [h1, h2, Bool.and_true, Bool.true_and, Bool.false_and, Bool.and_false, Bool.or_true, Bool.true_or, Bool.false_or, Bool.or_false, Bool.not_true, Bool.not_false]
      subst hm
      clear hmm
      rw [if_neg Bool.false_ne_true]
      have hTn : BoxT W2 w.heap.size x s c := HT.out
      have hZn : BoxT W2 (w.heap.size + 1) zeroTh none 0 := HZ.out.kept (Kept.one w.heap.size W2) (by omega)
      go_enter Try.func23, Try.ntmps23
      go_wp2_with (first | refine wpList_loadT (by rfl) (by rfl) (by rfl) (by assumption) ?_ | (refine wpList_storeT (by rfl) (by rfl) (by rfl) (by rfl) (by assumption) ?_; intro W5 hB5 hk5; obtain ⟨e0, e1, e2, e3, e4, e5, e6, e7, e8, e9, e10, e11, e12, e13, e14⟩ := hB5.cells))
      exact bodyPost_ret (v := .tuple #[Th.agg x s c, .bool false]) (by simp [results, Try.results23, go_sem, e0, e1, e2, e3, e4, e5, e6, e7, e8, e9, e10, e11, e12, e13, e14]) rfl (HFIN.out _ _ _ _ (Kept.one w.heap.size W2) hk5 rfl)
    | true =>
      have hm : mb = true := by rw [← hmm]; simp only [h1, h2, Bool.and_true, Bool.true_and, Bool.false_and, Bool.and_false, Bool.or_true, Bool.true_or, Bool.false_or, Bool.or_false, Bool.not_true, Bool.not_false]
      subst hm
      clear hmm
      rw [if_pos rfl, show countM x 1 v = { x with n := x.n - v } from rfl]
      have qh1 := of_decide_eq_true h1
      have qh2 := of_decide_eq_true h2
      have qa : -3000000 ≤ x.n - v := by omega
      have qb : x.n - v ≤ 3000000 := by omega
      have hTn : BoxT (W2.setCell ⟨w.heap.size, 1, none⟩ (.int .i64 (x.n - v))) w.heap.size { x with n := x.n - v } s c := (HT.out.setN (x.n - v))
      have hZn : BoxT (W2.setCell ⟨w.heap.size, 1, none⟩ (.int .i64 (x.n - v))) (w.heap.size + 1) zeroTh none 0 := HZ.out.kept ((Kept.one w.heap.size W2).sB _ _) (by omega)
      go_enter Try.func23, Try.ntmps23
      go_wp2_with (first | refine wpList_loadT (by rfl) (by rfl) (by rfl) (by assumption) ?_ | (refine wpList_storeT (by rfl) (by rfl) (by rfl) (by rfl) (by assumption) ?_; intro W5 hB5 hk5; obtain ⟨e0, e1, e2, e3, e4, e5, e6, e7, e8, e9, e10, e11, e12, e13, e14⟩ := hB5.cells))
      exact bodyPost_ret (v := .tuple #[Th.agg { x with n := x.n - v } s c, .bool true]) (by simp [results, Try.results23, go_sem, e0, e1, e2, e3, e4, e5, e6, e7, e8, e9, e10, e11, e12, e13, e14]) rfl (HFIN.out _ _ _ _ ((Kept.one w.heap.size W2).sB _ _) hk5 rfl)

set_option maxHeartbeats 2000000 in
theorem rsema_3 (x : Th) (v : Int) (s : Option Addr) (c : Nat) (w : World) (hF : Fit x) (hE : InW w x s) :
    Calls Try.prog 23 #[x.agg s c, .int .i64 3, .int .i64 v] w (SaidB w s x.ws (if (decide (1 ≤ v) && !overM x.n v) = true then countM x 3 v else x) (decide (1 ≤ v) && !overM x.n v)) := by
  obtain ⟨W1, W2, hW1, hW2, s1, s2, hT, hZ, hk, hEl⟩ := ref_box x s c w hE
  obtain ⟨c0, c1, c2, c3, _, _, _, _, _, _, _, _, _, c13, c14⟩ := hT.cells
  have f1 := hT.free 1
  have f2 := hT.free 2
  have f3 := hT.free 3
  have f13 := hT.free 13
  have f14 := hT.free 14
  have b0 : -2000000 ≤ x.n := hF.n0
  have b1 : x.n ≤ 2000000 := hF.n1
  have b2 : -2000000 ≤ 1000 - x.n := by omega
  have b3 : 1000 - x.n ≤ 2001000 := by omega
  have HFIN : Hid (∀ Wa W5 (y : Th) r, Kept (fun k => k = w.heap.size) W2 Wa → Kept (fun k => k = w.heap.size + 1) Wa W5 → y.ws = x.ws → SaidB w s x.ws y r (.returned (.tuple #[y.agg s c, .bool r])) W5) := Lib.hid (fun Wa W5 y r hA h5 hws => fin_said hk hA h5 hws)
  have HT := Lib.hid hT
  have HZ := Lib.hid hZ
  clear hk hEl hF hE hT hZ
  obtain ⟨mb, hmm⟩ : ∃ mb, (decide (1 ≤ v) && !overM x.n v) = mb := ⟨_, rfl⟩
  rw [hmm]
  cases h1 : (decide (1 ≤ v)) with
  | false =>
    have hm : mb = false := by rw [← hmm]; simp only [h1, Bool.and_true, Bool.true_and, Bool.false_and, Bool.and_false, Bool.or_true, Bool.true_or, Bool.false_or, Bool.or_false, Bool.not_true, Bool.not_false]
    subst hm
    clear hmm
    rw [if_neg Bool.false_ne_true]
    have hTn : BoxT W2 w.heap.size x s c := HT.out
    have hZn : BoxT W2 (w.heap.size + 1) zeroTh none 0 := HZ.out.kept (Kept.one w.heap.size W2) (by omega)
    go_enter Try.func23, Try.ntmps23
    go_wp2_with (first | refine wpList_loadT (by rfl) (by rfl) (by rfl) (by assumption) ?_ | (refine wpList_storeT (by rfl) (by rfl) (by rfl) (by rfl) (by assumption) ?_; intro W5 hB5 hk5; obtain ⟨e0, e1, e2, e3, e4, e5, e6, e7, e8, e9, e10, e11, e12, e13, e14⟩ := hB5.cells))
    exact bodyPost_ret (v := .tuple #[Th.agg x s c, .bool false]) (by simp [results, Try.results23, go_sem, e0, e1, e2, e3, e4, e5, e6, e7, e8, e9, e10, e11, e12, e13, e14]) rfl (HFIN.out _ _ _ _ (Kept.one w.heap.size W2) hk5 rfl)
  | true =>
    cases h2 : (decide (v ≤ 1000 - x.n)) with
    | false =>
      have gh2 := over_of x.n v h2
      have hm : mb = false := by rw [← hmm]; simp only [gh2, h1, h2, Bool.and_true, Bool.true_and, Bool.false_and, Bool.and_false, Bool.or_true, Bool.true_or, Bool.false_or, Bool.or_false, Bool.not_true, Bool.not_false]
      subst hm
      clear hmm
      rw [if_neg Bool.false_ne_true]
      have hTn : BoxT W2 w.heap.size x s c := HT.out
      have hZn : BoxT W2 (w.heap.size + 1) zeroTh none 0 := HZ.out.kept (Kept.one w.heap.size W2) (by omega)
      go_enter Try.func23, Try.ntmps23
      go_wp2_with (first | refine wpList_loadT (by rfl) (by rfl) (by rfl) (by assumption) ?_ | (refine wpList_storeT (by rfl) (by rfl) (by rfl) (by rfl) (by assumption) ?_; intro W5 hB5 hk5; obtain ⟨e0, e1, e2, e3, e4, e5, e6, e7, e8, e9, e10, e11, e12, e13, e14⟩ := hB5.cells))
      exact bodyPost_ret (v := .tuple #[Th.agg x s c, .bool false]) (by simp [results, Try.results23, go_sem, e0, e1, e2, e3, e4, e5, e6, e7, e8, e9, e10, e11, e12, e13, e14]) rfl (HFIN.out _ _ _ _ (Kept.one w.heap.size W2) hk5 rfl)
    | true =>
      have gh2 := over_of x.n v h2
      have hm : mb = true := by rw [← hmm]; simp only [gh2, h1, h2, Bool.and_true, Bool.true_and, Bool.false_and, Bool.and_false, Bool.or_true, Bool.true_or, Bool.false_or, Bool.or_false, Bool.not_true, Bool.not_false]
      subst hm
      clear hmm
      rw [if_pos rfl, show countM x 3 v = { x with n := x.n + v } from rfl]
      have qh1 := of_decide_eq_true h1
      have qh2 := of_decide_eq_true h2
      have qa : -3000000 ≤ x.n + v := by omega
      have qb : x.n + v ≤ 3000000 := by omega
      have hTn : BoxT (W2.setCell ⟨w.heap.size, 1, none⟩ (.int .i64 (x.n + v))) w.heap.size { x with n := x.n + v } s c := (HT.out.setN (x.n + v))
      have hZn : BoxT (W2.setCell ⟨w.heap.size, 1, none⟩ (.int .i64 (x.n + v))) (w.heap.size + 1) zeroTh none 0 := HZ.out.kept ((Kept.one w.heap.size W2).sB _ _) (by omega)
      go_enter Try.func23, Try.ntmps23
      go_wp2_with (first | refine wpList_loadT (by rfl) (by rfl) (by rfl) (by assumption) ?_ | (refine wpList_storeT (by rfl) (by rfl) (by rfl) (by rfl) (by assumption) ?_; intro W5 hB5 hk5; obtain ⟨e0, e1, e2, e3, e4, e5, e6, e7, e8, e9, e10, e11, e12, e13, e14⟩ := hB5.cells))
      exact bodyPost_ret (v := .tuple #[Th.agg { x with n := x.n + v } s c, .bool true]) (by simp [results, Try.results23, go_sem, e0, e1, e2, e3, e4, e5, e6, e7, e8, e9, e10, e11, e12, e13, e14]) rfl (HFIN.out _ _ _ _ ((Kept.one w.heap.size W2).sB _ _) hk5 rfl)

set_option maxHeartbeats 2000000 in
theorem rsema_5 (x : Th) (v : Int) (s : Option Addr) (c : Nat) (w : World) (hF : Fit x) (hE : InW w x s) :
    Calls Try.prog 23 #[x.agg s c, .int .i64 5, .int .i64 v] w (SaidB w s x.ws (if (decide (x.n < v)) = true then countM x 5 v else x) (decide (x.n < v))) := by
  obtain ⟨W1, W2, hW1, hW2, s1, s2, hT, hZ, hk, hEl⟩ := ref_box x s c w hE
  obtain ⟨c0, c1, c2, c3, _, _, _, _, _, _, _, _, _, c13, c14⟩ := hT.cells
  have f1 := hT.free 1
  have f2 := hT.free 2
  have f3 := hT.free 3
  have f13 := hT.free 13
  have f14 := hT.free 14
  have b0 : -2000000 ≤ x.n := hF.n0
  have b1 : x.n ≤ 2000000 := hF.n1
  have b2 : -2000000 ≤ 1000 - x.n := by omega
  have b3 : 1000 - x.n ≤ 2001000 := by omega
  have HFIN : Hid (∀ Wa W5 (y : Th) r, Kept (fun k => k = w.heap.size) W2 Wa → Kept (fun k => k = w.heap.size + 1) Wa W5 → y.ws = x.ws → SaidB w s x.ws y r (.returned (.tuple #[y.agg s c, .bool r])) W5) := Lib.hid (fun Wa W5 y r hA h5 hws => fin_said hk hA h5 hws)
  have HT := Lib.hid hT
  have HZ := Lib.hid hZ
  clear hk hEl hF hE hT hZ
  obtain ⟨mb, hmm⟩ : ∃ mb, (decide (x.n < v)) = mb := ⟨_, rfl⟩
  rw [hmm]
  cases h1 : (decide (x.n < v)) with
  | false =>
    have hm : mb = false := by rw [← hmm]; simp only [h1, Bool.and_true, Bool.true_and, Bool.false_and, Bool.and_false, Bool.or_true, Bool.true_or, Bool.false_or, Bool.or_false, Bool.not_true, Bool.not_false]
    subst hm
    clear hmm
    rw [if_neg Bool.false_ne_true]
    have hTn : BoxT W2 w.heap.size x s c := HT.out
    have hZn : BoxT W2 (w.heap.size + 1) zeroTh none 0 := HZ.out.kept (Kept.one w.heap.size W2) (by omega)
    go_enter Try.func23, Try.ntmps23
    go_wp2_with (first | refine wpList_loadT (by rfl) (by rfl) (by rfl) (by assumption) ?_ | (refine wpList_storeT (by rfl) (by rfl) (by rfl) (by rfl) (by assumption) ?_; intro W5 hB5 hk5; obtain ⟨e0, e1, e2, e3, e4, e5, e6, e7, e8, e9, e10, e11, e12, e13, e14⟩ := hB5.cells))
    exact bodyPost_ret (v := .tuple #[Th.agg x s c, .bool false]) (by simp [results, Try.results23, go_sem, e0, e1, e2, e3, e4, e5, e6, e7, e8, e9, e10, e11, e12, e13, e14]) rfl (HFIN.out _ _ _ _ (Kept.one w.heap.size W2) hk5 rfl)
  | true =>
    have hm : mb = true := by rw [← hmm]; simp only [h1, Bool.and_true, Bool.true_and, Bool.false_and, Bool.and_false, Bool.or_true, Bool.true_or, Bool.false_or, Bool.or_false, Bool.not_true, Bool.not_false]
    subst hm
    clear hmm
    rw [if_pos rfl, show countM x 5 v = x from rfl]
    have qh1 := of_decide_eq_true h1
    have hTn : BoxT W2 w.heap.size x s c := HT.out
    have hZn : BoxT W2 (w.heap.size + 1) zeroTh none 0 := HZ.out.kept (Kept.one w.heap.size W2) (by omega)
    go_enter Try.func23, Try.ntmps23
    go_wp2_with (first | refine wpList_loadT (by rfl) (by rfl) (by rfl) (by assumption) ?_ | (refine wpList_storeT (by rfl) (by rfl) (by rfl) (by rfl) (by assumption) ?_; intro W5 hB5 hk5; obtain ⟨e0, e1, e2, e3, e4, e5, e6, e7, e8, e9, e10, e11, e12, e13, e14⟩ := hB5.cells))
    exact bodyPost_ret (v := .tuple #[Th.agg x s c, .bool true]) (by simp [results, Try.results23, go_sem, e0, e1, e2, e3, e4, e5, e6, e7, e8, e9, e10, e11, e12, e13, e14]) rfl (HFIN.out _ _ _ _ (Kept.one w.heap.size W2) hk5 rfl)

set_option maxHeartbeats 2000000 in
theorem rsema_7 (x : Th) (v : Int) (s : Option Addr) (c : Nat) (w : World) (hF : Fit x) (hE : InW w x s) :
    Calls Try.prog 23 #[x.agg s c, .int .i64 7, .int .i64 v] w (SaidB w s x.ws (if (decide (1 ≤ v) && overM x.n v) = true then countM x 7 v else x) (decide (1 ≤ v) && overM x.n v)) := by
  obtain ⟨W1, W2, hW1, hW2, s1, s2, hT, hZ, hk, hEl⟩ := ref_box x s c w hE
  obtain ⟨c0, c1, c2, c3, _, _, _, _, _, _, _, _, _, c13, c14⟩ := hT.cells
  have f1 := hT.free 1
  have f2 := hT.free 2
  have f3 := hT.free 3
  have f13 := hT.free 13
  have f14 := hT.free 14
  have b0 : -2000000 ≤ x.n := hF.n0
  have b1 : x.n ≤ 2000000 := hF.n1
  have b2 : -2000000 ≤ 1000 - x.n := by omega
  have b3 : 1000 - x.n ≤ 2001000 := by omega
  have HFIN : Hid (∀ Wa W5 (y : Th) r, Kept (fun k => k = w.heap.size) W2 Wa → Kept (fun k => k = w.heap.size + 1) Wa W5 → y.ws = x.ws → SaidB w s x.ws y r (.returned (.tuple #[y.agg s c, .bool r])) W5) := Lib.hid (fun Wa W5 y r hA h5 hws => fin_said hk hA h5 hws)
  have HT := Lib.hid hT
  have HZ := Lib.hid hZ
  clear hk hEl hF hE hT hZ
  obtain ⟨mb, hmm⟩ : ∃ mb, (decide (1 ≤ v) && overM x.n v) = mb := ⟨_, rfl⟩
  rw [hmm]
  cases h1 : (decide (1 ≤ v)) with
  | false =>
    have hm : mb = false := by rw [← hmm]; simp only [h1, Bool.and_true, Bool.true_and, Bool.false_and, Bool.and_false, Bool.or_true, Bool.true_or, Bool.false_or, Bool.or_false, Bool.not_true, Bool.not_false]
    subst hm
    clear hmm
    rw [if_neg Bool.false_ne_true]
    have hTn : BoxT W2 w.heap.size x s c := HT.out
    have hZn : BoxT W2 (w.heap.size + 1) zeroTh none 0 := HZ.out.kept (Kept.one w.heap.size W2) (by omega)
    go_enter Try.func23, Try.ntmps23
    go_wp2_with (first | refine wpList_loadT (by rfl) (by rfl) (by rfl) (by assumption) ?_ | (refine wpList_storeT (by rfl) (by rfl) (by rfl) (by rfl) (by assumption) ?_; intro W5 hB5 hk5; obtain ⟨e0, e1, e2, e3, e4, e5, e6, e7, e8, e9, e10, e11, e12, e13, e14⟩ := hB5.cells))
    exact bodyPost_ret (v := .tuple #[Th.agg x s c, .bool false]) (by simp [results, Try.results23, go_sem, e0, e1, e2, e3, e4, e5, e6, e7, e8, e9, e10, e11, e12, e13, e14]) rfl (HFIN.out _ _ _ _ (Kept.one w.heap.size W2) hk5 rfl)
  | true =>
    cases h2 : (decide (1000 - x.n < v)) with
    | false =>
      have gh2 := over_of2 x.n v h2
      have hm : mb = false := by rw [← hmm]; simp only [gh2, h1, h2, Bool.and_true, Bool.true_and, Bool.false_and, Bool.and_false, Bool.or_true, Bool.true_or, Bool.false_or, Bool.or_false, Bool.not_true, Bool.not_false]
      subst hm
      clear hmm
      rw [if_neg Bool.false_ne_true]
      have hTn : BoxT W2 w.heap.size x s c := HT.out
      have hZn : BoxT W2 (w.heap.size + 1) zeroTh none 0 := HZ.out.kept (Kept.one w.heap.size W2) (by omega)
      go_enter Try.func23, Try.ntmps23
      go_wp2_with (first | refine wpList_loadT (by rfl) (by rfl) (by rfl) (by assumption) ?_ | (refine wpList_storeT (by rfl) (by rfl) (by rfl) (by rfl) (by assumption) ?_; intro W5 hB5 hk5; obtain ⟨e0, e1, e2, e3, e4, e5, e6, e7, e8, e9, e10, e11, e12, e13, e14⟩ := hB5.cells))
      exact bodyPost_ret (v := .tuple #[Th.agg x s c, .bool false]) (by simp [results, Try.results23, go_sem, e0, e1, e2, e3, e4, e5, e6, e7, e8, e9, e10, e11, e12, e13, e14]) rfl (HFIN.out _ _ _ _ (Kept.one w.heap.size W2) hk5 rfl)
    | true =>
      have gh2 := over_of2 x.n v h2
      have hm : mb = true := by rw [← hmm]; simp only [gh2, h1, h2, Bool.and_true, Bool.true_and, Bool.false_and, Bool.and_false, Bool.or_true, Bool.true_or, Bool.false_or, Bool.or_false, Bool.not_true, Bool.not_false]
      subst hm
      clear hmm
      rw [if_pos rfl, show countM x 7 v = x from rfl]
      have qh1 := of_decide_eq_true h1
      have qh2 := of_decide_eq_true h2
      have hTn : BoxT W2 w.heap.size x s c := HT.out
      have hZn : BoxT W2 (w.heap.size + 1) zeroTh none 0 := HZ.out.kept (Kept.one w.heap.size W2) (by omega)
      go_enter Try.func23, Try.ntmps23
      go_wp2_with (first | refine wpList_loadT (by rfl) (by rfl) (by rfl) (by assumption) ?_ | (refine wpList_storeT (by rfl) (by rfl) (by rfl) (by rfl) (by assumption) ?_; intro W5 hB5 hk5; obtain ⟨e0, e1, e2, e3, e4, e5, e6, e7, e8, e9, e10, e11, e12, e13, e14⟩ := hB5.cells))
      exact bodyPost_ret (v := .tuple #[Th.agg x s c, .bool true]) (by simp [results, Try.results23, go_sem, e0, e1, e2, e3, e4, e5, e6, e7, e8, e9, e10, e11, e12, e13, e14]) rfl (HFIN.out _ _ _ _ (Kept.one w.heap.size W2) hk5 rfl)

set_option maxHeartbeats 2000000 in
theorem rswap_15 (x : Th) (t v : Int) (s : Option Addr) (c : Nat) (w : World) (hF : Fit x) (hE : InW w x s) :
    Calls Try.prog 25 #[x.agg s c, .int .i64 t, .int .i64 15, .int .i64 v] w (SaidB w s x.ws (if (x.offer == -1 && decide (0 ≤ v) && decide (v ≤ 1000)) = true then swapM x t 15 v else x) (x.offer == -1 && decide (0 ≤ v) && decide (v ≤ 1000))) := by
  obtain ⟨W1, W2, hW1, hW2, s1, s2, hT, hZ, hk, hEl⟩ := ref_box x s c w hE
  obtain ⟨c0, c1, c2, c3, _, _, _, _, _, _, _, _, _, c13, c14⟩ := hT.cells
  have f1 := hT.free 1
  have f2 := hT.free 2
  have f3 := hT.free 3
  have f13 := hT.free 13
  have f14 := hT.free 14
  have HFIN : Hid (∀ Wa W5 (y : Th) r, Kept (fun k => k = w.heap.size) W2 Wa → Kept (fun k => k = w.heap.size + 1) Wa W5 → y.ws = x.ws → SaidB w s x.ws y r (.returned (.tuple #[y.agg s c, .bool r])) W5) := Lib.hid (fun Wa W5 y r hA h5 hws => fin_said hk hA h5 hws)
  have HT := Lib.hid hT
  have HZ := Lib.hid hZ
  clear hk hEl hF hE hT hZ
  obtain ⟨mb, hmm⟩ : ∃ mb, (x.offer == -1 && decide (0 ≤ v) && decide (v ≤ 1000)) = mb := ⟨_, rfl⟩
  rw [hmm]
  cases h1 : (x.offer == -1) with
  | false =>
    have hm : mb = false := by rw [← hmm]; simp only [h1, Bool.and_true, Bool.true_and, Bool.false_and, Bool.and_false, Bool.or_true, Bool.true_or, Bool.false_or, Bool.or_false, Bool.not_true, Bool.not_false]
    subst hm
    clear hmm
    rw [if_neg Bool.false_ne_true]
    have hTn : BoxT W2 w.heap.size x s c := HT.out
    have hZn : BoxT W2 (w.heap.size + 1) zeroTh none 0 := HZ.out.kept (Kept.one w.heap.size W2) (by omega)
    go_enter Try.func25, Try.ntmps25
    go_wp2_with (first | refine wpList_loadT (by rfl) (by rfl) (by rfl) (by assumption) ?_ | (refine wpList_storeT (by rfl) (by rfl) (by rfl) (by rfl) (by assumption) ?_; intro W5 hB5 hk5; obtain ⟨e0, e1, e2, e3, e4, e5, e6, e7, e8, e9, e10, e11, e12, e13, e14⟩ := hB5.cells))
    exact bodyPost_ret (v := .tuple #[Th.agg x s c, .bool false]) (by simp [results, Try.results25, go_sem, e0, e1, e2, e3, e4, e5, e6, e7, e8, e9, e10, e11, e12, e13, e14]) rfl (HFIN.out _ _ _ _ (Kept.one w.heap.size W2) hk5 rfl)
  | true =>
    cases h2 : (decide (0 ≤ v)) with
    | false =>
      have hm : mb = false := by rw [← hmm]; simp only [h1, h2, Bool.and_true, Bool.true_and, Bool.false_and, Bool.and_false, Bool.or_true, Bool.true_or, Bool.false_or, Bool.or_false, Bool.not_true, Bool.not_false]
      subst hm
      clear hmm
      rw [if_neg Bool.false_ne_true]
      have hTn : BoxT W2 w.heap.size x s c := HT.out
      have hZn : BoxT W2 (w.heap.size + 1) zeroTh none 0 := HZ.out.kept (Kept.one w.heap.size W2) (by omega)
      go_enter Try.func25, Try.ntmps25
      go_wp2_with (first | refine wpList_loadT (by rfl) (by rfl) (by rfl) (by assumption) ?_ | (refine wpList_storeT (by rfl) (by rfl) (by rfl) (by rfl) (by assumption) ?_; intro W5 hB5 hk5; obtain ⟨e0, e1, e2, e3, e4, e5, e6, e7, e8, e9, e10, e11, e12, e13, e14⟩ := hB5.cells))
      exact bodyPost_ret (v := .tuple #[Th.agg x s c, .bool false]) (by simp [results, Try.results25, go_sem, e0, e1, e2, e3, e4, e5, e6, e7, e8, e9, e10, e11, e12, e13, e14]) rfl (HFIN.out _ _ _ _ (Kept.one w.heap.size W2) hk5 rfl)
    | true =>
      cases h3 : (decide (v ≤ 1000)) with
      | false =>
        have hm : mb = false := by rw [← hmm]; simp only [h1, h2, h3, Bool.and_true, Bool.true_and, Bool.false_and, Bool.and_false, Bool.or_true, Bool.true_or, Bool.false_or, Bool.or_false, Bool.not_true, Bool.not_false]
        subst hm
        clear hmm
        rw [if_neg Bool.false_ne_true]
        have hTn : BoxT W2 w.heap.size x s c := HT.out
        have hZn : BoxT W2 (w.heap.size + 1) zeroTh none 0 := HZ.out.kept (Kept.one w.heap.size W2) (by omega)
        go_enter Try.func25, Try.ntmps25
        go_wp2_with (first | refine wpList_loadT (by rfl) (by rfl) (by rfl) (by assumption) ?_ | (refine wpList_storeT (by rfl) (by rfl) (by rfl) (by rfl) (by assumption) ?_; intro W5 hB5 hk5; obtain ⟨e0, e1, e2, e3, e4, e5, e6, e7, e8, e9, e10, e11, e12, e13, e14⟩ := hB5.cells))
        exact bodyPost_ret (v := .tuple #[Th.agg x s c, .bool false]) (by simp [results, Try.results25, go_sem, e0, e1, e2, e3, e4, e5, e6, e7, e8, e9, e10, e11, e12, e13, e14]) rfl (HFIN.out _ _ _ _ (Kept.one w.heap.size W2) hk5 rfl)
      | true =>
        have hm : mb = true := by rw [← hmm]; simp only [h1, h2, h3, Bool.and_true, Bool.true_and, Bool.false_and, Bool.and_false, Bool.or_true, Bool.true_or, Bool.false_or, Bool.or_false, Bool.not_true, Bool.not_false]
        subst hm
        clear hmm
        rw [if_pos rfl, show swapM x t 15 v = { x with offer := t, item := v } from rfl]
        have qh2 := of_decide_eq_true h2
        have qh3 := of_decide_eq_true h3
        have hTn : BoxT ((W2.setCell ⟨w.heap.size, 13, none⟩ (.int .i64 (t))).setCell ⟨w.heap.size, 14, none⟩ (.int .i64 (v))) w.heap.size { x with offer := t, item := v } s c := ((HT.out.setOffer (t)).setItem (v))
        have hZn : BoxT ((W2.setCell ⟨w.heap.size, 13, none⟩ (.int .i64 (t))).setCell ⟨w.heap.size, 14, none⟩ (.int .i64 (v))) (w.heap.size + 1) zeroTh none 0 := HZ.out.kept (((Kept.one w.heap.size W2).sB _ _).sB _ _) (by omega)
        go_enter Try.func25, Try.ntmps25
        go_wp2_with (first | refine wpList_loadT (by rfl) (by rfl) (by rfl) (by assumption) ?_ | (refine wpList_storeT (by rfl) (by rfl) (by rfl) (by rfl) (by assumption) ?_; intro W5 hB5 hk5; obtain ⟨e0, e1, e2, e3, e4, e5, e6, e7, e8, e9, e10, e11, e12, e13, e14⟩ := hB5.cells))
        exact bodyPost_ret (v := .tuple #[Th.agg { x with offer := t, item := v } s c, .bool true]) (by simp [results, Try.results25, go_sem, e0, e1, e2, e3, e4, e5, e6, e7, e8, e9, e10, e11, e12, e13, e14]) rfl (HFIN.out _ _ _ _ (((Kept.one w.heap.size W2).sB _ _).sB _ _) hk5 rfl)

end Go.Proofs.Ythjblniabnjfhaa
