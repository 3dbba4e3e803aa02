/-
  The document's answer of layer 10: sema and swap, whole.
  Conditions: no count is beyond two millions; the waiters lie in memory.
-/
import Derived.Test.YthjblniabnjfhaaModRefA
namespace Go.Proofs.Ythjblniabnjfhaa
open Go.RowKit
set_option linter.unusedSimpArgs false
set_option linter.unusedVariables false

set_option maxHeartbeats 2000000 in
set_option maxRecDepth 100000 in
theorem rsema_9 (x : Th) (v : Int) (s : Option Addr) (c : Nat) (w : World) (hF : Fit x) (hE : InW w x s) :
    Calls Try.prog 23 #[x.agg s c, .int .i64 9, .int .i64 v] w (SaidB w s x.ws (if (v == x.n) = true then countM x 9 v else x) (v == x.n)) := by
  obtain ⟨W1, W2, hW1, hW2, s1, s2, hT, hZ, hk, hEl⟩ := ref_box x s c w hE
  obtain ⟨c0, c1, c2, c3, _, _, _, _, _, _, _, _, _, c13, c14⟩ := hT.cells
  have f1 := hT.free 1
  have f2 := hT.free 2
  have f3 := hT.free 3
  have f13 := hT.free 13
  have f14 := hT.free 14
  have b0 : -2000000 ≤ x.n := hF.n0
  have b1 : x.n ≤ 2000000 := hF.n1
  have HFIN : Hid (∀ Wa W5 (y : Th) r, Kept (fun k => k = w.heap.size) W2 Wa → Kept (fun k => k = w.heap.size + 1) Wa W5 → y.ws = x.ws → SaidB w s x.ws y r (.returned (.tuple #[y.agg s c, .bool r])) W5) := Lib.hid (fun Wa W5 y r hA h5 hws => fin_said hk hA h5 hws)
  have HT := Lib.hid hT
  have HZ := Lib.hid hZ
  clear hk hEl hF hE hT hZ
  obtain ⟨mb, hmm⟩ : ∃ mb, (v == x.n) = mb := ⟨_, rfl⟩
  rw [hmm]
  cases h1 : (v == x.n) with
  | false =>
    have hm : mb = false := by rw [← hmm]; simp only [h1, Bool.and_true, Bool.true_and, Bool.false_and, Bool.and_false, Bool.or_true, Bool.true_or, Bool.false_or, Bool.or_false, Bool.not_true, Bool.not_false]
    subst hm
    clear hmm
    rw [if_neg Bool.false_ne_true]
    have hTn : BoxT W2 w.heap.size x s c := HT.out
    have hZn : BoxT W2 (w.heap.size + 1) zeroTh none 0 := HZ.out.kept (Kept.one w.heap.size W2) (by omega)
    go_enter Try.func23, Try.ntmps23
    go_wp2_with (first | refine wpList_loadT (by rfl) (by rfl) (by rfl) (by assumption) ?_ | (refine wpList_storeT (by rfl) (by rfl) (by rfl) (by rfl) (by assumption) ?_; intro W5 hB5 hk5; obtain ⟨e0, e1, e2, e3, e4, e5, e6, e7, e8, e9, e10, e11, e12, e13, e14⟩ := hB5.cells))
    exact bodyPost_ret (v := .tuple #[Th.agg x s c, .bool false]) (by simp [results, Try.results23, go_sem, e0, e1, e2, e3, e4, e5, e6, e7, e8, e9, e10, e11, e12, e13, e14]) rfl (HFIN.out _ _ _ _ (Kept.one w.heap.size W2) hk5 rfl)
  | true =>
    have hm : mb = true := by rw [← hmm]; simp only [h1, Bool.and_true, Bool.true_and, Bool.false_and, Bool.and_false, Bool.or_true, Bool.true_or, Bool.false_or, Bool.or_false, Bool.not_true, Bool.not_false]
    subst hm
    clear hmm
    rw [if_pos rfl, show countM x 9 v = { x with n := 0 } from (by have e := beq_iff_eq.1 h1; unfold countM; rw [if_pos (.inr (.inr rfl)), e, Int.sub_self])]
    have hTn : BoxT (W2.setCell ⟨w.heap.size, 1, none⟩ (.int .i64 (0))) w.heap.size { x with n := 0 } s c := (HT.out.setN (0))
    have hZn : BoxT (W2.setCell ⟨w.heap.size, 1, none⟩ (.int .i64 (0))) (w.heap.size + 1) zeroTh none 0 := HZ.out.kept ((Kept.one w.heap.size W2).sB _ _) (by omega)
    go_enter Try.func23, Try.ntmps23
    go_wp2_with (first | refine wpList_loadT (by rfl) (by rfl) (by rfl) (by assumption) ?_ | (refine wpList_storeT (by rfl) (by rfl) (by rfl) (by rfl) (by assumption) ?_; intro W5 hB5 hk5; obtain ⟨e0, e1, e2, e3, e4, e5, e6, e7, e8, e9, e10, e11, e12, e13, e14⟩ := hB5.cells))
    exact bodyPost_ret (v := .tuple #[Th.agg { x with n := 0 } s c, .bool true]) (by simp [results, Try.results23, go_sem, e0, e1, e2, e3, e4, e5, e6, e7, e8, e9, e10, e11, e12, e13, e14]) rfl (HFIN.out _ _ _ _ ((Kept.one w.heap.size W2).sB _ _) hk5 rfl)

set_option maxHeartbeats 4000000 in
set_option maxRecDepth 100000 in
theorem rsema_no (x : Th) (k v : Int) (s : Option Addr) (c : Nat) (w : World) (hF : Fit x) (hE : InW w x s) (hk0 : k ≠ 1 ∧ k ≠ 3 ∧ k ≠ 7 ∧ k ≠ 5 ∧ k ≠ 9) :
    Calls Try.prog 23 #[x.agg s c, .int .i64 k, .int .i64 v] w (SaidB w s x.ws x false) := by
  have b0 : -2000000 ≤ x.n := hF.n0
  have b1 : x.n ≤ 2000000 := hF.n1
  obtain ⟨W1, W2, hW1, hW2, s1, s2, hT, hZ, hk, hEl⟩ := ref_box x s c w hE
  obtain ⟨c0, c1, c2, c3, c4, c5, c6, c7, c8, c9, c10, c11, c12, c13, c14⟩ := hT.cells
  have HFIN : Hid (∀ Wa W5 (y : Th) r, Kept (fun k => k = w.heap.size) W2 Wa → Kept (fun k => k = w.heap.size + 1) Wa W5 → y.ws = x.ws → SaidB w s x.ws y r (.returned (.tuple #[y.agg s c, .bool r])) W5) := Lib.hid (fun Wa W5 y r hA h5 hws => fin_said hk hA h5 hws)
  have HT := Lib.hid hT
  have HZ := Lib.hid hZ
  obtain ⟨n1, n3, n7, n5, n9⟩ := hk0
  clear hk hEl hF hE hT hZ
  have hTn := HT.out
  have hZn := HZ.out
  go_enter Try.func23, Try.ntmps23
  go_wp2_with (first | refine wpList_loadT (by rfl) (by rfl) (by rfl) (by assumption) ?_ | (refine wpList_storeT (by rfl) (by rfl) (by rfl) (by rfl) (by assumption) ?_; intro W5 hB5 hk5; obtain ⟨e0, e1, e2, e3, e4, e5, e6, e7, e8, e9, e10, e11, e12, e13, e14⟩ := hB5.cells))
  exact bodyPost_ret (v := .tuple #[Th.agg x s c, .bool false]) (by simp [results, Try.results23, go_sem, e0, e1, e2, e3, e4, e5, e6, e7, e8, e9, e10, e11, e12, e13, e14]) rfl (HFIN.out _ _ _ _ (Kept.one w.heap.size W2) hk5 rfl)

theorem rsema_any (x : Th) (k v : Int) (s : Option Addr) (c : Nat) (w : World) (hF : Fit x) (hE : InW w x s) :
    Calls Try.prog 23 #[x.agg s c, .int .i64 k, .int .i64 v] w (SaidB w s x.ws (if (semaMayM x.n k v) = true then countM x k v else x) (semaMayM x.n k v)) := by
  have hc : k = 1 ∨ k = 3 ∨ k = 7 ∨ k = 5 ∨ k = 9 ∨ (k ≠ 1 ∧ k ≠ 3 ∧ k ≠ 7 ∧ k ≠ 5 ∧ k ≠ 9) := by omega
  rcases hc with rfl | rfl | rfl | rfl | rfl | hk0
  · exact rsema_1 x v s c w hF hE
  · exact rsema_3 x v s c w hF hE
  · exact rsema_7 x v s c w hF hE
  · exact rsema_5 x v s c w hF hE
  · exact rsema_9 x v s c w hF hE
  · have e : semaMayM x.n k v = false := by obtain ⟨n1, n3, n7, n5, n9⟩ := hk0; simp only [semaMayM, if_neg n1, if_neg n3, if_neg n7, if_neg n5, if_neg n9]
    rw [e, if_neg Bool.false_ne_true]
    exact rsema_no x k v s c w hF hE hk0

set_option maxHeartbeats 2000000 in
set_option maxRecDepth 100000 in
theorem rswap_14 (x : Th) (t v : Int) (s : Option Addr) (c : Nat) (w : World) (hF : Fit x) (hE : InW w x s) :
    Calls Try.prog 25 #[x.agg s c, .int .i64 t, .int .i64 14, .int .i64 v] w (SaidB w s x.ws (if (x.offer == v && x.offer != -1 && x.offer != t) = true then swapM x t 14 v else x) (x.offer == v && x.offer != -1 && x.offer != t)) := by
  obtain ⟨W1, W2, hW1, hW2, s1, s2, hT, hZ, hk, hEl⟩ := ref_box x s c w hE
  obtain ⟨c0, c1, c2, c3, _, _, _, _, _, _, _, _, _, c13, c14⟩ := hT.cells
  have f1 := hT.free 1
  have f2 := hT.free 2
  have f3 := hT.free 3
  have f13 := hT.free 13
  have f14 := hT.free 14
  have HFIN : Hid (∀ Wa W5 (y : Th) r, Kept (fun k => k = w.heap.size) W2 Wa → Kept (fun k => k = w.heap.size + 1) Wa W5 → y.ws = x.ws → SaidB w s x.ws y r (.returned (.tuple #[y.agg s c, .bool r])) W5) := Lib.hid (fun Wa W5 y r hA h5 hws => fin_said hk hA h5 hws)
  have HT := Lib.hid hT
  have HZ := Lib.hid hZ
  clear hk hEl hF hE hT hZ
  obtain ⟨mb, hmm⟩ : ∃ mb, (x.offer == v && x.offer != -1 && x.offer != t) = mb := ⟨_, rfl⟩
  rw [hmm]
  cases h1 : (x.offer != -1) with
  | false =>
    have hm : mb = false := by rw [← hmm]; simp only [h1, Bool.and_true, Bool.true_and, Bool.false_and, Bool.and_false, Bool.or_true, Bool.true_or, Bool.false_or, Bool.or_false, Bool.not_true, Bool.not_false]
    subst hm
    clear hmm
    rw [if_neg Bool.false_ne_true]
    have hTn : BoxT W2 w.heap.size x s c := HT.out
    have hZn : BoxT W2 (w.heap.size + 1) zeroTh none 0 := HZ.out.kept (Kept.one w.heap.size W2) (by omega)
    go_enter Try.func25, Try.ntmps25
    go_wp2_with (first | refine wpList_loadT (by rfl) (by rfl) (by rfl) (by assumption) ?_ | (refine wpList_storeT (by rfl) (by rfl) (by rfl) (by rfl) (by assumption) ?_; intro W5 hB5 hk5; obtain ⟨e0, e1, e2, e3, e4, e5, e6, e7, e8, e9, e10, e11, e12, e13, e14⟩ := hB5.cells))
    exact bodyPost_ret (v := .tuple #[Th.agg x s c, .bool false]) (by simp [results, Try.results25, go_sem, e0, e1, e2, e3, e4, e5, e6, e7, e8, e9, e10, e11, e12, e13, e14]) rfl (HFIN.out _ _ _ _ (Kept.one w.heap.size W2) hk5 rfl)
  | true =>
    cases h2 : (x.offer != t) with
    | false =>
      have hm : mb = false := by rw [← hmm]; simp only [h1, h2, Bool.and_true, Bool.true_and, Bool.false_and, Bool.and_false, Bool.or_true, Bool.true_or, Bool.false_or, Bool.or_false, Bool.not_true, Bool.not_false]
      subst hm
      clear hmm
      rw [if_neg Bool.false_ne_true]
      have hTn : BoxT W2 w.heap.size x s c := HT.out
      have hZn : BoxT W2 (w.heap.size + 1) zeroTh none 0 := HZ.out.kept (Kept.one w.heap.size W2) (by omega)
      go_enter Try.func25, Try.ntmps25
      go_wp2_with (first | refine wpList_loadT (by rfl) (by rfl) (by rfl) (by assumption) ?_ | (refine wpList_storeT (by rfl) (by rfl) (by rfl) (by rfl) (by assumption) ?_; intro W5 hB5 hk5; obtain ⟨e0, e1, e2, e3, e4, e5, e6, e7, e8, e9, e10, e11, e12, e13, e14⟩ := hB5.cells))
      exact bodyPost_ret (v := .tuple #[Th.agg x s c, .bool false]) (by simp [results, Try.results25, go_sem, e0, e1, e2, e3, e4, e5, e6, e7, e8, e9, e10, e11, e12, e13, e14]) rfl (HFIN.out _ _ _ _ (Kept.one w.heap.size W2) hk5 rfl)
    | true =>
      cases h3 : (v == x.offer) with
      | false =>
        have gh3 := (beq_swap x.offer v).trans h3
        have hm : mb = false := by rw [← hmm]; simp only [gh3, h1, h2, h3, Bool.and_true, Bool.true_and, Bool.false_and, Bool.and_false, Bool.or_true, Bool.true_or, Bool.false_or, Bool.or_false, Bool.not_true, Bool.not_false]
        subst hm
        clear hmm
        rw [if_neg Bool.false_ne_true]
        have hTn : BoxT W2 w.heap.size x s c := HT.out
        have hZn : BoxT W2 (w.heap.size + 1) zeroTh none 0 := HZ.out.kept (Kept.one w.heap.size W2) (by omega)
        go_enter Try.func25, Try.ntmps25
        go_wp2_with (first | refine wpList_loadT (by rfl) (by rfl) (by rfl) (by assumption) ?_ | (refine wpList_storeT (by rfl) (by rfl) (by rfl) (by rfl) (by assumption) ?_; intro W5 hB5 hk5; obtain ⟨e0, e1, e2, e3, e4, e5, e6, e7, e8, e9, e10, e11, e12, e13, e14⟩ := hB5.cells))
        exact bodyPost_ret (v := .tuple #[Th.agg x s c, .bool false]) (by simp [results, Try.results25, go_sem, e0, e1, e2, e3, e4, e5, e6, e7, e8, e9, e10, e11, e12, e13, e14]) rfl (HFIN.out _ _ _ _ (Kept.one w.heap.size W2) hk5 rfl)
      | true =>
        have gh3 := (beq_swap x.offer v).trans h3
        have hm : mb = true := by rw [← hmm]; simp only [gh3, h1, h2, h3, Bool.and_true, Bool.true_and, Bool.false_and, Bool.and_false, Bool.or_true, Bool.true_or, Bool.false_or, Bool.or_false, Bool.not_true, Bool.not_false]
        subst hm
        clear hmm
        rw [if_pos rfl, show swapM x t 14 v = { x with offer := -1, item := 0 } from rfl]
        have qa : -3000000 ≤ -1 := by omega
        have qb : -1 ≤ 3000000 := by omega
        have hTn : BoxT ((W2.setCell ⟨w.heap.size, 13, none⟩ (.int .i64 (-1))).setCell ⟨w.heap.size, 14, none⟩ (.int .i64 (0))) w.heap.size { x with offer := -1, item := 0 } s c := ((HT.out.setOffer (-1)).setItem (0))
        have hZn : BoxT ((W2.setCell ⟨w.heap.size, 13, none⟩ (.int .i64 (-1))).setCell ⟨w.heap.size, 14, none⟩ (.int .i64 (0))) (w.heap.size + 1) zeroTh none 0 := HZ.out.kept (((Kept.one w.heap.size W2).sB _ _).sB _ _) (by omega)
        go_enter Try.func25, Try.ntmps25
        go_wp2_with (first | refine wpList_loadT (by rfl) (by rfl) (by rfl) (by assumption) ?_ | (refine wpList_storeT (by rfl) (by rfl) (by rfl) (by rfl) (by assumption) ?_; intro W5 hB5 hk5; obtain ⟨e0, e1, e2, e3, e4, e5, e6, e7, e8, e9, e10, e11, e12, e13, e14⟩ := hB5.cells))
        exact bodyPost_ret (v := .tuple #[Th.agg { x with offer := -1, item := 0 } s c, .bool true]) (by simp [results, Try.results25, go_sem, e0, e1, e2, e3, e4, e5, e6, e7, e8, e9, e10, e11, e12, e13, e14]) rfl (HFIN.out _ _ _ _ (((Kept.one w.heap.size W2).sB _ _).sB _ _) hk5 rfl)

set_option maxHeartbeats 2000000 in
set_option maxRecDepth 100000 in
theorem rswap_16 (x : Th) (t v : Int) (s : Option Addr) (c : Nat) (w : World) (hF : Fit x) (hE : InW w x s) :
    Calls Try.prog 25 #[x.agg s c, .int .i64 t, .int .i64 16, .int .i64 v] w (SaidB w s x.ws (if (v == 0 && x.offer == t) = true then swapM x t 16 v else x) (v == 0 && x.offer == t)) := by
  obtain ⟨W1, W2, hW1, hW2, s1, s2, hT, hZ, hk, hEl⟩ := ref_box x s c w hE
  obtain ⟨c0, c1, c2, c3, _, _, _, _, _, _, _, _, _, c13, c14⟩ := hT.cells
  have f1 := hT.free 1
  have f2 := hT.free 2
  have f3 := hT.free 3
  have f13 := hT.free 13
  have f14 := hT.free 14
  have HFIN : Hid (∀ Wa W5 (y : Th) r, Kept (fun k => k = w.heap.size) W2 Wa → Kept (fun k => k = w.heap.size + 1) Wa W5 → y.ws = x.ws → SaidB w s x.ws y r (.returned (.tuple #[y.agg s c, .bool r])) W5) := Lib.hid (fun Wa W5 y r hA h5 hws => fin_said hk hA h5 hws)
  have HT := Lib.hid hT
  have HZ := Lib.hid hZ
  clear hk hEl hF hE hT hZ
  obtain ⟨mb, hmm⟩ : ∃ mb, (v == 0 && x.offer == t) = mb := ⟨_, rfl⟩
  rw [hmm]
  cases h1 : (x.offer == t) with
  | false =>
    have hm : mb = false := by rw [← hmm]; simp only [h1, Bool.and_true, Bool.true_and, Bool.false_and, Bool.and_false, Bool.or_true, Bool.true_or, Bool.false_or, Bool.or_false, Bool.not_true, Bool.not_false]
    subst hm
    clear hmm
    rw [if_neg Bool.false_ne_true]
    have hTn : BoxT W2 w.heap.size x s c := HT.out
    have hZn : BoxT W2 (w.heap.size + 1) zeroTh none 0 := HZ.out.kept (Kept.one w.heap.size W2) (by omega)
    go_enter Try.func25, Try.ntmps25
    go_wp2_with (first | refine wpList_loadT (by rfl) (by rfl) (by rfl) (by assumption) ?_ | (refine wpList_storeT (by rfl) (by rfl) (by rfl) (by rfl) (by assumption) ?_; intro W5 hB5 hk5; obtain ⟨e0, e1, e2, e3, e4, e5, e6, e7, e8, e9, e10, e11, e12, e13, e14⟩ := hB5.cells))
    exact bodyPost_ret (v := .tuple #[Th.agg x s c, .bool false]) (by simp [results, Try.results25, go_sem, e0, e1, e2, e3, e4, e5, e6, e7, e8, e9, e10, e11, e12, e13, e14]) rfl (HFIN.out _ _ _ _ (Kept.one w.heap.size W2) hk5 rfl)
  | true =>
    cases h2 : (v == 0) with
    | false =>
      have hm : mb = false := by rw [← hmm]; simp only [h1, h2, Bool.and_true, Bool.true_and, Bool.false_and, Bool.and_false, Bool.or_true, Bool.true_or, Bool.false_or, Bool.or_false, Bool.not_true, Bool.not_false]
      subst hm
      clear hmm
      rw [if_neg Bool.false_ne_true]
      have hTn : BoxT W2 w.heap.size x s c := HT.out
      have hZn : BoxT W2 (w.heap.size + 1) zeroTh none 0 := HZ.out.kept (Kept.one w.heap.size W2) (by omega)
      go_enter Try.func25, Try.ntmps25
      go_wp2_with (first | refine wpList_loadT (by rfl) (by rfl) (by rfl) (by assumption) ?_ | (refine wpList_storeT (by rfl) (by rfl) (by rfl) (by rfl) (by assumption) ?_; intro W5 hB5 hk5; obtain ⟨e0, e1, e2, e3, e4, e5, e6, e7, e8, e9, e10, e11, e12, e13, e14⟩ := hB5.cells))
      exact bodyPost_ret (v := .tuple #[Th.agg x s c, .bool false]) (by simp [results, Try.results25, go_sem, e0, e1, e2, e3, e4, e5, e6, e7, e8, e9, e10, e11, e12, e13, e14]) rfl (HFIN.out _ _ _ _ (Kept.one w.heap.size W2) hk5 rfl)
    | true =>
      have hm : mb = true := by rw [← hmm]; simp only [h1, h2, Bool.and_true, Bool.true_and, Bool.false_and, Bool.and_false, Bool.or_true, Bool.true_or, Bool.false_or, Bool.or_false, Bool.not_true, Bool.not_false]
      subst hm
      clear hmm
      rw [if_pos rfl, show swapM x t 16 v = { x with offer := -1, item := 0 } from rfl]
      have qa : -3000000 ≤ -1 := by omega
      have qb : -1 ≤ 3000000 := by omega
      have hTn : BoxT ((W2.setCell ⟨w.heap.size, 13, none⟩ (.int .i64 (-1))).setCell ⟨w.heap.size, 14, none⟩ (.int .i64 (0))) w.heap.size { x with offer := -1, item := 0 } s c := ((HT.out.setOffer (-1)).setItem (0))
      have hZn : BoxT ((W2.setCell ⟨w.heap.size, 13, none⟩ (.int .i64 (-1))).setCell ⟨w.heap.size, 14, none⟩ (.int .i64 (0))) (w.heap.size + 1) zeroTh none 0 := HZ.out.kept (((Kept.one w.heap.size W2).sB _ _).sB _ _) (by omega)
      go_enter Try.func25, Try.ntmps25
      go_wp2_with (first | refine wpList_loadT (by rfl) (by rfl) (by rfl) (by assumption) ?_ | (refine wpList_storeT (by rfl) (by rfl) (by rfl) (by rfl) (by assumption) ?_; intro W5 hB5 hk5; obtain ⟨e0, e1, e2, e3, e4, e5, e6, e7, e8, e9, e10, e11, e12, e13, e14⟩ := hB5.cells))
      exact bodyPost_ret (v := .tuple #[Th.agg { x with offer := -1, item := 0 } s c, .bool true]) (by simp [results, Try.results25, go_sem, e0, e1, e2, e3, e4, e5, e6, e7, e8, e9, e10, e11, e12, e13, e14]) rfl (HFIN.out _ _ _ _ (((Kept.one w.heap.size W2).sB _ _).sB _ _) hk5 rfl)

set_option maxHeartbeats 4000000 in
set_option maxRecDepth 100000 in
theorem rswap_no (x : Th) (t k v : Int) (s : Option Addr) (c : Nat) (w : World) (hF : Fit x) (hE : InW w x s) (hk0 : k ≠ 15 ∧ k ≠ 14 ∧ k ≠ 16) :
    Calls Try.prog 25 #[x.agg s c, .int .i64 t, .int .i64 k, .int .i64 v] w (SaidB w s x.ws x false) := by
  obtain ⟨W1, W2, hW1, hW2, s1, s2, hT, hZ, hk, hEl⟩ := ref_box x s c w hE
  obtain ⟨c0, c1, c2, c3, c4, c5, c6, c7, c8, c9, c10, c11, c12, c13, c14⟩ := hT.cells
  have HFIN : Hid (∀ Wa W5 (y : Th) r, Kept (fun k => k = w.heap.size) W2 Wa → Kept (fun k => k = w.heap.size + 1) Wa W5 → y.ws = x.ws → SaidB w s x.ws y r (.returned (.tuple #[y.agg s c, .bool r])) W5) := Lib.hid (fun Wa W5 y r hA h5 hws => fin_said hk hA h5 hws)
  have HT := Lib.hid hT
  have HZ := Lib.hid hZ
  obtain ⟨n15, n14, n16⟩ := hk0
  clear hk hEl hF hE hT hZ
  have hTn := HT.out
  have hZn := HZ.out
  go_enter Try.func25, Try.ntmps25
  go_wp2_with (first | refine wpList_loadT (by rfl) (by rfl) (by rfl) (by assumption) ?_ | (refine wpList_storeT (by rfl) (by rfl) (by rfl) (by rfl) (by assumption) ?_; intro W5 hB5 hk5; obtain ⟨e0, e1, e2, e3, e4, e5, e6, e7, e8, e9, e10, e11, e12, e13, e14⟩ := hB5.cells))
  exact bodyPost_ret (v := .tuple #[Th.agg x s c, .bool false]) (by simp [results, Try.results25, go_sem, e0, e1, e2, e3, e4, e5, e6, e7, e8, e9, e10, e11, e12, e13, e14]) rfl (HFIN.out _ _ _ _ (Kept.one w.heap.size W2) hk5 rfl)

theorem rswap_any (x : Th) (t k v : Int) (s : Option Addr) (c : Nat) (w : World) (hF : Fit x) (hE : InW w x s) :
    Calls Try.prog 25 #[x.agg s c, .int .i64 t, .int .i64 k, .int .i64 v] w (SaidB w s x.ws (if (swapMayM x t k v) = true then swapM x t k v else x) (swapMayM x t k v)) := by
  have hc : k = 15 ∨ k = 14 ∨ k = 16 ∨ (k ≠ 15 ∧ k ≠ 14 ∧ k ≠ 16) := by omega
  rcases hc with rfl | rfl | rfl | hk0
  · exact rswap_15 x t v s c w hF hE
  · exact rswap_14 x t v s c w hF hE
  · exact rswap_16 x t v s c w hF hE
  · have e : swapMayM x t k v = false := by obtain ⟨n15, n14, n16⟩ := hk0; simp only [swapMayM, if_neg n15, if_neg n14, if_neg n16]
    rw [e, if_neg Bool.false_ne_true]
    exact rswap_no x t k v s c w hF hE hk0

end Go.Proofs.Ythjblniabnjfhaa
