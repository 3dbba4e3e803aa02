/-
  The document's answer of layer 10: Do, mark 17 and latches.
  Conditions: no count is beyond two millions; the waiters lie in memory.
-/
import Derived.Test.YthjblniabnjfhaaModRefD
import Derived.Deep.RegionHeld3
import Derived.Deep.Cut
import Derived.Deep.CutRange
import Derived.Deep.DeepCutAuto
import Derived.LoopTactic
namespace Go.Proofs.Ythjblniabnjfhaa
open Go.RowKit
set_option linter.unusedSimpArgs false
set_option linter.unusedVariables false

set_option maxHeartbeats 4000000 in
set_option maxRecDepth 100000 in
theorem rdo_17 (x : Th) (t v : Int) (s : Option Addr) (c : Nat) (w : World) (hE : InW w x s) (h0 : ¬ t < 0) (h7 : ¬ 7 < t) (k1 : ¬ x.kind < 1) (k5 : ¬ 5 < x.kind) :
    Calls Try.prog 15 #[x.agg s c, .int .i64 t, .agg #[.int .i64 17, .int .i64 v]] w (SaidB w s x.ws x (v == 0)) := by
  obtain ⟨W1, W2, W3, hW1, hW2, hW3, s1, s2, s3, hT, hN, hZ, hk, hi⟩ := rdo_box x s c 17 v w hE
  obtain ⟨c0, c1, c2, c3, c4, c5, c6, c7, c8, c9, c10, c11, c12, c13, c14⟩ := hT.cells
  obtain ⟨d0, d1⟩ := hN.cells
  have f1 := hT.free 1
  have HT := Lib.hid hT
  have HZ := Lib.hid hZ
  have HN := Lib.hid hN
  have HI := Lib.hid hi
  have HSZ : Hid (W3.heap.size = w.heap.size + 3) := Lib.hid s3
  have HK : Hid (Kept (fun k => w.heap.size ≤ k) w W3) := Lib.hid (hk.mono (fun _ _ f => f.elim))
  clear hT hN hZ hk hi hE s3
  obtain ⟨r, hr⟩ : ∃ r, (v == 0) = r := ⟨_, rfl⟩
  rw [hr]
  go_enter Try.func15, Try.ntmps15
  go_wp2_with fail
  obtain ⟨W5, hW5, hB5, hk5⟩ := BoxT.put (b := w.heap.size + 1 + 1) HZ.out x s c
  have HK6 : Hid (Kept (fun k => k = w.heap.size + 1 + 1) W3 W5.drew) := Lib.hid hk5.drew
  obtain ⟨_, _, _, _, _, _, _, _, _, _, _, _, _, _, _⟩ := BoxT.cells (b := w.heap.size + 1 + 1) HZ.out
  obtain ⟨_, _, _, _, _, _, _, _, _, _, _, _, _, _, _⟩ := BoxT.frees (b := w.heap.size + 1 + 1) HZ.out
  obtain ⟨e0, e1, e2, e3, e4, e5, e6, e7, e8, e9, e10, e11, e12, e13, e14⟩ := hB5.cells
  have hx5 := HT.out.kept hk5 (by omega)
  obtain ⟨_, _, _, _, _, _, _, _, _, _, _, _, _, _, _⟩ := hx5.cells
  obtain ⟨_, _⟩ := BoxN.cells (show BoxN W5 (w.heap.size + 1) 17 v from hk5.at_ HN.out (by omega))
  clear hB5 hk5 hx5
  go_region
  all_goals
    go_wp2_with fail
    exact bodyPost_ret (v := .tuple #[Th.agg x s c, .bool r]) (by simp [results, Try.results15, go_sem, e0, e1, e2, e3, e4, e5, e6, e7, e8, e9, e10, e11, e12, e13, e14]) rfl (fin_do (y := x) HK.out (.inl ⟨rfl, rfl⟩) HK6.out)

set_option maxHeartbeats 4000000 in
set_option maxRecDepth 100000 in
theorem rdo_3_1 (x : Th) (t v : Int) (s : Option Addr) (c : Nat) (w : World) (hF : Fit x) (hE : InW w x s) (h0 : ¬ t < 0) (h7 : ¬ 7 < t) (k1 : ¬ x.kind < 1) (k5 : ¬ 5 < x.kind) (e1 : (x.kind == 1) = false) (e2 : (x.kind == 2) = false) (e3 : (x.kind == 3) = true) (e4 : (x.kind == 4) = false) :
    Calls Try.prog 15 #[x.agg s c, .int .i64 t, .agg #[.int .i64 1, .int .i64 v]] w (SaidB w s x.ws (if (v == 0 && x.n == 0) = true then x else x) (v == 0 && x.n == 0)) := by
  have b0 := hF.n0
  have b1 := hF.n1
  clear hF
  obtain ⟨W1, W2, W3, hW1, hW2, hW3, s1, s2, s3, hT, hN, hZ, hk, hi⟩ := rdo_box x s c 1 v w hE
  obtain ⟨c0, c1, c2, c3, c4, c5, c6, c7, c8, c9, c10, c11, c12, c13, c14⟩ := hT.cells
  obtain ⟨d0, d1⟩ := hN.cells
  have f1 := hT.free 1
  have HT := Lib.hid hT
  have HZ := Lib.hid hZ
  have HN := Lib.hid hN
  have HI := Lib.hid hi
  have HSZ : Hid (W3.heap.size = w.heap.size + 3) := Lib.hid s3
  have HK : Hid (Kept (fun k => w.heap.size ≤ k) w W3) := Lib.hid (hk.mono (fun _ _ f => f.elim))
  clear hT hN hZ hk hi hE s3
  obtain ⟨mb, hmm⟩ : ∃ mb, (v == 0 && x.n == 0) = mb := ⟨_, rfl⟩
  rw [hmm]
  cases h1 : (x.n == 0) with
  | false =>
    have hm : mb = false := by rw [← hmm]; simp only [h1, Bool.and_true, Bool.true_and, Bool.false_and, Bool.and_false, Bool.or_true, Bool.true_or, Bool.false_or, Bool.or_false, Bool.not_true, Bool.not_false]
    subst hm
    clear hmm
    rw [if_neg Bool.false_ne_true]
    have hTn : BoxT W3 w.heap.size x s c := HT.out
    have hZn : BoxT W3 (w.heap.size + 1 + 1) zeroTh none 0 := HZ.out.kept ((Kept.one w.heap.size W3)) (by omega)
    go_enter Try.func15, Try.ntmps15
    go_wp2_with fail
    obtain ⟨W5, hW5, hB5, hk5⟩ := BoxT.put (b := w.heap.size + 1 + 1) HZ.out x s c
    have HK6 : Hid (Kept (fun k => k = w.heap.size + 1 + 1) W3 W5.drew) := Lib.hid hk5.drew
    obtain ⟨_, _, _, _, _, _, _, _, _, _, _, _, _, _, _⟩ := BoxT.cells (b := w.heap.size + 1 + 1) HZ.out
    obtain ⟨_, _, _, _, _, _, _, _, _, _, _, _, _, _, _⟩ := BoxT.frees (b := w.heap.size + 1 + 1) HZ.out
    obtain ⟨e0, e1, e2, e3, e4, e5, e6, e7, e8, e9, e10, e11, e12, e13, e14⟩ := hB5.cells
    have hx5 := HT.out.kept hk5 (by omega)
    obtain ⟨_, _, _, _, _, _, _, _, _, _, _, _, _, _, _⟩ := hx5.cells
    obtain ⟨_, _⟩ := BoxN.cells (show BoxN W5 (w.heap.size + 1) 1 v from hk5.at_ HN.out (by omega))
    clear hB5 hk5 hx5
    go_region
    all_goals
      go_wp2_with fail
      exact bodyPost_ret (v := .tuple #[Th.agg x s c, .bool false]) (by simp [results, Try.results15, go_sem, e0, e1, e2, e3, e4, e5, e6, e7, e8, e9, e10, e11, e12, e13, e14]) rfl (fin_do (y := x) HK.out (.inl ⟨rfl, rfl⟩) HK6.out)
  | true =>
    cases h2 : (v == 0) with
    | false =>
      have hm : mb = false := by rw [← hmm]; simp only [h1, h2, Bool.and_true, Bool.true_and, Bool.false_and, Bool.and_false, Bool.or_true, Bool.true_or, Bool.false_or, Bool.or_false, Bool.not_true, Bool.not_false]
      subst hm
      clear hmm
      rw [if_neg Bool.false_ne_true]
      have hTn : BoxT W3 w.heap.size x s c := HT.out
      have hZn : BoxT W3 (w.heap.size + 1 + 1) zeroTh none 0 := HZ.out.kept ((Kept.one w.heap.size W3)) (by omega)
      go_enter Try.func15, Try.ntmps15
      go_wp2_with fail
      obtain ⟨W5, hW5, hB5, hk5⟩ := BoxT.put (b := w.heap.size + 1 + 1) HZ.out x s c
      have HK6 : Hid (Kept (fun k => k = w.heap.size + 1 + 1) W3 W5.drew) := Lib.hid hk5.drew
      obtain ⟨_, _, _, _, _, _, _, _, _, _, _, _, _, _, _⟩ := BoxT.cells (b := w.heap.size + 1 + 1) HZ.out
      obtain ⟨_, _, _, _, _, _, _, _, _, _, _, _, _, _, _⟩ := BoxT.frees (b := w.heap.size + 1 + 1) HZ.out
      obtain ⟨e0, e1, e2, e3, e4, e5, e6, e7, e8, e9, e10, e11, e12, e13, e14⟩ := hB5.cells
      have hx5 := HT.out.kept hk5 (by omega)
      obtain ⟨_, _, _, _, _, _, _, _, _, _, _, _, _, _, _⟩ := hx5.cells
      obtain ⟨_, _⟩ := BoxN.cells (show BoxN W5 (w.heap.size + 1) 1 v from hk5.at_ HN.out (by omega))
      clear hB5 hk5 hx5
      go_region
      all_goals
        go_wp2_with fail
        exact bodyPost_ret (v := .tuple #[Th.agg x s c, .bool false]) (by simp [results, Try.results15, go_sem, e0, e1, e2, e3, e4, e5, e6, e7, e8, e9, e10, e11, e12, e13, e14]) rfl (fin_do (y := x) HK.out (.inl ⟨rfl, rfl⟩) HK6.out)
    | true =>
      have hm : mb = true := by rw [← hmm]; simp only [h1, h2, Bool.and_true, Bool.true_and, Bool.false_and, Bool.and_false, Bool.or_true, Bool.true_or, Bool.false_or, Bool.or_false, Bool.not_true, Bool.not_false]
      subst hm
      clear hmm
      rw [if_pos rfl]
      have hTn : BoxT W3 w.heap.size x s c := HT.out
      have hZn : BoxT W3 (w.heap.size + 1 + 1) zeroTh none 0 := HZ.out.kept ((Kept.one w.heap.size W3)) (by omega)
      go_enter Try.func15, Try.ntmps15
      go_wp2_with fail
      obtain ⟨W5, hW5, hB5, hk5⟩ := BoxT.put (b := w.heap.size + 1 + 1) HZ.out x s c
      have HK6 : Hid (Kept (fun k => k = w.heap.size + 1 + 1) W3 W5.drew) := Lib.hid hk5.drew
      obtain ⟨_, _, _, _, _, _, _, _, _, _, _, _, _, _, _⟩ := BoxT.cells (b := w.heap.size + 1 + 1) HZ.out
      obtain ⟨_, _, _, _, _, _, _, _, _, _, _, _, _, _, _⟩ := BoxT.frees (b := w.heap.size + 1 + 1) HZ.out
      obtain ⟨e0, e1, e2, e3, e4, e5, e6, e7, e8, e9, e10, e11, e12, e13, e14⟩ := hB5.cells
      have hx5 := HT.out.kept hk5 (by omega)
      obtain ⟨_, _, _, _, _, _, _, _, _, _, _, _, _, _, _⟩ := hx5.cells
      obtain ⟨_, _⟩ := BoxN.cells (show BoxN W5 (w.heap.size + 1) 1 v from hk5.at_ HN.out (by omega))
      clear hB5 hk5 hx5
      go_region
      all_goals
        go_wp2_with fail
        exact bodyPost_ret (v := .tuple #[Th.agg x s c, .bool true]) (by simp [results, Try.results15, go_sem, e0, e1, e2, e3, e4, e5, e6, e7, e8, e9, e10, e11, e12, e13, e14]) rfl (fin_do (y := x) HK.out (.inl ⟨rfl, rfl⟩) HK6.out)

set_option maxHeartbeats 4000000 in
set_option maxRecDepth 100000 in
theorem rdo_3_8 (x : Th) (t v : Int) (s : Option Addr) (c : Nat) (w : World) (hF : Fit x) (hE : InW w x s) (h0 : ¬ t < 0) (h7 : ¬ 7 < t) (k1 : ¬ x.kind < 1) (k5 : ¬ 5 < x.kind) (e1 : (x.kind == 1) = false) (e2 : (x.kind == 2) = false) (e3 : (x.kind == 3) = true) (e4 : (x.kind == 4) = false) :
    Calls Try.prog 15 #[x.agg s c, .int .i64 t, .agg #[.int .i64 8, .int .i64 v]] w (SaidB w s x.ws (if ((v == 1 && decide (0 < x.n)) || (v == 0 && x.n == 0)) = true then countM x 8 v else x) ((v == 1 && decide (0 < x.n)) || (v == 0 && x.n == 0))) := by
  have b0 := hF.n0
  have b1 := hF.n1
  clear hF
  obtain ⟨W1, W2, W3, hW1, hW2, hW3, s1, s2, s3, hT, hN, hZ, hk, hi⟩ := rdo_box x s c 8 v w hE
  obtain ⟨c0, c1, c2, c3, c4, c5, c6, c7, c8, c9, c10, c11, c12, c13, c14⟩ := hT.cells
  obtain ⟨d0, d1⟩ := hN.cells
  have f1 := hT.free 1
  have HT := Lib.hid hT
  have HZ := Lib.hid hZ
  have HN := Lib.hid hN
  have HI := Lib.hid hi
  have HSZ : Hid (W3.heap.size = w.heap.size + 3) := Lib.hid s3
  have HK : Hid (Kept (fun k => w.heap.size ≤ k) w W3) := Lib.hid (hk.mono (fun _ _ f => f.elim))
  clear hT hN hZ hk hi hE s3
  obtain ⟨mb, hmm⟩ : ∃ mb, ((v == 1 && decide (0 < x.n)) || (v == 0 && x.n == 0)) = mb := ⟨_, rfl⟩
  rw [hmm]
  cases h1 : (v == 1) with
  | false =>
    cases h2 : (v == 0) with
    | false =>
      have hm : mb = false := by rw [← hmm]; simp only [h1, h2, Bool.and_true, Bool.true_and, Bool.false_and, Bool.and_false, Bool.or_true, Bool.true_or, Bool.false_or, Bool.or_false, Bool.not_true, Bool.not_false]
      subst hm
      clear hmm
      rw [if_neg Bool.false_ne_true]
      have hTn : BoxT W3 w.heap.size x s c := HT.out
      have hZn : BoxT W3 (w.heap.size + 1 + 1) zeroTh none 0 := HZ.out.kept ((Kept.one w.heap.size W3)) (by omega)
      go_enter Try.func15, Try.ntmps15
      go_upto_region 16 with fail
      go_wp2_with (first | refine wpList_loadT (by rfl) (by rfl) (by rfl) (by assumption) ?_ | (refine wpList_storeT (by rfl) (by rfl) (by rfl) (by rfl) (by assumption) ?_; intro W5 hB5 hk5; obtain ⟨e0, e1, e2, e3, e4, e5, e6, e7, e8, e9, e10, e11, e12, e13, e14⟩ := hB5.cells))
      exact bodyPost_ret (v := .tuple #[Th.agg x s c, .bool false]) (by simp [results, Try.results15, go_sem, e0, e1, e2, e3, e4, e5, e6, e7, e8, e9, e10, e11, e12, e13, e14]) rfl (fin_do (y := x) HK.out (.inl ⟨rfl, rfl⟩) hk5)
    | true =>
      cases h3 : (x.n == 0) with
      | false =>
        have hm : mb = false := by rw [← hmm]; simp only [h1, h2, h3, Bool.and_true, Bool.true_and, Bool.false_and, Bool.and_false, Bool.or_true, Bool.true_or, Bool.false_or, Bool.or_false, Bool.not_true, Bool.not_false]
        subst hm
        clear hmm
        rw [if_neg Bool.false_ne_true]
        have hTn : BoxT W3 w.heap.size x s c := HT.out
        have hZn : BoxT W3 (w.heap.size + 1 + 1) zeroTh none 0 := HZ.out.kept ((Kept.one w.heap.size W3)) (by omega)
        go_enter Try.func15, Try.ntmps15
        go_upto_region 16 with fail
        go_wp2_with (first | refine wpList_loadT (by rfl) (by rfl) (by rfl) (by assumption) ?_ | (refine wpList_storeT (by rfl) (by rfl) (by rfl) (by rfl) (by assumption) ?_; intro W5 hB5 hk5; obtain ⟨e0, e1, e2, e3, e4, e5, e6, e7, e8, e9, e10, e11, e12, e13, e14⟩ := hB5.cells))
        exact bodyPost_ret (v := .tuple #[Th.agg x s c, .bool false]) (by simp [results, Try.results15, go_sem, e0, e1, e2, e3, e4, e5, e6, e7, e8, e9, e10, e11, e12, e13, e14]) rfl (fin_do (y := x) HK.out (.inl ⟨rfl, rfl⟩) hk5)
      | true =>
        have hm : mb = true := by rw [← hmm]; simp only [h1, h2, h3, Bool.and_true, Bool.true_and, Bool.false_and, Bool.and_false, Bool.or_true, Bool.true_or, Bool.false_or, Bool.or_false, Bool.not_true, Bool.not_false]
        subst hm
        clear hmm
        rw [if_pos rfl, show countM x 8 v = { x with n := x.n - v } from rfl]
        have hv := beq_iff_eq.1 h2
        have qa : -3000000 ≤ x.n - v := by omega
        have qb : x.n - v ≤ 3000000 := by omega
        clear hv
        have hTn : BoxT (W3.setCell ⟨w.heap.size, 1, none⟩ (.int .i64 (x.n - v))) w.heap.size { x with n := x.n - v } s c := (HT.out.setN (x.n - v))
        have hZn : BoxT (W3.setCell ⟨w.heap.size, 1, none⟩ (.int .i64 (x.n - v))) (w.heap.size + 1 + 1) zeroTh none 0 := HZ.out.kept ((Kept.one w.heap.size W3).sB _ _) (by omega)
        go_enter Try.func15, Try.ntmps15
        go_upto_region 15 with fail
        go_wp2_with (first | refine wpList_loadT (by rfl) (by rfl) (by rfl) (by assumption) ?_ | (refine wpList_storeT (by rfl) (by rfl) (by rfl) (by rfl) (by assumption) ?_; intro W5 hB5 hk5; obtain ⟨e0, e1, e2, e3, e4, e5, e6, e7, e8, e9, e10, e11, e12, e13, e14⟩ := hB5.cells))
        exact bodyPost_ret (v := .tuple #[Th.agg { x with n := x.n - v } s c, .bool true]) (by simp [results, Try.results15, go_sem, e0, e1, e2, e3, e4, e5, e6, e7, e8, e9, e10, e11, e12, e13, e14]) rfl (fin_do (y := { x with n := x.n - v }) (HK.out.trans ((Kept.one w.heap.size W3).sB _ _) (fun _ _ e => by omega)) (.inl ⟨rfl, rfl⟩) hk5)
  | true =>
    cases h4 : (decide (0 < x.n)) with
    | false =>
      cases h5 : (v == 0) with
      | false =>
        have hm : mb = false := by rw [← hmm]; simp only [h1, h4, h5, Bool.and_true, Bool.true_and, Bool.false_and, Bool.and_false, Bool.or_true, Bool.true_or, Bool.false_or, Bool.or_false, Bool.not_true, Bool.not_false]
        subst hm
        clear hmm
        rw [if_neg Bool.false_ne_true]
        have hTn : BoxT W3 w.heap.size x s c := HT.out
        have hZn : BoxT W3 (w.heap.size + 1 + 1) zeroTh none 0 := HZ.out.kept ((Kept.one w.heap.size W3)) (by omega)
        go_enter Try.func15, Try.ntmps15
        go_upto_region 16 with fail
        go_wp2_with (first | refine wpList_loadT (by rfl) (by rfl) (by rfl) (by assumption) ?_ | (refine wpList_storeT (by rfl) (by rfl) (by rfl) (by rfl) (by assumption) ?_; intro W5 hB5 hk5; obtain ⟨e0, e1, e2, e3, e4, e5, e6, e7, e8, e9, e10, e11, e12, e13, e14⟩ := hB5.cells))
        exact bodyPost_ret (v := .tuple #[Th.agg x s c, .bool false]) (by simp [results, Try.results15, go_sem, e0, e1, e2, e3, e4, e5, e6, e7, e8, e9, e10, e11, e12, e13, e14]) rfl (fin_do (y := x) HK.out (.inl ⟨rfl, rfl⟩) hk5)
      | true =>
        cases h6 : (x.n == 0) with
        | false =>
          have hm : mb = false := by rw [← hmm]; simp only [h1, h4, h5, h6, Bool.and_true, Bool.true_and, Bool.false_and, Bool.and_false, Bool.or_true, Bool.true_or, Bool.false_or, Bool.or_false, Bool.not_true, Bool.not_false]
          subst hm
          clear hmm
          rw [if_neg Bool.false_ne_true]
          have hTn : BoxT W3 w.heap.size x s c := HT.out
          have hZn : BoxT W3 (w.heap.size + 1 + 1) zeroTh none 0 := HZ.out.kept ((Kept.one w.heap.size W3)) (by omega)
          go_enter Try.func15, Try.ntmps15
          go_upto_region 16 with fail
          go_wp2_with (first | refine wpList_loadT (by rfl) (by rfl) (by rfl) (by assumption) ?_ | (refine wpList_storeT (by rfl) (by rfl) (by rfl) (by rfl) (by assumption) ?_; intro W5 hB5 hk5; obtain ⟨e0, e1, e2, e3, e4, e5, e6, e7, e8, e9, e10, e11, e12, e13, e14⟩ := hB5.cells))
          exact bodyPost_ret (v := .tuple #[Th.agg x s c, .bool false]) (by simp [results, Try.results15, go_sem, e0, e1, e2, e3, e4, e5, e6, e7, e8, e9, e10, e11, e12, e13, e14]) rfl (fin_do (y := x) HK.out (.inl ⟨rfl, rfl⟩) hk5)
        | true =>
          have hm : mb = true := by rw [← hmm]; simp only [h1, h4, h5, h6, Bool.and_true, Bool.true_and, Bool.false_and, Bool.and_false, Bool.or_true, Bool.true_or, Bool.false_or, Bool.or_false, Bool.not_true, Bool.not_false]
          subst hm
          clear hmm
          rw [if_pos rfl, show countM x 8 v = { x with n := x.n - v } from rfl]
          have hv := beq_iff_eq.1 h1
          have qa : -3000000 ≤ x.n - v := by omega
          have qb : x.n - v ≤ 3000000 := by omega
          clear hv
          have hTn : BoxT (W3.setCell ⟨w.heap.size, 1, none⟩ (.int .i64 (x.n - v))) w.heap.size { x with n := x.n - v } s c := (HT.out.setN (x.n - v))
          have hZn : BoxT (W3.setCell ⟨w.heap.size, 1, none⟩ (.int .i64 (x.n - v))) (w.heap.size + 1 + 1) zeroTh none 0 := HZ.out.kept ((Kept.one w.heap.size W3).sB _ _) (by omega)
          go_enter Try.func15, Try.ntmps15
          go_upto_region 15 with fail
          go_wp2_with (first | refine wpList_loadT (by rfl) (by rfl) (by rfl) (by assumption) ?_ | (refine wpList_storeT (by rfl) (by rfl) (by rfl) (by rfl) (by assumption) ?_; intro W5 hB5 hk5; obtain ⟨e0, e1, e2, e3, e4, e5, e6, e7, e8, e9, e10, e11, e12, e13, e14⟩ := hB5.cells))
          exact bodyPost_ret (v := .tuple #[Th.agg { x with n := x.n - v } s c, .bool true]) (by simp [results, Try.results15, go_sem, e0, e1, e2, e3, e4, e5, e6, e7, e8, e9, e10, e11, e12, e13, e14]) rfl (fin_do (y := { x with n := x.n - v }) (HK.out.trans ((Kept.one w.heap.size W3).sB _ _) (fun _ _ e => by omega)) (.inl ⟨rfl, rfl⟩) hk5)
    | true =>
      have hm : mb = true := by rw [← hmm]; simp only [h1, h4, Bool.and_true, Bool.true_and, Bool.false_and, Bool.and_false, Bool.or_true, Bool.true_or, Bool.false_or, Bool.or_false, Bool.not_true, Bool.not_false]
      subst hm
      clear hmm
      rw [if_pos rfl, show countM x 8 v = { x with n := x.n - v } from rfl]
      have hv := beq_iff_eq.1 h1
      have qa : -3000000 ≤ x.n - v := by omega
      have qb : x.n - v ≤ 3000000 := by omega
      clear hv
      have hTn : BoxT (W3.setCell ⟨w.heap.size, 1, none⟩ (.int .i64 (x.n - v))) w.heap.size { x with n := x.n - v } s c := (HT.out.setN (x.n - v))
      have hZn : BoxT (W3.setCell ⟨w.heap.size, 1, none⟩ (.int .i64 (x.n - v))) (w.heap.size + 1 + 1) zeroTh none 0 := HZ.out.kept ((Kept.one w.heap.size W3).sB _ _) (by omega)
      go_enter Try.func15, Try.ntmps15
      go_upto_region 15 with fail
      go_wp2_with (first | refine wpList_loadT (by rfl) (by rfl) (by rfl) (by assumption) ?_ | (refine wpList_storeT (by rfl) (by rfl) (by rfl) (by rfl) (by assumption) ?_; intro W5 hB5 hk5; obtain ⟨e0, e1, e2, e3, e4, e5, e6, e7, e8, e9, e10, e11, e12, e13, e14⟩ := hB5.cells))
      exact bodyPost_ret (v := .tuple #[Th.agg { x with n := x.n - v } s c, .bool true]) (by simp [results, Try.results15, go_sem, e0, e1, e2, e3, e4, e5, e6, e7, e8, e9, e10, e11, e12, e13, e14]) rfl (fin_do (y := { x with n := x.n - v }) (HK.out.trans ((Kept.one w.heap.size W3).sB _ _) (fun _ _ e => by omega)) (.inl ⟨rfl, rfl⟩) hk5)

set_option maxHeartbeats 4000000 in
set_option maxRecDepth 100000 in
theorem rdo_3_no (x : Th) (t k v : Int) (s : Option Addr) (c : Nat) (w : World) (hE : InW w x s) (h0 : ¬ t < 0) (h7 : ¬ 7 < t) (k1 : ¬ x.kind < 1) (k5 : ¬ 5 < x.kind) (h17 : (k == 17) = false) (h1 : (k == 1) = false) (h8 : (k == 8) = false) (e1 : (x.kind == 1) = false) (e2 : (x.kind == 2) = false) (e3 : (x.kind == 3) = true) (e4 : (x.kind == 4) = false) :
    Calls Try.prog 15 #[x.agg s c, .int .i64 t, .agg #[.int .i64 k, .int .i64 v]] w (SaidB w s x.ws x false) := by
  obtain ⟨W1, W2, W3, hW1, hW2, hW3, s1, s2, s3, hT, hN, hZ, hk, hi⟩ := rdo_box x s c k v w hE
  obtain ⟨c0, c1, c2, c3, c4, c5, c6, c7, c8, c9, c10, c11, c12, c13, c14⟩ := hT.cells
  obtain ⟨d0, d1⟩ := hN.cells
  have f1 := hT.free 1
  have HT := Lib.hid hT
  have HZ := Lib.hid hZ
  have HN := Lib.hid hN
  have HI := Lib.hid hi
  have HSZ : Hid (W3.heap.size = w.heap.size + 3) := Lib.hid s3
  have HK : Hid (Kept (fun k => w.heap.size ≤ k) w W3) := Lib.hid (hk.mono (fun _ _ f => f.elim))
  clear hT hN hZ hk hi hE s3
  have hTn := HT.out
  have hZn := HZ.out
  go_enter Try.func15, Try.ntmps15
  go_upto_region 16 with fail
  go_wp2_with (first | refine wpList_loadT (by rfl) (by rfl) (by rfl) (by assumption) ?_ | (refine wpList_storeT (by rfl) (by rfl) (by rfl) (by rfl) (by assumption) ?_; intro W5 hB5 hk5; obtain ⟨e0, e1, e2, e3, e4, e5, e6, e7, e8, e9, e10, e11, e12, e13, e14⟩ := hB5.cells))
  exact bodyPost_ret (v := .tuple #[Th.agg x s c, .bool false]) (by simp [results, Try.results15, go_sem, e0, e1, e2, e3, e4, e5, e6, e7, e8, e9, e10, e11, e12, e13, e14]) rfl (fin_do (y := x) HK.out (.inl ⟨rfl, rfl⟩) hk5)

end Go.Proofs.Ythjblniabnjfhaa
