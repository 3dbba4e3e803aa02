/-
  What package model's test of each kind of things comes to, and its test of any.
  Conditions: as each says.
-/
import Derived.Test.YtbodlaiakcoabaaGreatDoorModLeaf
import Derived.LoopTactic
import Derived.Deep.QuietTactic
import Derived.BigQuiet
import Derived.Outline
namespace Go.Proofs.YtbodlaiakcoabaaGreatDoor
open Go.RowKit
set_option linter.unusedSimpArgs false
set_option linter.unusedVariables false

set_option maxHeartbeats 2000000 in
theorem sema_1 (n v : Int) (w : World) (v0 : -9223372036854775808 ≤ v) (v1 : v ≤ 9223372036854775807) (r : Bool) (hr : (decide (1 ≤ v) && decide (v ≤ n)) = r) :
    Calls Tryz.prog 79 #[.int .i64 n, .agg #[.int .i64 1, .int .i64 v]] w fun e w' => e = .returned (.bool r) ∧ Kept (fun _ => False) w w' := by
  have HK0 : Hid (Kept (fun _ => False) w (w.alloc (.cells #[.int .i64 1, .int .i64 v] 36))) := Lib.hid ((Kept.refl _ w).alloc _)
  have HN0 : Hid (BoxN (w.alloc (.cells #[.int .i64 1, .int .i64 v] 36)) w.heap.size 1 v) := Lib.hid (BoxN.new w 1 v)
  cases h1 : (decide (1 ≤ v)) with
  | false =>
    obtain rfl : r = false := by rw [← hr]; simp only [h1, Bool.and_true, Bool.true_and, Bool.false_and, Bool.and_false, Bool.or_true, Bool.true_or, Bool.false_or, Bool.or_false, Bool.not_true, Bool.not_false, if_true, if_false, Bool.false_eq_true, if_pos, if_neg]
    clear hr
    go_enter Tryz.func79, Tryz.ntmps79
    go_wp2_with fail
    go_ret
    exact ⟨rfl, HK0.out⟩
  | true =>
    cases h2 : (decide (v ≤ n)) with
    | false =>
      obtain rfl : r = false := by rw [← hr]; simp only [h1, h2, Bool.and_true, Bool.true_and, Bool.false_and, Bool.and_false, Bool.or_true, Bool.true_or, Bool.false_or, Bool.or_false, Bool.not_true, Bool.not_false, if_true, if_false, Bool.false_eq_true, if_pos, if_neg]
      clear hr
      go_enter Tryz.func79, Tryz.ntmps79
      go_wp2_with fail
      go_ret
      exact ⟨rfl, HK0.out⟩
    | true =>
      obtain rfl : r = true := by rw [← hr]; simp only [h1, h2, Bool.and_true, Bool.true_and, Bool.false_and, Bool.and_false, Bool.or_true, Bool.true_or, Bool.false_or, Bool.or_false, Bool.not_true, Bool.not_false, if_true, if_false, Bool.false_eq_true, if_pos, if_neg]
      clear hr
      go_enter Tryz.func79, Tryz.ntmps79
      go_wp2_with fail
      go_ret
      exact ⟨rfl, HK0.out⟩

set_option maxHeartbeats 2000000 in
theorem sema_3 (n v : Int) (w : World) (v0 : -9223372036854775808 ≤ v) (v1 : v ≤ 9223372036854775807) (r : Bool) (hr : (decide (1 ≤ v) && !overM n v) = r) :
    Calls Tryz.prog 79 #[.int .i64 n, .agg #[.int .i64 3, .int .i64 v]] w fun e w' => e = .returned (.bool r) ∧ Kept (fun _ => False) w w' := by
  have HK0 : Hid (Kept (fun _ => False) w (w.alloc (.cells #[.int .i64 3, .int .i64 v] 36))) := Lib.hid ((Kept.refl _ w).alloc _)
  have HN0 : Hid (BoxN (w.alloc (.cells #[.int .i64 3, .int .i64 v] 36)) w.heap.size 3 v) := Lib.hid (BoxN.new w 3 v)
  cases h1 : (decide (1 ≤ v)) with
  | false =>
    obtain rfl : r = false := by rw [← hr]; simp only [h1, Bool.and_true, Bool.true_and, Bool.false_and, Bool.and_false, Bool.or_true, Bool.true_or, Bool.false_or, Bool.or_false, Bool.not_true, Bool.not_false, if_true, if_false, Bool.false_eq_true, if_pos, if_neg]
    clear hr
    go_enter Tryz.func79, Tryz.ntmps79
    go_wp2_with fail
    go_ret
    exact ⟨rfl, HK0.out⟩
  | true =>
    cases h2 : (overM n v) with
    | false =>
      obtain rfl : r = true := by rw [← hr]; simp only [h1, h2, Bool.and_true, Bool.true_and, Bool.false_and, Bool.and_false, Bool.or_true, Bool.true_or, Bool.false_or, Bool.or_false, Bool.not_true, Bool.not_false, if_true, if_false, Bool.false_eq_true, if_pos, if_neg]
      clear hr
      go_enter Tryz.func79, Tryz.ntmps79
      go_wp2_with fail
      refine (over_any n v _ (of_decide_eq_true h1) v1 _ h2).mono ?_
      rintro e w1 ⟨rfl, hk1⟩
      have HK1 := Lib.hid (HK0.out.tr0 hk1)
      have HN1 := Lib.hid (HN0.out.kept0 hk1)
      clear hk1
      go_wp2_with fail
      go_ret
      exact ⟨rfl, HK1.out⟩
    | true =>
      obtain rfl : r = false := by rw [← hr]; simp only [h1, h2, Bool.and_true, Bool.true_and, Bool.false_and, Bool.and_false, Bool.or_true, Bool.true_or, Bool.false_or, Bool.or_false, Bool.not_true, Bool.not_false, if_true, if_false, Bool.false_eq_true, if_pos, if_neg]
      clear hr
      go_enter Tryz.func79, Tryz.ntmps79
      go_wp2_with fail
      refine (over_any n v _ (of_decide_eq_true h1) v1 _ h2).mono ?_
      rintro e w1 ⟨rfl, hk1⟩
      have HK1 := Lib.hid (HK0.out.tr0 hk1)
      have HN1 := Lib.hid (HN0.out.kept0 hk1)
      clear hk1
      go_wp2_with fail
      go_ret
      exact ⟨rfl, HK1.out⟩

set_option maxHeartbeats 2000000 in
theorem sema_7 (n v : Int) (w : World) (v0 : -9223372036854775808 ≤ v) (v1 : v ≤ 9223372036854775807) (r : Bool) (hr : (decide (1 ≤ v) && overM n v) = r) :
    Calls Tryz.prog 79 #[.int .i64 n, .agg #[.int .i64 7, .int .i64 v]] w fun e w' => e = .returned (.bool r) ∧ Kept (fun _ => False) w w' := by
  have HK0 : Hid (Kept (fun _ => False) w (w.alloc (.cells #[.int .i64 7, .int .i64 v] 36))) := Lib.hid ((Kept.refl _ w).alloc _)
  have HN0 : Hid (BoxN (w.alloc (.cells #[.int .i64 7, .int .i64 v] 36)) w.heap.size 7 v) := Lib.hid (BoxN.new w 7 v)
  cases h1 : (decide (1 ≤ v)) with
  | false =>
    obtain rfl : r = false := by rw [← hr]; simp only [h1, Bool.and_true, Bool.true_and, Bool.false_and, Bool.and_false, Bool.or_true, Bool.true_or, Bool.false_or, Bool.or_false, Bool.not_true, Bool.not_false, if_true, if_false, Bool.false_eq_true, if_pos, if_neg]
    clear hr
    go_enter Tryz.func79, Tryz.ntmps79
    go_wp2_with fail
    go_ret
    exact ⟨rfl, HK0.out⟩
  | true =>
    cases h2 : (overM n v) with
    | false =>
      obtain rfl : r = false := by rw [← hr]; simp only [h1, h2, Bool.and_true, Bool.true_and, Bool.false_and, Bool.and_false, Bool.or_true, Bool.true_or, Bool.false_or, Bool.or_false, Bool.not_true, Bool.not_false, if_true, if_false, Bool.false_eq_true, if_pos, if_neg]
      clear hr
      go_enter Tryz.func79, Tryz.ntmps79
      go_wp2_with fail
      refine (over_any n v _ (of_decide_eq_true h1) v1 _ h2).mono ?_
      rintro e w1 ⟨rfl, hk1⟩
      have HK1 := Lib.hid (HK0.out.tr0 hk1)
      have HN1 := Lib.hid (HN0.out.kept0 hk1)
      clear hk1
      go_wp2_with fail
      go_ret
      exact ⟨rfl, HK1.out⟩
    | true =>
      obtain rfl : r = true := by rw [← hr]; simp only [h1, h2, Bool.and_true, Bool.true_and, Bool.false_and, Bool.and_false, Bool.or_true, Bool.true_or, Bool.false_or, Bool.or_false, Bool.not_true, Bool.not_false, if_true, if_false, Bool.false_eq_true, if_pos, if_neg]
      clear hr
      go_enter Tryz.func79, Tryz.ntmps79
      go_wp2_with fail
      refine (over_any n v _ (of_decide_eq_true h1) v1 _ h2).mono ?_
      rintro e w1 ⟨rfl, hk1⟩
      have HK1 := Lib.hid (HK0.out.tr0 hk1)
      have HN1 := Lib.hid (HN0.out.kept0 hk1)
      clear hk1
      go_wp2_with fail
      go_ret
      exact ⟨rfl, HK1.out⟩

set_option maxHeartbeats 2000000 in
theorem sema_5 (n v : Int) (w : World) (v0 : -9223372036854775808 ≤ v) (v1 : v ≤ 9223372036854775807) (r : Bool) (hr : (decide (n < v)) = r) :
    Calls Tryz.prog 79 #[.int .i64 n, .agg #[.int .i64 5, .int .i64 v]] w fun e w' => e = .returned (.bool r) ∧ Kept (fun _ => False) w w' := by
  have HK0 : Hid (Kept (fun _ => False) w (w.alloc (.cells #[.int .i64 5, .int .i64 v] 36))) := Lib.hid ((Kept.refl _ w).alloc _)
  have HN0 : Hid (BoxN (w.alloc (.cells #[.int .i64 5, .int .i64 v] 36)) w.heap.size 5 v) := Lib.hid (BoxN.new w 5 v)
  cases h1 : (decide (n < v)) with
  | false =>
    obtain rfl : r = false := by rw [← hr]; simp only [h1, Bool.and_true, Bool.true_and, Bool.false_and, Bool.and_false, Bool.or_true, Bool.true_or, Bool.false_or, Bool.or_false, Bool.not_true, Bool.not_false, if_true, if_false, Bool.false_eq_true, if_pos, if_neg]
    clear hr
    go_enter Tryz.func79, Tryz.ntmps79
    go_wp2_with fail
    go_ret
    exact ⟨rfl, HK0.out⟩
  | true =>
    obtain rfl : r = true := by rw [← hr]; simp only [h1, Bool.and_true, Bool.true_and, Bool.false_and, Bool.and_false, Bool.or_true, Bool.true_or, Bool.false_or, Bool.or_false, Bool.not_true, Bool.not_false, if_true, if_false, Bool.false_eq_true, if_pos, if_neg]
    clear hr
    go_enter Tryz.func79, Tryz.ntmps79
    go_wp2_with fail
    go_ret
    exact ⟨rfl, HK0.out⟩

set_option maxHeartbeats 2000000 in
theorem sema_9 (n v : Int) (w : World) (v0 : -9223372036854775808 ≤ v) (v1 : v ≤ 9223372036854775807) (r : Bool) (hr : (v == n) = r) :
    Calls Tryz.prog 79 #[.int .i64 n, .agg #[.int .i64 9, .int .i64 v]] w fun e w' => e = .returned (.bool r) ∧ Kept (fun _ => False) w w' := by
  have HK0 : Hid (Kept (fun _ => False) w (w.alloc (.cells #[.int .i64 9, .int .i64 v] 36))) := Lib.hid ((Kept.refl _ w).alloc _)
  have HN0 : Hid (BoxN (w.alloc (.cells #[.int .i64 9, .int .i64 v] 36)) w.heap.size 9 v) := Lib.hid (BoxN.new w 9 v)
  cases h1 : (v == n) with
  | false =>
    obtain rfl : r = false := by rw [← hr]; simp only [h1, Bool.and_true, Bool.true_and, Bool.false_and, Bool.and_false, Bool.or_true, Bool.true_or, Bool.false_or, Bool.or_false, Bool.not_true, Bool.not_false, if_true, if_false, Bool.false_eq_true, if_pos, if_neg]
    clear hr
    go_enter Tryz.func79, Tryz.ntmps79
    go_wp2_with fail
    go_ret
    exact ⟨rfl, HK0.out⟩
  | true =>
    obtain rfl : r = true := by rw [← hr]; simp only [h1, Bool.and_true, Bool.true_and, Bool.false_and, Bool.and_false, Bool.or_true, Bool.true_or, Bool.false_or, Bool.or_false, Bool.not_true, Bool.not_false, if_true, if_false, Bool.false_eq_true, if_pos, if_neg]
    clear hr
    go_enter Tryz.func79, Tryz.ntmps79
    go_wp2_with fail
    go_ret
    exact ⟨rfl, HK0.out⟩

theorem sema_no (n k v : Int) (w : World) (r : Bool) (hr : semaMayM n k v = r) (hk : k ≠ 1 ∧ k ≠ 3 ∧ k ≠ 7 ∧ k ≠ 5 ∧ k ≠ 9) :
    Calls Tryz.prog 79 #[.int .i64 n, .agg #[.int .i64 k, .int .i64 v]] w fun e w' => e = .returned (.bool r) ∧ Kept (fun _ => False) w w' := by
  obtain ⟨n1, n3, n7, n5, n9⟩ := hk
  obtain rfl : r = false := by rw [← hr]; simp only [semaMayM, if_neg n1, if_neg n3, if_neg n7, if_neg n5, if_neg n9]
  clear hr
  have HK0 : Hid (Kept (fun _ => False) w (w.alloc (.cells #[.int .i64 k, .int .i64 v] 36))) := Lib.hid ((Kept.refl _ w).alloc _)
  have HN0 : Hid (BoxN (w.alloc (.cells #[.int .i64 k, .int .i64 v] 36)) w.heap.size k v) := Lib.hid (BoxN.new w k v)
  go_enter Tryz.func79, Tryz.ntmps79
  go_wp2_with fail
  go_ret
  exact ⟨rfl, HK0.out⟩

theorem sema_any (n k v : Int) (w : World) (v0 : -9223372036854775808 ≤ v) (v1 : v ≤ 9223372036854775807) (r : Bool) (hr : semaMayM n k v = r) :
    Calls Tryz.prog 79 #[.int .i64 n, .agg #[.int .i64 k, .int .i64 v]] w fun e w' => e = .returned (.bool r) ∧ Kept (fun _ => False) w w' := by
  have hc : k = 1 ∨ k = 3 ∨ k = 7 ∨ k = 5 ∨ k = 9 ∨ (k ≠ 1 ∧ k ≠ 3 ∧ k ≠ 7 ∧ k ≠ 5 ∧ k ≠ 9) := by omega
  rcases hc with rfl | rfl | rfl | rfl | rfl | hk
  · exact sema_1 n v w v0 v1 r hr
  · exact sema_3 n v w v0 v1 r hr
  · exact sema_7 n v w v0 v1 r hr
  · exact sema_5 n v w v0 v1 r hr
  · exact sema_9 n v w v0 v1 r hr
  · exact sema_no n k v w r hr hk

set_option maxHeartbeats 2000000 in
theorem latch_1 (n v : Int) (w : World) (r : Bool) (hr : (v == 0 && n == 0) = r) :
    Calls Tryz.prog 80 #[.int .i64 n, .agg #[.int .i64 1, .int .i64 v]] w fun e w' => e = .returned (.bool r) ∧ Kept (fun _ => False) w w' := by
  have HK0 : Hid (Kept (fun _ => False) w (w.alloc (.cells #[.int .i64 1, .int .i64 v] 36))) := Lib.hid ((Kept.refl _ w).alloc _)
  have HN0 : Hid (BoxN (w.alloc (.cells #[.int .i64 1, .int .i64 v] 36)) w.heap.size 1 v) := Lib.hid (BoxN.new w 1 v)
  cases h1 : (v == 0) with
  | false =>
    obtain rfl : r = false := by rw [← hr]; simp only [h1, Bool.and_true, Bool.true_and, Bool.false_and, Bool.and_false, Bool.or_true, Bool.true_or, Bool.false_or, Bool.or_false, Bool.not_true, Bool.not_false, if_true, if_false, Bool.false_eq_true, if_pos, if_neg]
    clear hr
    go_enter Tryz.func80, Tryz.ntmps80
    go_wp2_with fail
    go_ret
    exact ⟨rfl, HK0.out⟩
  | true =>
    cases h2 : (n == 0) with
    | false =>
      obtain rfl : r = false := by rw [← hr]; simp only [h1, h2, Bool.and_true, Bool.true_and, Bool.false_and, Bool.and_false, Bool.or_true, Bool.true_or, Bool.false_or, Bool.or_false, Bool.not_true, Bool.not_false, if_true, if_false, Bool.false_eq_true, if_pos, if_neg]
      clear hr
      go_enter Tryz.func80, Tryz.ntmps80
      go_wp2_with fail
      go_ret
      exact ⟨rfl, HK0.out⟩
    | true =>
      obtain rfl : r = true := by rw [← hr]; simp only [h1, h2, Bool.and_true, Bool.true_and, Bool.false_and, Bool.and_false, Bool.or_true, Bool.true_or, Bool.false_or, Bool.or_false, Bool.not_true, Bool.not_false, if_true, if_false, Bool.false_eq_true, if_pos, if_neg]
      clear hr
      go_enter Tryz.func80, Tryz.ntmps80
      go_wp2_with fail
      go_ret
      exact ⟨rfl, HK0.out⟩

set_option maxHeartbeats 2000000 in
theorem latch_8 (n v : Int) (w : World) (r : Bool) (hr : ((v == 1 && decide (0 < n)) || (v == 0 && n == 0)) = r) :
    Calls Tryz.prog 80 #[.int .i64 n, .agg #[.int .i64 8, .int .i64 v]] w fun e w' => e = .returned (.bool r) ∧ Kept (fun _ => False) w w' := by
  have HK0 : Hid (Kept (fun _ => False) w (w.alloc (.cells #[.int .i64 8, .int .i64 v] 36))) := Lib.hid ((Kept.refl _ w).alloc _)
  have HN0 : Hid (BoxN (w.alloc (.cells #[.int .i64 8, .int .i64 v] 36)) w.heap.size 8 v) := Lib.hid (BoxN.new w 8 v)
  cases h1 : (v == 1) with
  | false =>
    cases h2 : (v == 0) with
    | false =>
      obtain rfl : r = false := by rw [← hr]; simp only [h1, h2, Bool.and_true, Bool.true_and, Bool.false_and, Bool.and_false, Bool.or_true, Bool.true_or, Bool.false_or, Bool.or_false, Bool.not_true, Bool.not_false, if_true, if_false, Bool.false_eq_true, if_pos, if_neg]
      clear hr
      go_enter Tryz.func80, Tryz.ntmps80
      go_wp2_with fail
      go_ret
      exact ⟨rfl, HK0.out⟩
    | true =>
      cases h3 : (n == 0) with
      | false =>
        obtain rfl : r = false := by rw [← hr]; simp only [h1, h2, h3, Bool.and_true, Bool.true_and, Bool.false_and, Bool.and_false, Bool.or_true, Bool.true_or, Bool.false_or, Bool.or_false, Bool.not_true, Bool.not_false, if_true, if_false, Bool.false_eq_true, if_pos, if_neg]
        clear hr
        go_enter Tryz.func80, Tryz.ntmps80
        go_wp2_with fail
        go_ret
        exact ⟨rfl, HK0.out⟩
      | true =>
        obtain rfl : r = true := by rw [← hr]; simp only [h1, h2, h3, Bool.and_true, Bool.true_and, Bool.false_and, Bool.and_false, Bool.or_true, Bool.true_or, Bool.false_or, Bool.or_false, Bool.not_true, Bool.not_false, if_true, if_false, Bool.false_eq_true, if_pos, if_neg]
        clear hr
        go_enter Tryz.func80, Tryz.ntmps80
        go_wp2_with fail
        go_ret
        exact ⟨rfl, HK0.out⟩
  | true =>
    cases h4 : (decide (0 < n)) with
    | false =>
      cases h5 : (v == 0) with
      | false =>
        obtain rfl : r = false := by rw [← hr]; simp only [h1, h4, h5, Bool.and_true, Bool.true_and, Bool.false_and, Bool.and_false, Bool.or_true, Bool.true_or, Bool.false_or, Bool.or_false, Bool.not_true, Bool.not_false, if_true, if_false, Bool.false_eq_true, if_pos, if_neg]
        clear hr
        go_enter Tryz.func80, Tryz.ntmps80
        go_wp2_with fail
        go_ret
        exact ⟨rfl, HK0.out⟩
      | true =>
        cases h6 : (n == 0) with
        | false =>
          obtain rfl : r = false := by rw [← hr]; simp only [h1, h4, h5, h6, Bool.and_true, Bool.true_and, Bool.false_and, Bool.and_false, Bool.or_true, Bool.true_or, Bool.false_or, Bool.or_false, Bool.not_true, Bool.not_false, if_true, if_false, Bool.false_eq_true, if_pos, if_neg]
          clear hr
          go_enter Tryz.func80, Tryz.ntmps80
          go_wp2_with fail
          go_ret
          exact ⟨rfl, HK0.out⟩
        | true =>
          obtain rfl : r = true := by rw [← hr]; simp only [h1, h4, h5, h6, Bool.and_true, Bool.true_and, Bool.false_and, Bool.and_false, Bool.or_true, Bool.true_or, Bool.false_or, Bool.or_false, Bool.not_true, Bool.not_false, if_true, if_false, Bool.false_eq_true, if_pos, if_neg]
          clear hr
          go_enter Tryz.func80, Tryz.ntmps80
          go_wp2_with fail
          go_ret
          exact ⟨rfl, HK0.out⟩
    | true =>
      obtain rfl : r = true := by rw [← hr]; simp only [h1, h4, Bool.and_true, Bool.true_and, Bool.false_and, Bool.and_false, Bool.or_true, Bool.true_or, Bool.false_or, Bool.or_false, Bool.not_true, Bool.not_false, if_true, if_false, Bool.false_eq_true, if_pos, if_neg]
      clear hr
      go_enter Tryz.func80, Tryz.ntmps80
      go_wp2_with fail
      go_ret
      exact ⟨rfl, HK0.out⟩

theorem latch_no (n k v : Int) (w : World) (r : Bool) (hr : latchMayM n k v = r) (hk : k ≠ 1 ∧ k ≠ 8) :
    Calls Tryz.prog 80 #[.int .i64 n, .agg #[.int .i64 k, .int .i64 v]] w fun e w' => e = .returned (.bool r) ∧ Kept (fun _ => False) w w' := by
  obtain ⟨n1, n8⟩ := hk
  obtain rfl : r = false := by rw [← hr]; simp only [latchMayM, if_neg n1, if_neg n8]
  clear hr
  have HK0 : Hid (Kept (fun _ => False) w (w.alloc (.cells #[.int .i64 k, .int .i64 v] 36))) := Lib.hid ((Kept.refl _ w).alloc _)
  have HN0 : Hid (BoxN (w.alloc (.cells #[.int .i64 k, .int .i64 v] 36)) w.heap.size k v) := Lib.hid (BoxN.new w k v)
  go_enter Tryz.func80, Tryz.ntmps80
  go_wp2_with fail
  go_ret
  exact ⟨rfl, HK0.out⟩

theorem latch_any (n k v : Int) (w : World) (r : Bool) (hr : latchMayM n k v = r) :
    Calls Tryz.prog 80 #[.int .i64 n, .agg #[.int .i64 k, .int .i64 v]] w fun e w' => e = .returned (.bool r) ∧ Kept (fun _ => False) w w' := by
  have hc : k = 1 ∨ k = 8 ∨ (k ≠ 1 ∧ k ≠ 8) := by omega
  rcases hc with rfl | rfl | hk
  · exact latch_1 n v w  r hr
  · exact latch_8 n v w  r hr
  · exact latch_no n k v w r hr hk

set_option maxHeartbeats 2000000 in
theorem swap_15 (x : Th) (t v : Int) (s : Option Addr) (c : Nat) (w : World) (r : Bool) (hr : (x.offer == -1 && decide (0 ≤ v) && decide (v ≤ 1000)) = r) :
    Calls Tryz.prog 82 #[x.agg s c, .int .i64 t, .agg #[.int .i64 15, .int .i64 v]] w fun e w' => e = .returned (.bool r) ∧ Kept (fun _ => False) w w' := by
  have HK0 : Hid (Kept (fun _ => False) w ((w.alloc (.cells (x.box s c) 42)).alloc (.cells #[.int .i64 15, .int .i64 v] 36))) := Lib.hid (((Kept.refl _ w).alloc _).alloc _)
  have HT0 : Hid (BoxT ((w.alloc (.cells (x.box s c) 42)).alloc (.cells #[.int .i64 15, .int .i64 v] 36)) w.heap.size x s c) := Lib.hid ((BoxT.new w x s c).kept0 ((Kept.refl _ _).alloc _))
  have HN0 : Hid (BoxN ((w.alloc (.cells (x.box s c) 42)).alloc (.cells #[.int .i64 15, .int .i64 v] 36)) (w.heap.size + 1) 15 v) := Lib.hid (by have := BoxN.new (w.alloc (.cells (x.box s c) 42)) 15 v; rwa [show (w.alloc (.cells (x.box s c) 42)).heap.size = w.heap.size + 1 from by simp] at this)
  cases h1 : (x.offer == -1) with
  | false =>
    obtain rfl : r = false := by rw [← hr]; simp only [h1, Bool.and_true, Bool.true_and, Bool.false_and, Bool.and_false, Bool.or_true, Bool.true_or, Bool.false_or, Bool.or_false, Bool.not_true, Bool.not_false, if_true, if_false, Bool.false_eq_true, if_pos, if_neg]
    clear hr
    go_enter Tryz.func82, Tryz.ntmps82
    go_wp2_with fail
    go_ret
    exact ⟨rfl, HK0.out⟩
  | true =>
    cases h2 : (decide (0 ≤ v)) with
    | false =>
      obtain rfl : r = false := by rw [← hr]; simp only [h1, h2, Bool.and_true, Bool.true_and, Bool.false_and, Bool.and_false, Bool.or_true, Bool.true_or, Bool.false_or, Bool.or_false, Bool.not_true, Bool.not_false, if_true, if_false, Bool.false_eq_true, if_pos, if_neg]
      clear hr
      go_enter Tryz.func82, Tryz.ntmps82
      go_wp2_with fail
      go_ret
      exact ⟨rfl, HK0.out⟩
    | true =>
      cases h3 : (decide (v ≤ 1000)) with
      | false =>
        obtain rfl : r = false := by rw [← hr]; simp only [h1, h2, h3, Bool.and_true, Bool.true_and, Bool.false_and, Bool.and_false, Bool.or_true, Bool.true_or, Bool.false_or, Bool.or_false, Bool.not_true, Bool.not_false, if_true, if_false, Bool.false_eq_true, if_pos, if_neg]
        clear hr
        go_enter Tryz.func82, Tryz.ntmps82
        go_wp2_with fail
        go_ret
        exact ⟨rfl, HK0.out⟩
      | true =>
        obtain rfl : r = true := by rw [← hr]; simp only [h1, h2, h3, Bool.and_true, Bool.true_and, Bool.false_and, Bool.and_false, Bool.or_true, Bool.true_or, Bool.false_or, Bool.or_false, Bool.not_true, Bool.not_false, if_true, if_false, Bool.false_eq_true, if_pos, if_neg]
        clear hr
        go_enter Tryz.func82, Tryz.ntmps82
        go_wp2_with fail
        go_ret
        exact ⟨rfl, HK0.out⟩

set_option maxHeartbeats 2000000 in
theorem swap_14 (x : Th) (t v : Int) (s : Option Addr) (c : Nat) (w : World) (r : Bool) (hr : (x.offer == v && x.offer != -1 && x.offer != t) = r) :
    Calls Tryz.prog 82 #[x.agg s c, .int .i64 t, .agg #[.int .i64 14, .int .i64 v]] w fun e w' => e = .returned (.bool r) ∧ Kept (fun _ => False) w w' := by
  have HK0 : Hid (Kept (fun _ => False) w ((w.alloc (.cells (x.box s c) 42)).alloc (.cells #[.int .i64 14, .int .i64 v] 36))) := Lib.hid (((Kept.refl _ w).alloc _).alloc _)
  have HT0 : Hid (BoxT ((w.alloc (.cells (x.box s c) 42)).alloc (.cells #[.int .i64 14, .int .i64 v] 36)) w.heap.size x s c) := Lib.hid ((BoxT.new w x s c).kept0 ((Kept.refl _ _).alloc _))
  have HN0 : Hid (BoxN ((w.alloc (.cells (x.box s c) 42)).alloc (.cells #[.int .i64 14, .int .i64 v] 36)) (w.heap.size + 1) 14 v) := Lib.hid (by have := BoxN.new (w.alloc (.cells (x.box s c) 42)) 14 v; rwa [show (w.alloc (.cells (x.box s c) 42)).heap.size = w.heap.size + 1 from by simp] at this)
  cases h1 : (x.offer == v) with
  | false =>
    obtain rfl : r = false := by rw [← hr]; simp only [h1, Bool.and_true, Bool.true_and, Bool.false_and, Bool.and_false, Bool.or_true, Bool.true_or, Bool.false_or, Bool.or_false, Bool.not_true, Bool.not_false, if_true, if_false, Bool.false_eq_true, if_pos, if_neg]
    clear hr
    go_enter Tryz.func82, Tryz.ntmps82
    go_wp2_with fail
    go_ret
    exact ⟨rfl, HK0.out⟩
  | true =>
    cases h2 : (x.offer != -1) with
    | false =>
      obtain rfl : r = false := by rw [← hr]; simp only [h1, h2, Bool.and_true, Bool.true_and, Bool.false_and, Bool.and_false, Bool.or_true, Bool.true_or, Bool.false_or, Bool.or_false, Bool.not_true, Bool.not_false, if_true, if_false, Bool.false_eq_true, if_pos, if_neg]
      clear hr
      go_enter Tryz.func82, Tryz.ntmps82
      go_wp2_with fail
      go_ret
      exact ⟨rfl, HK0.out⟩
    | true =>
      cases h3 : (x.offer != t) with
      | false =>
        obtain rfl : r = false := by rw [← hr]; simp only [h1, h2, h3, Bool.and_true, Bool.true_and, Bool.false_and, Bool.and_false, Bool.or_true, Bool.true_or, Bool.false_or, Bool.or_false, Bool.not_true, Bool.not_false, if_true, if_false, Bool.false_eq_true, if_pos, if_neg]
        clear hr
        go_enter Tryz.func82, Tryz.ntmps82
        go_wp2_with fail
        go_ret
        exact ⟨rfl, HK0.out⟩
      | true =>
        obtain rfl : r = true := by rw [← hr]; simp only [h1, h2, h3, Bool.and_true, Bool.true_and, Bool.false_and, Bool.and_false, Bool.or_true, Bool.true_or, Bool.false_or, Bool.or_false, Bool.not_true, Bool.not_false, if_true, if_false, Bool.false_eq_true, if_pos, if_neg]
        clear hr
        go_enter Tryz.func82, Tryz.ntmps82
        go_wp2_with fail
        go_ret
        exact ⟨rfl, HK0.out⟩

set_option maxHeartbeats 2000000 in
theorem swap_16 (x : Th) (t v : Int) (s : Option Addr) (c : Nat) (w : World) (r : Bool) (hr : (v == 0 && x.offer == t) = r) :
    Calls Tryz.prog 82 #[x.agg s c, .int .i64 t, .agg #[.int .i64 16, .int .i64 v]] w fun e w' => e = .returned (.bool r) ∧ Kept (fun _ => False) w w' := by
  have HK0 : Hid (Kept (fun _ => False) w ((w.alloc (.cells (x.box s c) 42)).alloc (.cells #[.int .i64 16, .int .i64 v] 36))) := Lib.hid (((Kept.refl _ w).alloc _).alloc _)
  have HT0 : Hid (BoxT ((w.alloc (.cells (x.box s c) 42)).alloc (.cells #[.int .i64 16, .int .i64 v] 36)) w.heap.size x s c) := Lib.hid ((BoxT.new w x s c).kept0 ((Kept.refl _ _).alloc _))
  have HN0 : Hid (BoxN ((w.alloc (.cells (x.box s c) 42)).alloc (.cells #[.int .i64 16, .int .i64 v] 36)) (w.heap.size + 1) 16 v) := Lib.hid (by have := BoxN.new (w.alloc (.cells (x.box s c) 42)) 16 v; rwa [show (w.alloc (.cells (x.box s c) 42)).heap.size = w.heap.size + 1 from by simp] at this)
  cases h1 : (v == 0) with
  | false =>
    obtain rfl : r = false := by rw [← hr]; simp only [h1, Bool.and_true, Bool.true_and, Bool.false_and, Bool.and_false, Bool.or_true, Bool.true_or, Bool.false_or, Bool.or_false, Bool.not_true, Bool.not_false, if_true, if_false, Bool.false_eq_true, if_pos, if_neg]
    clear hr
    go_enter Tryz.func82, Tryz.ntmps82
    go_wp2_with fail
    go_ret
    exact ⟨rfl, HK0.out⟩
  | true =>
    cases h2 : (x.offer == t) with
    | false =>
      obtain rfl : r = false := by rw [← hr]; simp only [h1, h2, Bool.and_true, Bool.true_and, Bool.false_and, Bool.and_false, Bool.or_true, Bool.true_or, Bool.false_or, Bool.or_false, Bool.not_true, Bool.not_false, if_true, if_false, Bool.false_eq_true, if_pos, if_neg]
      clear hr
      go_enter Tryz.func82, Tryz.ntmps82
      go_wp2_with fail
      go_ret
      exact ⟨rfl, HK0.out⟩
    | true =>
      obtain rfl : r = true := by rw [← hr]; simp only [h1, h2, Bool.and_true, Bool.true_and, Bool.false_and, Bool.and_false, Bool.or_true, Bool.true_or, Bool.false_or, Bool.or_false, Bool.not_true, Bool.not_false, if_true, if_false, Bool.false_eq_true, if_pos, if_neg]
      clear hr
      go_enter Tryz.func82, Tryz.ntmps82
      go_wp2_with fail
      go_ret
      exact ⟨rfl, HK0.out⟩

theorem swap_no (x : Th) (t k v : Int) (s : Option Addr) (c : Nat) (w : World) (r : Bool) (hr : swapMayM x t k v = r) (hk : k ≠ 15 ∧ k ≠ 14 ∧ k ≠ 16) :
    Calls Tryz.prog 82 #[x.agg s c, .int .i64 t, .agg #[.int .i64 k, .int .i64 v]] w fun e w' => e = .returned (.bool r) ∧ Kept (fun _ => False) w w' := by
  obtain ⟨n15, n14, n16⟩ := hk
  obtain rfl : r = false := by rw [← hr]; simp only [swapMayM, if_neg n15, if_neg n14, if_neg n16]
  clear hr
  have HK0 : Hid (Kept (fun _ => False) w ((w.alloc (.cells (x.box s c) 42)).alloc (.cells #[.int .i64 k, .int .i64 v] 36))) := Lib.hid (((Kept.refl _ w).alloc _).alloc _)
  have HT0 : Hid (BoxT ((w.alloc (.cells (x.box s c) 42)).alloc (.cells #[.int .i64 k, .int .i64 v] 36)) w.heap.size x s c) := Lib.hid ((BoxT.new w x s c).kept0 ((Kept.refl _ _).alloc _))
  have HN0 : Hid (BoxN ((w.alloc (.cells (x.box s c) 42)).alloc (.cells #[.int .i64 k, .int .i64 v] 36)) (w.heap.size + 1) k v) := Lib.hid (by have := BoxN.new (w.alloc (.cells (x.box s c) 42)) k v; rwa [show (w.alloc (.cells (x.box s c) 42)).heap.size = w.heap.size + 1 from by simp] at this)
  go_enter Tryz.func82, Tryz.ntmps82
  go_wp2_with fail
  go_ret
  exact ⟨rfl, HK0.out⟩

theorem swap_any (x : Th) (t k v : Int) (s : Option Addr) (c : Nat) (w : World) (r : Bool) (hr : swapMayM x t k v = r) :
    Calls Tryz.prog 82 #[x.agg s c, .int .i64 t, .agg #[.int .i64 k, .int .i64 v]] w fun e w' => e = .returned (.bool r) ∧ Kept (fun _ => False) w w' := by
  have hc : k = 15 ∨ k = 14 ∨ k = 16 ∨ (k ≠ 15 ∧ k ≠ 14 ∧ k ≠ 16) := by omega
  rcases hc with rfl | rfl | rfl | hk
  · exact swap_15 x t v s c w  r hr
  · exact swap_14 x t v s c w  r hr
  · exact swap_16 x t v s c w  r hr
  · exact swap_no x t k v s c w r hr hk

end Go.Proofs.YtbodlaiakcoabaaGreatDoor
