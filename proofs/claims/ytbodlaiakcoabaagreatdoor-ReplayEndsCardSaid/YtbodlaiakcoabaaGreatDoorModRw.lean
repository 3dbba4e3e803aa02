/-
  What package model's test of a RW comes to.
  Conditions: no count is beyond two millions; the thread is 0 to 7.
-/
import Derived.Test.YtbodlaiakcoabaaGreatDoorModLeaf
import Derived.LoopTactic
import Derived.Deep.QuietTactic
import Derived.BigQuiet
import Derived.Outline
namespace Go.Proofs.YtbodlaiakcoabaaGreatDoor
open Go.RowKit
set_option linter.unusedSimpArgs false
set_option linter.unusedVariables false

set_option maxHeartbeats 2000000 in
theorem rw_1 (x : Th) (t : Nat) (ht : t < 8) (v : Int) (s : Option Addr) (c : Nat) (w : World) (hF : Fit x) (r : Bool) (hr : (v == 1 && ((x.owner == -1 && x.sum == 0) || onceM x (t : Int))) = r) :
    Calls Tryz.prog 81 #[x.agg s c, .int .i64 (t : Int), .agg #[.int .i64 1, .int .i64 v]] w fun e w' => e = .returned (.bool r) ∧ Kept (fun _ => False) w w' := by
  have z1 : (t : Int) < 8 := by omega
  have HK0 : Hid (Kept (fun _ => False) w ((w.alloc (.cells (x.box s c) 42)).alloc (.cells #[.int .i64 1, .int .i64 v] 36))) := Lib.hid (((Kept.refl _ w).alloc _).alloc _)
  have HT0 : Hid (BoxT ((w.alloc (.cells (x.box s c) 42)).alloc (.cells #[.int .i64 1, .int .i64 v] 36)) w.heap.size x s c) := Lib.hid ((BoxT.new w x s c).kept0 ((Kept.refl _ _).alloc _))
  have HN0 : Hid (BoxN ((w.alloc (.cells (x.box s c) 42)).alloc (.cells #[.int .i64 1, .int .i64 v] 36)) (w.heap.size + 1) 1 v) := Lib.hid (by have := BoxN.new (w.alloc (.cells (x.box s c) 42)) 1 v; rwa [show (w.alloc (.cells (x.box s c) 42)).heap.size = w.heap.size + 1 from by simp] at this)
  cases h1 : (v == 1) with
  | false =>
    obtain rfl : r = false := by rw [← hr]; simp only [h1, Bool.and_true, Bool.true_and, Bool.false_and, Bool.and_false, Bool.or_true, Bool.true_or, Bool.false_or, Bool.or_false, Bool.not_true, Bool.not_false, if_true, if_false, Bool.false_eq_true, if_pos, if_neg]
    clear hr
    have y0 := HT0.out.read ht
    go_enter Tryz.func81, Tryz.ntmps81
    go_wp2_with fail
    go_ret
    exact ⟨rfl, HK0.out⟩
  | true =>
    cases h2 : (x.owner == -1) with
    | false =>
      cases h3 : (onceM x (t : Int)) with
      | false =>
        obtain rfl : r = false := by rw [← hr]; simp only [h1, h2, h3, Bool.and_true, Bool.true_and, Bool.false_and, Bool.and_false, Bool.or_true, Bool.true_or, Bool.false_or, Bool.or_false, Bool.not_true, Bool.not_false, if_true, if_false, Bool.false_eq_true, if_pos, if_neg]
        clear hr
        have y0 := HT0.out.read ht
        go_enter Tryz.func81, Tryz.ntmps81
        go_wp2_with fail
        refine (once_any x (t : Int) s c _ _ h3).mono ?_
        rintro e w1 ⟨rfl, hk1⟩
        have HK1 := Lib.hid (HK0.out.tr0 hk1)
        have HT1 := Lib.hid (HT0.out.kept0 hk1)
        have HN1 := Lib.hid (HN0.out.kept0 hk1)
        clear hk1
        go_wp2_with fail
        go_ret
        exact ⟨rfl, HK1.out⟩
      | true =>
        obtain rfl : r = true := by rw [← hr]; simp only [h1, h2, h3, Bool.and_true, Bool.true_and, Bool.false_and, Bool.and_false, Bool.or_true, Bool.true_or, Bool.false_or, Bool.or_false, Bool.not_true, Bool.not_false, if_true, if_false, Bool.false_eq_true, if_pos, if_neg]
        clear hr
        have y0 := HT0.out.read ht
        go_enter Tryz.func81, Tryz.ntmps81
        go_wp2_with fail
        refine (once_any x (t : Int) s c _ _ h3).mono ?_
        rintro e w1 ⟨rfl, hk1⟩
        have HK1 := Lib.hid (HK0.out.tr0 hk1)
        have HT1 := Lib.hid (HT0.out.kept0 hk1)
        have HN1 := Lib.hid (HN0.out.kept0 hk1)
        clear hk1
        go_wp2_with fail
        go_ret
        exact ⟨rfl, HK1.out⟩
    | true =>
      cases h4 : (x.sum == 0) with
      | false =>
        cases h5 : (onceM x (t : Int)) with
        | false =>
          obtain rfl : r = false := by rw [← hr]; simp only [h1, h2, h4, h5, Bool.and_true, Bool.true_and, Bool.false_and, Bool.and_false, Bool.or_true, Bool.true_or, Bool.false_or, Bool.or_false, Bool.not_true, Bool.not_false, if_true, if_false, Bool.false_eq_true, if_pos, if_neg]
          have gh4 := (tog_zero x).trans h4
          clear hr
          have y0 := HT0.out.read ht
          go_enter Tryz.func81, Tryz.ntmps81
          go_wp2_with fail
          refine (tog_any x s c _ hF _ rfl).mono ?_
          rintro e w1 ⟨rfl, hk1⟩
          have HK1 := Lib.hid (HK0.out.tr0 hk1)
          have HT1 := Lib.hid (HT0.out.kept0 hk1)
          have HN1 := Lib.hid (HN0.out.kept0 hk1)
          clear hk1
          obtain ⟨_, _, _, _, _, _, _, _, _, _, _, _, _, _, _⟩ := HT1.out.cells
          obtain ⟨_, _⟩ := HN1.out.cells
          go_wp2_with fail
          refine (once_any x (t : Int) s c _ _ h5).mono ?_
          rintro e w2 ⟨rfl, hk2⟩
          have HK2 := Lib.hid (HK1.out.tr0 hk2)
          have HT2 := Lib.hid (HT1.out.kept0 hk2)
          have HN2 := Lib.hid (HN1.out.kept0 hk2)
          clear hk2
          go_wp2_with fail
          go_ret
          exact ⟨rfl, HK2.out⟩
        | true =>
          obtain rfl : r = true := by rw [← hr]; simp only [h1, h2, h4, h5, Bool.and_true, Bool.true_and, Bool.false_and, Bool.and_false, Bool.or_true, Bool.true_or, Bool.false_or, Bool.or_false, Bool.not_true, Bool.not_false, if_true, if_false, Bool.false_eq_true, if_pos, if_neg]
          have gh4 := (tog_zero x).trans h4
          clear hr
          have y0 := HT0.out.read ht
          go_enter Tryz.func81, Tryz.ntmps81
          go_wp2_with fail
          refine (tog_any x s c _ hF _ rfl).mono ?_
          rintro e w1 ⟨rfl, hk1⟩
          have HK1 := Lib.hid (HK0.out.tr0 hk1)
          have HT1 := Lib.hid (HT0.out.kept0 hk1)
          have HN1 := Lib.hid (HN0.out.kept0 hk1)
          clear hk1
          obtain ⟨_, _, _, _, _, _, _, _, _, _, _, _, _, _, _⟩ := HT1.out.cells
          obtain ⟨_, _⟩ := HN1.out.cells
          go_wp2_with fail
          refine (once_any x (t : Int) s c _ _ h5).mono ?_
          rintro e w2 ⟨rfl, hk2⟩
          have HK2 := Lib.hid (HK1.out.tr0 hk2)
          have HT2 := Lib.hid (HT1.out.kept0 hk2)
          have HN2 := Lib.hid (HN1.out.kept0 hk2)
          clear hk2
          go_wp2_with fail
          go_ret
          exact ⟨rfl, HK2.out⟩
      | true =>
        obtain rfl : r = true := by rw [← hr]; simp only [h1, h2, h4, Bool.and_true, Bool.true_and, Bool.false_and, Bool.and_false, Bool.or_true, Bool.true_or, Bool.false_or, Bool.or_false, Bool.not_true, Bool.not_false, if_true, if_false, Bool.false_eq_true, if_pos, if_neg]
        have gh4 := (tog_zero x).trans h4
        clear hr
        have y0 := HT0.out.read ht
        go_enter Tryz.func81, Tryz.ntmps81
        go_wp2_with fail
        refine (tog_any x s c _ hF _ rfl).mono ?_
        rintro e w1 ⟨rfl, hk1⟩
        have HK1 := Lib.hid (HK0.out.tr0 hk1)
        have HT1 := Lib.hid (HT0.out.kept0 hk1)
        have HN1 := Lib.hid (HN0.out.kept0 hk1)
        clear hk1
        go_wp2_with fail
        go_ret
        exact ⟨rfl, HK1.out⟩

set_option maxHeartbeats 2000000 in
theorem rw_3 (x : Th) (t : Nat) (ht : t < 8) (v : Int) (s : Option Addr) (c : Nat) (w : World) (hF : Fit x) (r : Bool) (hr : (v == 0 && x.owner == (t : Int)) = r) :
    Calls Tryz.prog 81 #[x.agg s c, .int .i64 (t : Int), .agg #[.int .i64 3, .int .i64 v]] w fun e w' => e = .returned (.bool r) ∧ Kept (fun _ => False) w w' := by
  have z1 : (t : Int) < 8 := by omega
  have HK0 : Hid (Kept (fun _ => False) w ((w.alloc (.cells (x.box s c) 42)).alloc (.cells #[.int .i64 3, .int .i64 v] 36))) := Lib.hid (((Kept.refl _ w).alloc _).alloc _)
  have HT0 : Hid (BoxT ((w.alloc (.cells (x.box s c) 42)).alloc (.cells #[.int .i64 3, .int .i64 v] 36)) w.heap.size x s c) := Lib.hid ((BoxT.new w x s c).kept0 ((Kept.refl _ _).alloc _))
  have HN0 : Hid (BoxN ((w.alloc (.cells (x.box s c) 42)).alloc (.cells #[.int .i64 3, .int .i64 v] 36)) (w.heap.size + 1) 3 v) := Lib.hid (by have := BoxN.new (w.alloc (.cells (x.box s c) 42)) 3 v; rwa [show (w.alloc (.cells (x.box s c) 42)).heap.size = w.heap.size + 1 from by simp] at this)
  cases h1 : (v == 0) with
  | false =>
    obtain rfl : r = false := by rw [← hr]; simp only [h1, Bool.and_true, Bool.true_and, Bool.false_and, Bool.and_false, Bool.or_true, Bool.true_or, Bool.false_or, Bool.or_false, Bool.not_true, Bool.not_false, if_true, if_false, Bool.false_eq_true, if_pos, if_neg]
    clear hr
    have y0 := HT0.out.read ht
    go_enter Tryz.func81, Tryz.ntmps81
    go_wp2_with fail
    go_ret
    exact ⟨rfl, HK0.out⟩
  | true =>
    cases h2 : (x.owner == (t : Int)) with
    | false =>
      obtain rfl : r = false := by rw [← hr]; simp only [h1, h2, Bool.and_true, Bool.true_and, Bool.false_and, Bool.and_false, Bool.or_true, Bool.true_or, Bool.false_or, Bool.or_false, Bool.not_true, Bool.not_false, if_true, if_false, Bool.false_eq_true, if_pos, if_neg]
      clear hr
      have y0 := HT0.out.read ht
      go_enter Tryz.func81, Tryz.ntmps81
      go_wp2_with fail
      go_ret
      exact ⟨rfl, HK0.out⟩
    | true =>
      obtain rfl : r = true := by rw [← hr]; simp only [h1, h2, Bool.and_true, Bool.true_and, Bool.false_and, Bool.and_false, Bool.or_true, Bool.true_or, Bool.false_or, Bool.or_false, Bool.not_true, Bool.not_false, if_true, if_false, Bool.false_eq_true, if_pos, if_neg]
      clear hr
      have y0 := HT0.out.read ht
      go_enter Tryz.func81, Tryz.ntmps81
      go_wp2_with fail
      go_ret
      exact ⟨rfl, HK0.out⟩

set_option maxHeartbeats 2000000 in
theorem rw_2 (x : Th) (t : Nat) (ht : t < 8) (v : Int) (s : Option Addr) (c : Nat) (w : World) (hF : Fit x) (r : Bool) (hr : (v == 0 && !othersM x (t : Int) && decide (x.sum < 1000)) = r) :
    Calls Tryz.prog 81 #[x.agg s c, .int .i64 (t : Int), .agg #[.int .i64 2, .int .i64 v]] w fun e w' => e = .returned (.bool r) ∧ Kept (fun _ => False) w w' := by
  have z1 : (t : Int) < 8 := by omega
  have HK0 : Hid (Kept (fun _ => False) w ((w.alloc (.cells (x.box s c) 42)).alloc (.cells #[.int .i64 2, .int .i64 v] 36))) := Lib.hid (((Kept.refl _ w).alloc _).alloc _)
  have HT0 : Hid (BoxT ((w.alloc (.cells (x.box s c) 42)).alloc (.cells #[.int .i64 2, .int .i64 v] 36)) w.heap.size x s c) := Lib.hid ((BoxT.new w x s c).kept0 ((Kept.refl _ _).alloc _))
  have HN0 : Hid (BoxN ((w.alloc (.cells (x.box s c) 42)).alloc (.cells #[.int .i64 2, .int .i64 v] 36)) (w.heap.size + 1) 2 v) := Lib.hid (by have := BoxN.new (w.alloc (.cells (x.box s c) 42)) 2 v; rwa [show (w.alloc (.cells (x.box s c) 42)).heap.size = w.heap.size + 1 from by simp] at this)
  cases h1 : (v == 0) with
  | false =>
    obtain rfl : r = false := by rw [← hr]; simp only [h1, Bool.and_true, Bool.true_and, Bool.false_and, Bool.and_false, Bool.or_true, Bool.true_or, Bool.false_or, Bool.or_false, Bool.not_true, Bool.not_false, if_true, if_false, Bool.false_eq_true, if_pos, if_neg]
    clear hr
    have y0 := HT0.out.read ht
    go_enter Tryz.func81, Tryz.ntmps81
    go_wp2_with fail
    go_ret
    exact ⟨rfl, HK0.out⟩
  | true =>
    cases h2 : (othersM x (t : Int)) with
    | false =>
      cases h3 : (decide (x.sum < 1000)) with
      | false =>
        obtain rfl : r = false := by rw [← hr]; simp only [h1, h2, h3, Bool.and_true, Bool.true_and, Bool.false_and, Bool.and_false, Bool.or_true, Bool.true_or, Bool.false_or, Bool.or_false, Bool.not_true, Bool.not_false, if_true, if_false, Bool.false_eq_true, if_pos, if_neg]
        have gh3 := (tog_less x).trans h3
        clear hr
        have y0 := HT0.out.read ht
        go_enter Tryz.func81, Tryz.ntmps81
        go_wp2_with fail
        refine (others_any x (t : Int) s c _ _ h2).mono ?_
        rintro e w1 ⟨rfl, hk1⟩
        have HK1 := Lib.hid (HK0.out.tr0 hk1)
        have HT1 := Lib.hid (HT0.out.kept0 hk1)
        have HN1 := Lib.hid (HN0.out.kept0 hk1)
        clear hk1
        obtain ⟨_, _, _, _, _, _, _, _, _, _, _, _, _, _, _⟩ := HT1.out.cells
        obtain ⟨_, _⟩ := HN1.out.cells
        go_wp2_with fail
        refine (tog_any x s c _ hF _ rfl).mono ?_
        rintro e w2 ⟨rfl, hk2⟩
        have HK2 := Lib.hid (HK1.out.tr0 hk2)
        have HT2 := Lib.hid (HT1.out.kept0 hk2)
        have HN2 := Lib.hid (HN1.out.kept0 hk2)
        clear hk2
        go_wp2_with fail
        go_ret
        exact ⟨rfl, HK2.out⟩
      | true =>
        obtain rfl : r = true := by rw [← hr]; simp only [h1, h2, h3, Bool.and_true, Bool.true_and, Bool.false_and, Bool.and_false, Bool.or_true, Bool.true_or, Bool.false_or, Bool.or_false, Bool.not_true, Bool.not_false, if_true, if_false, Bool.false_eq_true, if_pos, if_neg]
        have gh3 := (tog_less x).trans h3
        clear hr
        have y0 := HT0.out.read ht
        go_enter Tryz.func81, Tryz.ntmps81
        go_wp2_with fail
        refine (others_any x (t : Int) s c _ _ h2).mono ?_
        rintro e w1 ⟨rfl, hk1⟩
        have HK1 := Lib.hid (HK0.out.tr0 hk1)
        have HT1 := Lib.hid (HT0.out.kept0 hk1)
        have HN1 := Lib.hid (HN0.out.kept0 hk1)
        clear hk1
        obtain ⟨_, _, _, _, _, _, _, _, _, _, _, _, _, _, _⟩ := HT1.out.cells
        obtain ⟨_, _⟩ := HN1.out.cells
        go_wp2_with fail
        refine (tog_any x s c _ hF _ rfl).mono ?_
        rintro e w2 ⟨rfl, hk2⟩
        have HK2 := Lib.hid (HK1.out.tr0 hk2)
        have HT2 := Lib.hid (HT1.out.kept0 hk2)
        have HN2 := Lib.hid (HN1.out.kept0 hk2)
        clear hk2
        go_wp2_with fail
        go_ret
        exact ⟨rfl, HK2.out⟩
    | true =>
      obtain rfl : r = false := by rw [← hr]; simp only [h1, h2, Bool.and_true, Bool.true_and, Bool.false_and, Bool.and_false, Bool.or_true, Bool.true_or, Bool.false_or, Bool.or_false, Bool.not_true, Bool.not_false, if_true, if_false, Bool.false_eq_true, if_pos, if_neg]
      clear hr
      have y0 := HT0.out.read ht
      go_enter Tryz.func81, Tryz.ntmps81
      go_wp2_with fail
      refine (others_any x (t : Int) s c _ _ h2).mono ?_
      rintro e w1 ⟨rfl, hk1⟩
      have HK1 := Lib.hid (HK0.out.tr0 hk1)
      have HT1 := Lib.hid (HT0.out.kept0 hk1)
      have HN1 := Lib.hid (HN0.out.kept0 hk1)
      clear hk1
      go_wp2_with fail
      go_ret
      exact ⟨rfl, HK1.out⟩

set_option maxHeartbeats 2000000 in
theorem rw_4 (x : Th) (t : Nat) (ht : t < 8) (v : Int) (s : Option Addr) (c : Nat) (w : World) (hF : Fit x) (r : Bool) (hr : (v == 0 && decide (0 < x.r t)) = r) :
    Calls Tryz.prog 81 #[x.agg s c, .int .i64 (t : Int), .agg #[.int .i64 4, .int .i64 v]] w fun e w' => e = .returned (.bool r) ∧ Kept (fun _ => False) w w' := by
  have z1 : (t : Int) < 8 := by omega
  have HK0 : Hid (Kept (fun _ => False) w ((w.alloc (.cells (x.box s c) 42)).alloc (.cells #[.int .i64 4, .int .i64 v] 36))) := Lib.hid (((Kept.refl _ w).alloc _).alloc _)
  have HT0 : Hid (BoxT ((w.alloc (.cells (x.box s c) 42)).alloc (.cells #[.int .i64 4, .int .i64 v] 36)) w.heap.size x s c) := Lib.hid ((BoxT.new w x s c).kept0 ((Kept.refl _ _).alloc _))
  have HN0 : Hid (BoxN ((w.alloc (.cells (x.box s c) 42)).alloc (.cells #[.int .i64 4, .int .i64 v] 36)) (w.heap.size + 1) 4 v) := Lib.hid (by have := BoxN.new (w.alloc (.cells (x.box s c) 42)) 4 v; rwa [show (w.alloc (.cells (x.box s c) 42)).heap.size = w.heap.size + 1 from by simp] at this)
  cases h1 : (v == 0) with
  | false =>
    obtain rfl : r = false := by rw [← hr]; simp only [h1, Bool.and_true, Bool.true_and, Bool.false_and, Bool.and_false, Bool.or_true, Bool.true_or, Bool.false_or, Bool.or_false, Bool.not_true, Bool.not_false, if_true, if_false, Bool.false_eq_true, if_pos, if_neg]
    clear hr
    have y0 := HT0.out.read ht
    go_enter Tryz.func81, Tryz.ntmps81
    go_wp2_with fail
    go_ret
    exact ⟨rfl, HK0.out⟩
  | true =>
    cases h2 : (decide (0 < x.r t)) with
    | false =>
      obtain rfl : r = false := by rw [← hr]; simp only [h1, h2, Bool.and_true, Bool.true_and, Bool.false_and, Bool.and_false, Bool.or_true, Bool.true_or, Bool.false_or, Bool.or_false, Bool.not_true, Bool.not_false, if_true, if_false, Bool.false_eq_true, if_pos, if_neg]
      clear hr
      have y0 := HT0.out.read ht
      go_enter Tryz.func81, Tryz.ntmps81
      go_wp2_with fail
      go_ret
      exact ⟨rfl, HK0.out⟩
    | true =>
      obtain rfl : r = true := by rw [← hr]; simp only [h1, h2, Bool.and_true, Bool.true_and, Bool.false_and, Bool.and_false, Bool.or_true, Bool.true_or, Bool.false_or, Bool.or_false, Bool.not_true, Bool.not_false, if_true, if_false, Bool.false_eq_true, if_pos, if_neg]
      clear hr
      have y0 := HT0.out.read ht
      go_enter Tryz.func81, Tryz.ntmps81
      go_wp2_with fail
      go_ret
      exact ⟨rfl, HK0.out⟩

set_option maxHeartbeats 2000000 in
theorem rw_5 (x : Th) (t : Nat) (ht : t < 8) (v : Int) (s : Option Addr) (c : Nat) (w : World) (hF : Fit x) (r : Bool) (hr : ((v == 0 && (othersM x (t : Int) || (x.owner == -1 && decide (0 < x.sum)))) || (v == 1 && othersM x (t : Int))) = r) :
    Calls Tryz.prog 81 #[x.agg s c, .int .i64 (t : Int), .agg #[.int .i64 5, .int .i64 v]] w fun e w' => e = .returned (.bool r) ∧ Kept (fun _ => False) w w' := by
  have z1 : (t : Int) < 8 := by omega
  have HK0 : Hid (Kept (fun _ => False) w ((w.alloc (.cells (x.box s c) 42)).alloc (.cells #[.int .i64 5, .int .i64 v] 36))) := Lib.hid (((Kept.refl _ w).alloc _).alloc _)
  have HT0 : Hid (BoxT ((w.alloc (.cells (x.box s c) 42)).alloc (.cells #[.int .i64 5, .int .i64 v] 36)) w.heap.size x s c) := Lib.hid ((BoxT.new w x s c).kept0 ((Kept.refl _ _).alloc _))
  have HN0 : Hid (BoxN ((w.alloc (.cells (x.box s c) 42)).alloc (.cells #[.int .i64 5, .int .i64 v] 36)) (w.heap.size + 1) 5 v) := Lib.hid (by have := BoxN.new (w.alloc (.cells (x.box s c) 42)) 5 v; rwa [show (w.alloc (.cells (x.box s c) 42)).heap.size = w.heap.size + 1 from by simp] at this)
  cases h1 : (v == 0) with
  | false =>
    cases h2 : (v == 1) with
    | false =>
      obtain rfl : r = false := by rw [← hr]; simp only [h1, h2, Bool.and_true, Bool.true_and, Bool.false_and, Bool.and_false, Bool.or_true, Bool.true_or, Bool.false_or, Bool.or_false, Bool.not_true, Bool.not_false, if_true, if_false, Bool.false_eq_true, if_pos, if_neg]
      clear hr
      have y0 := HT0.out.read ht
      go_enter Tryz.func81, Tryz.ntmps81
      go_wp2_with fail
      go_ret
      exact ⟨rfl, HK0.out⟩
    | true =>
      cases h3 : (othersM x (t : Int)) with
      | false =>
        obtain rfl : r = false := by rw [← hr]; simp only [h1, h2, h3, Bool.and_true, Bool.true_and, Bool.false_and, Bool.and_false, Bool.or_true, Bool.true_or, Bool.false_or, Bool.or_false, Bool.not_true, Bool.not_false, if_true, if_false, Bool.false_eq_true, if_pos, if_neg]
        clear hr
        have y0 := HT0.out.read ht
        go_enter Tryz.func81, Tryz.ntmps81
        go_wp2_with fail
        refine (others_any x (t : Int) s c _ _ h3).mono ?_
        rintro e w1 ⟨rfl, hk1⟩
        have HK1 := Lib.hid (HK0.out.tr0 hk1)
        have HT1 := Lib.hid (HT0.out.kept0 hk1)
        have HN1 := Lib.hid (HN0.out.kept0 hk1)
        clear hk1
        go_wp2_with fail
        go_ret
        exact ⟨rfl, HK1.out⟩
      | true =>
        obtain rfl : r = true := by rw [← hr]; simp only [h1, h2, h3, Bool.and_true, Bool.true_and, Bool.false_and, Bool.and_false, Bool.or_true, Bool.true_or, Bool.false_or, Bool.or_false, Bool.not_true, Bool.not_false, if_true, if_false, Bool.false_eq_true, if_pos, if_neg]
        clear hr
        have y0 := HT0.out.read ht
        go_enter Tryz.func81, Tryz.ntmps81
        go_wp2_with fail
        refine (others_any x (t : Int) s c _ _ h3).mono ?_
        rintro e w1 ⟨rfl, hk1⟩
        have HK1 := Lib.hid (HK0.out.tr0 hk1)
        have HT1 := Lib.hid (HT0.out.kept0 hk1)
        have HN1 := Lib.hid (HN0.out.kept0 hk1)
        clear hk1
        go_wp2_with fail
        go_ret
        exact ⟨rfl, HK1.out⟩
  | true =>
    cases h4 : (othersM x (t : Int)) with
    | false =>
      cases h5 : (x.owner == -1) with
      | false =>
        cases h6 : (v == 1) with
        | false =>
          obtain rfl : r = false := by rw [← hr]; simp only [h1, h4, h5, h6, Bool.and_true, Bool.true_and, Bool.false_and, Bool.and_false, Bool.or_true, Bool.true_or, Bool.false_or, Bool.or_false, Bool.not_true, Bool.not_false, if_true, if_false, Bool.false_eq_true, if_pos, if_neg]
          clear hr
          have y0 := HT0.out.read ht
          go_enter Tryz.func81, Tryz.ntmps81
          go_wp2_with fail
          refine (others_any x (t : Int) s c _ _ h4).mono ?_
          rintro e w1 ⟨rfl, hk1⟩
          have HK1 := Lib.hid (HK0.out.tr0 hk1)
          have HT1 := Lib.hid (HT0.out.kept0 hk1)
          have HN1 := Lib.hid (HN0.out.kept0 hk1)
          clear hk1
          obtain ⟨_, _, _, _, _, _, _, _, _, _, _, _, _, _, _⟩ := HT1.out.cells
          obtain ⟨_, _⟩ := HN1.out.cells
          go_wp2_with fail
          go_ret
          exact ⟨rfl, HK1.out⟩
        | true =>
          obtain rfl : r = false := by rw [← hr]; simp only [h1, h4, h5, h6, h4, Bool.and_true, Bool.true_and, Bool.false_and, Bool.and_false, Bool.or_true, Bool.true_or, Bool.false_or, Bool.or_false, Bool.not_true, Bool.not_false, if_true, if_false, Bool.false_eq_true, if_pos, if_neg]
          clear hr
          have y0 := HT0.out.read ht
          go_enter Tryz.func81, Tryz.ntmps81
          go_wp2_with fail
          refine (others_any x (t : Int) s c _ _ h4).mono ?_
          rintro e w1 ⟨rfl, hk1⟩
          have HK1 := Lib.hid (HK0.out.tr0 hk1)
          have HT1 := Lib.hid (HT0.out.kept0 hk1)
          have HN1 := Lib.hid (HN0.out.kept0 hk1)
          clear hk1
          obtain ⟨_, _, _, _, _, _, _, _, _, _, _, _, _, _, _⟩ := HT1.out.cells
          obtain ⟨_, _⟩ := HN1.out.cells
          go_wp2_with fail
          refine (others_any x (t : Int) s c _ _ h4).mono ?_
          rintro e w2 ⟨rfl, hk2⟩
          have HK2 := Lib.hid (HK1.out.tr0 hk2)
          have HT2 := Lib.hid (HT1.out.kept0 hk2)
          have HN2 := Lib.hid (HN1.out.kept0 hk2)
          clear hk2
          go_wp2_with fail
          go_ret
          exact ⟨rfl, HK2.out⟩
      | true =>
        cases h8 : (decide (0 < x.sum)) with
        | false =>
          cases h9 : (v == 1) with
          | false =>
            obtain rfl : r = false := by rw [← hr]; simp only [h1, h4, h5, h8, h9, Bool.and_true, Bool.true_and, Bool.false_and, Bool.and_false, Bool.or_true, Bool.true_or, Bool.false_or, Bool.or_false, Bool.not_true, Bool.not_false, if_true, if_false, Bool.false_eq_true, if_pos, if_neg]
            have gh8 := (tog_pos x).trans h8
            clear hr
            have y0 := HT0.out.read ht
            go_enter Tryz.func81, Tryz.ntmps81
            go_wp2_with fail
            refine (others_any x (t : Int) s c _ _ h4).mono ?_
            rintro e w1 ⟨rfl, hk1⟩
            have HK1 := Lib.hid (HK0.out.tr0 hk1)
            have HT1 := Lib.hid (HT0.out.kept0 hk1)
            have HN1 := Lib.hid (HN0.out.kept0 hk1)
            clear hk1
            obtain ⟨_, _, _, _, _, _, _, _, _, _, _, _, _, _, _⟩ := HT1.out.cells
            obtain ⟨_, _⟩ := HN1.out.cells
            go_wp2_with fail
            refine (tog_any x s c _ hF _ rfl).mono ?_
            rintro e w2 ⟨rfl, hk2⟩
            have HK2 := Lib.hid (HK1.out.tr0 hk2)
            have HT2 := Lib.hid (HT1.out.kept0 hk2)
            have HN2 := Lib.hid (HN1.out.kept0 hk2)
            clear hk2
            obtain ⟨_, _, _, _, _, _, _, _, _, _, _, _, _, _, _⟩ := HT2.out.cells
            obtain ⟨_, _⟩ := HN2.out.cells
            go_wp2_with fail
            go_ret
            exact ⟨rfl, HK2.out⟩
          | true =>
            obtain rfl : r = false := by rw [← hr]; simp only [h1, h4, h5, h8, h9, h4, Bool.and_true, Bool.true_and, Bool.false_and, Bool.and_false, Bool.or_true, Bool.true_or, Bool.false_or, Bool.or_false, Bool.not_true, Bool.not_false, if_true, if_false, Bool.false_eq_true, if_pos, if_neg]
            have gh8 := (tog_pos x).trans h8
            clear hr
            have y0 := HT0.out.read ht
            go_enter Tryz.func81, Tryz.ntmps81
            go_wp2_with fail
            refine (others_any x (t : Int) s c _ _ h4).mono ?_
            rintro e w1 ⟨rfl, hk1⟩
            have HK1 := Lib.hid (HK0.out.tr0 hk1)
            have HT1 := Lib.hid (HT0.out.kept0 hk1)
            have HN1 := Lib.hid (HN0.out.kept0 hk1)
            clear hk1
            obtain ⟨_, _, _, _, _, _, _, _, _, _, _, _, _, _, _⟩ := HT1.out.cells
            obtain ⟨_, _⟩ := HN1.out.cells
            go_wp2_with fail
            refine (tog_any x s c _ hF _ rfl).mono ?_
            rintro e w2 ⟨rfl, hk2⟩
            have HK2 := Lib.hid (HK1.out.tr0 hk2)
            have HT2 := Lib.hid (HT1.out.kept0 hk2)
            have HN2 := Lib.hid (HN1.out.kept0 hk2)
            clear hk2
            obtain ⟨_, _, _, _, _, _, _, _, _, _, _, _, _, _, _⟩ := HT2.out.cells
            obtain ⟨_, _⟩ := HN2.out.cells
            go_wp2_with fail
            refine (others_any x (t : Int) s c _ _ h4).mono ?_
            rintro e w3 ⟨rfl, hk3⟩
            have HK3 := Lib.hid (HK2.out.tr0 hk3)
            have HT3 := Lib.hid (HT2.out.kept0 hk3)
            have HN3 := Lib.hid (HN2.out.kept0 hk3)
            clear hk3
            go_wp2_with fail
            go_ret
            exact ⟨rfl, HK3.out⟩
        | true =>
          obtain rfl : r = true := by rw [← hr]; simp only [h1, h4, h5, h8, Bool.and_true, Bool.true_and, Bool.false_and, Bool.and_false, Bool.or_true, Bool.true_or, Bool.false_or, Bool.or_false, Bool.not_true, Bool.not_false, if_true, if_false, Bool.false_eq_true, if_pos, if_neg]
          have gh8 := (tog_pos x).trans h8
          clear hr
          have y0 := HT0.out.read ht
          go_enter Tryz.func81, Tryz.ntmps81
          go_wp2_with fail
          refine (others_any x (t : Int) s c _ _ h4).mono ?_
          rintro e w1 ⟨rfl, hk1⟩
          have HK1 := Lib.hid (HK0.out.tr0 hk1)
          have HT1 := Lib.hid (HT0.out.kept0 hk1)
          have HN1 := Lib.hid (HN0.out.kept0 hk1)
          clear hk1
          obtain ⟨_, _, _, _, _, _, _, _, _, _, _, _, _, _, _⟩ := HT1.out.cells
          obtain ⟨_, _⟩ := HN1.out.cells
          go_wp2_with fail
          refine (tog_any x s c _ hF _ rfl).mono ?_
          rintro e w2 ⟨rfl, hk2⟩
          have HK2 := Lib.hid (HK1.out.tr0 hk2)
          have HT2 := Lib.hid (HT1.out.kept0 hk2)
          have HN2 := Lib.hid (HN1.out.kept0 hk2)
          clear hk2
          go_wp2_with fail
          go_ret
          exact ⟨rfl, HK2.out⟩
    | true =>
      obtain rfl : r = true := by rw [← hr]; simp only [h1, h4, Bool.and_true, Bool.true_and, Bool.false_and, Bool.and_false, Bool.or_true, Bool.true_or, Bool.false_or, Bool.or_false, Bool.not_true, Bool.not_false, if_true, if_false, Bool.false_eq_true, if_pos, if_neg]
      clear hr
      have y0 := HT0.out.read ht
      go_enter Tryz.func81, Tryz.ntmps81
      go_wp2_with fail
      refine (others_any x (t : Int) s c _ _ h4).mono ?_
      rintro e w1 ⟨rfl, hk1⟩
      have HK1 := Lib.hid (HK0.out.tr0 hk1)
      have HT1 := Lib.hid (HT0.out.kept0 hk1)
      have HN1 := Lib.hid (HN0.out.kept0 hk1)
      clear hk1
      go_wp2_with fail
      go_ret
      exact ⟨rfl, HK1.out⟩

set_option maxHeartbeats 2000000 in
theorem rw_6 (x : Th) (t : Nat) (ht : t < 8) (v : Int) (s : Option Addr) (c : Nat) (w : World) (hF : Fit x) (r : Bool) (hr : ((v == 0 && x.owner != (t : Int)) || (v == 1 && x.r t == 0)) = r) :
    Calls Tryz.prog 81 #[x.agg s c, .int .i64 (t : Int), .agg #[.int .i64 6, .int .i64 v]] w fun e w' => e = .returned (.bool r) ∧ Kept (fun _ => False) w w' := by
  have z1 : (t : Int) < 8 := by omega
  have HK0 : Hid (Kept (fun _ => False) w ((w.alloc (.cells (x.box s c) 42)).alloc (.cells #[.int .i64 6, .int .i64 v] 36))) := Lib.hid (((Kept.refl _ w).alloc _).alloc _)
  have HT0 : Hid (BoxT ((w.alloc (.cells (x.box s c) 42)).alloc (.cells #[.int .i64 6, .int .i64 v] 36)) w.heap.size x s c) := Lib.hid ((BoxT.new w x s c).kept0 ((Kept.refl _ _).alloc _))
  have HN0 : Hid (BoxN ((w.alloc (.cells (x.box s c) 42)).alloc (.cells #[.int .i64 6, .int .i64 v] 36)) (w.heap.size + 1) 6 v) := Lib.hid (by have := BoxN.new (w.alloc (.cells (x.box s c) 42)) 6 v; rwa [show (w.alloc (.cells (x.box s c) 42)).heap.size = w.heap.size + 1 from by simp] at this)
  cases h1 : (v == 0) with
  | false =>
    cases h2 : (v == 1) with
    | false =>
      obtain rfl : r = false := by rw [← hr]; simp only [h1, h2, Bool.and_true, Bool.true_and, Bool.false_and, Bool.and_false, Bool.or_true, Bool.true_or, Bool.false_or, Bool.or_false, Bool.not_true, Bool.not_false, if_true, if_false, Bool.false_eq_true, if_pos, if_neg]
      clear hr
      have y0 := HT0.out.read ht
      go_enter Tryz.func81, Tryz.ntmps81
      go_wp2_with fail
      go_ret
      exact ⟨rfl, HK0.out⟩
    | true =>
      cases h3 : (x.r t == 0) with
      | false =>
        obtain rfl : r = false := by rw [← hr]; simp only [h1, h2, h3, Bool.and_true, Bool.true_and, Bool.false_and, Bool.and_false, Bool.or_true, Bool.true_or, Bool.false_or, Bool.or_false, Bool.not_true, Bool.not_false, if_true, if_false, Bool.false_eq_true, if_pos, if_neg]
        clear hr
        have y0 := HT0.out.read ht
        go_enter Tryz.func81, Tryz.ntmps81
        go_wp2_with fail
        go_ret
        exact ⟨rfl, HK0.out⟩
      | true =>
        obtain rfl : r = true := by rw [← hr]; simp only [h1, h2, h3, Bool.and_true, Bool.true_and, Bool.false_and, Bool.and_false, Bool.or_true, Bool.true_or, Bool.false_or, Bool.or_false, Bool.not_true, Bool.not_false, if_true, if_false, Bool.false_eq_true, if_pos, if_neg]
        clear hr
        have y0 := HT0.out.read ht
        go_enter Tryz.func81, Tryz.ntmps81
        go_wp2_with fail
        go_ret
        exact ⟨rfl, HK0.out⟩
  | true =>
    cases h4 : (x.owner != (t : Int)) with
    | false =>
      cases h5 : (v == 1) with
      | false =>
        obtain rfl : r = false := by rw [← hr]; simp only [h1, h4, h5, Bool.and_true, Bool.true_and, Bool.false_and, Bool.and_false, Bool.or_true, Bool.true_or, Bool.false_or, Bool.or_false, Bool.not_true, Bool.not_false, if_true, if_false, Bool.false_eq_true, if_pos, if_neg]
        clear hr
        have y0 := HT0.out.read ht
        go_enter Tryz.func81, Tryz.ntmps81
        go_wp2_with fail
        go_ret
        exact ⟨rfl, HK0.out⟩
      | true =>
        cases h6 : (x.r t == 0) with
        | false =>
          obtain rfl : r = false := by rw [← hr]; simp only [h1, h4, h5, h6, Bool.and_true, Bool.true_and, Bool.false_and, Bool.and_false, Bool.or_true, Bool.true_or, Bool.false_or, Bool.or_false, Bool.not_true, Bool.not_false, if_true, if_false, Bool.false_eq_true, if_pos, if_neg]
          clear hr
          have y0 := HT0.out.read ht
          go_enter Tryz.func81, Tryz.ntmps81
          go_wp2_with fail
          go_ret
          exact ⟨rfl, HK0.out⟩
        | true =>
          obtain rfl : r = true := by rw [← hr]; simp only [h1, h4, h5, h6, Bool.and_true, Bool.true_and, Bool.false_and, Bool.and_false, Bool.or_true, Bool.true_or, Bool.false_or, Bool.or_false, Bool.not_true, Bool.not_false, if_true, if_false, Bool.false_eq_true, if_pos, if_neg]
          clear hr
          have y0 := HT0.out.read ht
          go_enter Tryz.func81, Tryz.ntmps81
          go_wp2_with fail
          go_ret
          exact ⟨rfl, HK0.out⟩
    | true =>
      obtain rfl : r = true := by rw [← hr]; simp only [h1, h4, Bool.and_true, Bool.true_and, Bool.false_and, Bool.and_false, Bool.or_true, Bool.true_or, Bool.false_or, Bool.or_false, Bool.not_true, Bool.not_false, if_true, if_false, Bool.false_eq_true, if_pos, if_neg]
      clear hr
      have y0 := HT0.out.read ht
      go_enter Tryz.func81, Tryz.ntmps81
      go_wp2_with fail
      go_ret
      exact ⟨rfl, HK0.out⟩

set_option maxHeartbeats 2000000 in
theorem rw_7 (x : Th) (t : Nat) (ht : t < 8) (v : Int) (s : Option Addr) (c : Nat) (w : World) (hF : Fit x) (r : Bool) (hr : ((v == 0 && outM x (t : Int)) || (v == 1 && x.sum == 1000)) = r) :
    Calls Tryz.prog 81 #[x.agg s c, .int .i64 (t : Int), .agg #[.int .i64 7, .int .i64 v]] w fun e w' => e = .returned (.bool r) ∧ Kept (fun _ => False) w w' := by
  have z1 : (t : Int) < 8 := by omega
  have HK0 : Hid (Kept (fun _ => False) w ((w.alloc (.cells (x.box s c) 42)).alloc (.cells #[.int .i64 7, .int .i64 v] 36))) := Lib.hid (((Kept.refl _ w).alloc _).alloc _)
  have HT0 : Hid (BoxT ((w.alloc (.cells (x.box s c) 42)).alloc (.cells #[.int .i64 7, .int .i64 v] 36)) w.heap.size x s c) := Lib.hid ((BoxT.new w x s c).kept0 ((Kept.refl _ _).alloc _))
  have HN0 : Hid (BoxN ((w.alloc (.cells (x.box s c) 42)).alloc (.cells #[.int .i64 7, .int .i64 v] 36)) (w.heap.size + 1) 7 v) := Lib.hid (by have := BoxN.new (w.alloc (.cells (x.box s c) 42)) 7 v; rwa [show (w.alloc (.cells (x.box s c) 42)).heap.size = w.heap.size + 1 from by simp] at this)
  cases h1 : (v == 0) with
  | false =>
    cases h2 : (v == 1) with
    | false =>
      obtain rfl : r = false := by rw [← hr]; simp only [h1, h2, Bool.and_true, Bool.true_and, Bool.false_and, Bool.and_false, Bool.or_true, Bool.true_or, Bool.false_or, Bool.or_false, Bool.not_true, Bool.not_false, if_true, if_false, Bool.false_eq_true, if_pos, if_neg]
      clear hr
      have y0 := HT0.out.read ht
      go_enter Tryz.func81, Tryz.ntmps81
      go_wp2_with fail
      go_ret
      exact ⟨rfl, HK0.out⟩
    | true =>
      cases h3 : (x.sum == 1000) with
      | false =>
        obtain rfl : r = false := by rw [← hr]; simp only [h1, h2, h3, Bool.and_true, Bool.true_and, Bool.false_and, Bool.and_false, Bool.or_true, Bool.true_or, Bool.false_or, Bool.or_false, Bool.not_true, Bool.not_false, if_true, if_false, Bool.false_eq_true, if_pos, if_neg]
        have gh3 := (tog_full x).trans h3
        clear hr
        have y0 := HT0.out.read ht
        go_enter Tryz.func81, Tryz.ntmps81
        go_wp2_with fail
        refine (tog_any x s c _ hF _ rfl).mono ?_
        rintro e w1 ⟨rfl, hk1⟩
        have HK1 := Lib.hid (HK0.out.tr0 hk1)
        have HT1 := Lib.hid (HT0.out.kept0 hk1)
        have HN1 := Lib.hid (HN0.out.kept0 hk1)
        clear hk1
        go_wp2_with fail
        go_ret
        exact ⟨rfl, HK1.out⟩
      | true =>
        obtain rfl : r = true := by rw [← hr]; simp only [h1, h2, h3, Bool.and_true, Bool.true_and, Bool.false_and, Bool.and_false, Bool.or_true, Bool.true_or, Bool.false_or, Bool.or_false, Bool.not_true, Bool.not_false, if_true, if_false, Bool.false_eq_true, if_pos, if_neg]
        have gh3 := (tog_full x).trans h3
        clear hr
        have y0 := HT0.out.read ht
        go_enter Tryz.func81, Tryz.ntmps81
        go_wp2_with fail
        refine (tog_any x s c _ hF _ rfl).mono ?_
        rintro e w1 ⟨rfl, hk1⟩
        have HK1 := Lib.hid (HK0.out.tr0 hk1)
        have HT1 := Lib.hid (HT0.out.kept0 hk1)
        have HN1 := Lib.hid (HN0.out.kept0 hk1)
        clear hk1
        go_wp2_with fail
        go_ret
        exact ⟨rfl, HK1.out⟩
  | true =>
    cases h4 : (outM x (t : Int)) with
    | false =>
      cases h5 : (v == 1) with
      | false =>
        obtain rfl : r = false := by rw [← hr]; simp only [h1, h4, h5, Bool.and_true, Bool.true_and, Bool.false_and, Bool.and_false, Bool.or_true, Bool.true_or, Bool.false_or, Bool.or_false, Bool.not_true, Bool.not_false, if_true, if_false, Bool.false_eq_true, if_pos, if_neg]
        clear hr
        have y0 := HT0.out.read ht
        go_enter Tryz.func81, Tryz.ntmps81
        go_wp2_with fail
        refine (out_any x (t : Int) s c _ _ h4).mono ?_
        rintro e w1 ⟨rfl, hk1⟩
        have HK1 := Lib.hid (HK0.out.tr0 hk1)
        have HT1 := Lib.hid (HT0.out.kept0 hk1)
        have HN1 := Lib.hid (HN0.out.kept0 hk1)
        clear hk1
        obtain ⟨_, _, _, _, _, _, _, _, _, _, _, _, _, _, _⟩ := HT1.out.cells
        obtain ⟨_, _⟩ := HN1.out.cells
        go_wp2_with fail
        go_ret
        exact ⟨rfl, HK1.out⟩
      | true =>
        cases h6 : (x.sum == 1000) with
        | false =>
          obtain rfl : r = false := by rw [← hr]; simp only [h1, h4, h5, h6, Bool.and_true, Bool.true_and, Bool.false_and, Bool.and_false, Bool.or_true, Bool.true_or, Bool.false_or, Bool.or_false, Bool.not_true, Bool.not_false, if_true, if_false, Bool.false_eq_true, if_pos, if_neg]
          have gh6 := (tog_full x).trans h6
          clear hr
          have y0 := HT0.out.read ht
          go_enter Tryz.func81, Tryz.ntmps81
          go_wp2_with fail
          refine (out_any x (t : Int) s c _ _ h4).mono ?_
          rintro e w1 ⟨rfl, hk1⟩
          have HK1 := Lib.hid (HK0.out.tr0 hk1)
          have HT1 := Lib.hid (HT0.out.kept0 hk1)
          have HN1 := Lib.hid (HN0.out.kept0 hk1)
          clear hk1
          obtain ⟨_, _, _, _, _, _, _, _, _, _, _, _, _, _, _⟩ := HT1.out.cells
          obtain ⟨_, _⟩ := HN1.out.cells
          go_wp2_with fail
          refine (tog_any x s c _ hF _ rfl).mono ?_
          rintro e w2 ⟨rfl, hk2⟩
          have HK2 := Lib.hid (HK1.out.tr0 hk2)
          have HT2 := Lib.hid (HT1.out.kept0 hk2)
          have HN2 := Lib.hid (HN1.out.kept0 hk2)
          clear hk2
          go_wp2_with fail
          go_ret
          exact ⟨rfl, HK2.out⟩
        | true =>
          obtain rfl : r = true := by rw [← hr]; simp only [h1, h4, h5, h6, Bool.and_true, Bool.true_and, Bool.false_and, Bool.and_false, Bool.or_true, Bool.true_or, Bool.false_or, Bool.or_false, Bool.not_true, Bool.not_false, if_true, if_false, Bool.false_eq_true, if_pos, if_neg]
          have gh6 := (tog_full x).trans h6
          clear hr
          have y0 := HT0.out.read ht
          go_enter Tryz.func81, Tryz.ntmps81
          go_wp2_with fail
          refine (out_any x (t : Int) s c _ _ h4).mono ?_
          rintro e w1 ⟨rfl, hk1⟩
          have HK1 := Lib.hid (HK0.out.tr0 hk1)
          have HT1 := Lib.hid (HT0.out.kept0 hk1)
          have HN1 := Lib.hid (HN0.out.kept0 hk1)
          clear hk1
          obtain ⟨_, _, _, _, _, _, _, _, _, _, _, _, _, _, _⟩ := HT1.out.cells
          obtain ⟨_, _⟩ := HN1.out.cells
          go_wp2_with fail
          refine (tog_any x s c _ hF _ rfl).mono ?_
          rintro e w2 ⟨rfl, hk2⟩
          have HK2 := Lib.hid (HK1.out.tr0 hk2)
          have HT2 := Lib.hid (HT1.out.kept0 hk2)
          have HN2 := Lib.hid (HN1.out.kept0 hk2)
          clear hk2
          go_wp2_with fail
          go_ret
          exact ⟨rfl, HK2.out⟩
    | true =>
      obtain rfl : r = true := by rw [← hr]; simp only [h1, h4, Bool.and_true, Bool.true_and, Bool.false_and, Bool.and_false, Bool.or_true, Bool.true_or, Bool.false_or, Bool.or_false, Bool.not_true, Bool.not_false, if_true, if_false, Bool.false_eq_true, if_pos, if_neg]
      clear hr
      have y0 := HT0.out.read ht
      go_enter Tryz.func81, Tryz.ntmps81
      go_wp2_with fail
      refine (out_any x (t : Int) s c _ _ h4).mono ?_
      rintro e w1 ⟨rfl, hk1⟩
      have HK1 := Lib.hid (HK0.out.tr0 hk1)
      have HT1 := Lib.hid (HT0.out.kept0 hk1)
      have HN1 := Lib.hid (HN0.out.kept0 hk1)
      clear hk1
      go_wp2_with fail
      go_ret
      exact ⟨rfl, HK1.out⟩

theorem rw_no (x : Th) (t : Nat) (ht : t < 8) (k v : Int) (s : Option Addr) (c : Nat) (w : World) (r : Bool) (hr : rwMayM x (t : Int) k v = r) (hk : k ≠ 1 ∧ k ≠ 3 ∧ k ≠ 2 ∧ k ≠ 4 ∧ k ≠ 5 ∧ k ≠ 6 ∧ k ≠ 7) :
    Calls Tryz.prog 81 #[x.agg s c, .int .i64 (t : Int), .agg #[.int .i64 k, .int .i64 v]] w fun e w' => e = .returned (.bool r) ∧ Kept (fun _ => False) w w' := by
  obtain ⟨n1, n3, n2, n4, n5, n6, n7⟩ := hk
  obtain rfl : r = false := by rw [← hr]; simp only [rwMayM, if_neg n1, if_neg n3, if_neg n2, if_neg n4, if_neg n5, if_neg n6, if_neg n7]
  clear hr
  have HK0 : Hid (Kept (fun _ => False) w ((w.alloc (.cells (x.box s c) 42)).alloc (.cells #[.int .i64 k, .int .i64 v] 36))) := Lib.hid (((Kept.refl _ w).alloc _).alloc _)
  have HT0 : Hid (BoxT ((w.alloc (.cells (x.box s c) 42)).alloc (.cells #[.int .i64 k, .int .i64 v] 36)) w.heap.size x s c) := Lib.hid ((BoxT.new w x s c).kept0 ((Kept.refl _ _).alloc _))
  have HN0 : Hid (BoxN ((w.alloc (.cells (x.box s c) 42)).alloc (.cells #[.int .i64 k, .int .i64 v] 36)) (w.heap.size + 1) k v) := Lib.hid (by have := BoxN.new (w.alloc (.cells (x.box s c) 42)) k v; rwa [show (w.alloc (.cells (x.box s c) 42)).heap.size = w.heap.size + 1 from by simp] at this)
  have y0 := HT0.out.read ht
  go_enter Tryz.func81, Tryz.ntmps81
  go_wp2_with fail
  go_ret
  exact ⟨rfl, HK0.out⟩

theorem rw_any (x : Th) (t : Nat) (ht : t < 8) (k v : Int) (s : Option Addr) (c : Nat) (w : World) (hF : Fit x) (r : Bool) (hr : rwMayM x (t : Int) k v = r) :
    Calls Tryz.prog 81 #[x.agg s c, .int .i64 (t : Int), .agg #[.int .i64 k, .int .i64 v]] w fun e w' => e = .returned (.bool r) ∧ Kept (fun _ => False) w w' := by
  have hc : k = 1 ∨ k = 3 ∨ k = 2 ∨ k = 4 ∨ k = 5 ∨ k = 6 ∨ k = 7 ∨ (k ≠ 1 ∧ k ≠ 3 ∧ k ≠ 2 ∧ k ≠ 4 ∧ k ≠ 5 ∧ k ≠ 6 ∧ k ≠ 7) := by omega
  rcases hc with rfl | rfl | rfl | rfl | rfl | rfl | rfl | hk
  · exact rw_1 x t ht v s c w hF r hr
  · exact rw_3 x t ht v s c w hF r hr
  · exact rw_2 x t ht v s c w hF r hr
  · exact rw_4 x t ht v s c w hF r hr
  · exact rw_5 x t ht v s c w hF r hr
  · exact rw_6 x t ht v s c w hF r hr
  · exact rw_7 x t ht v s c w hF r hr
  · exact rw_no x t ht k v s c w r hr hk

end Go.Proofs.YtbodlaiakcoabaaGreatDoor
