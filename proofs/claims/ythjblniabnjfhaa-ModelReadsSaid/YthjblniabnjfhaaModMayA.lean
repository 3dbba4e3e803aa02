/-
  What package model's test of any mark on any thing comes to.
  Conditions: no count is beyond two millions; the waiters lie in memory.
-/
import Derived.Test.YthjblniabnjfhaaModMay
import Derived.Test.YthjblniabnjfhaaModLock
import Derived.Test.YthjblniabnjfhaaModRw
import Derived.LoopTactic
import Derived.Deep.QuietTactic
import Derived.BigQuiet
import Derived.Outline
namespace Go.Proofs.Ythjblniabnjfhaa
open Go.RowKit
set_option linter.unusedSimpArgs false
set_option linter.unusedVariables false

set_option maxHeartbeats 2000000 in
theorem may_in (x : Th) (t : Nat) (ht : t < 8) (k v : Int) (s : Option Addr) (c : Nat) (w : World) (hF : Fit x) (hE : InW w x s) (v0 : -9223372036854775808 ≤ v) (v1 : v ≤ 9223372036854775807) (r : Bool) (hr : mayInM x (t : Int) k v = r) :
    Calls Try.prog 19 #[x.agg s c, .int .i64 (t : Int), .agg #[.int .i64 k, .int .i64 v]] w fun e w' => e = .returned (.bool r) ∧ Kept (fun _ => False) w w' := by
  have HE := Lib.hid hE
  clear hE
  have z1 : (t : Int) < 8 := by omega
  have z2 : ¬ (8 : Int) ≤ (t : Int) := by omega
  have z3 : ¬ (t : Int) < 0 := by omega
  have HK0 : Hid (Kept (fun _ => False) w ((w.alloc (.cells (x.box s c) 27)).alloc (.cells #[.int .i64 k, .int .i64 v] 29))) := Lib.hid (((Kept.refl _ w).alloc _).alloc _)
  have HT0 : Hid (BoxT ((w.alloc (.cells (x.box s c) 27)).alloc (.cells #[.int .i64 k, .int .i64 v] 29)) w.heap.size x s c) := Lib.hid ((BoxT.new w x s c).kept0 ((Kept.refl _ _).alloc _))
  have HN0 : Hid (BoxN ((w.alloc (.cells (x.box s c) 27)).alloc (.cells #[.int .i64 k, .int .i64 v] 29)) (w.heap.size + 1) k v) := Lib.hid (by have := BoxN.new (w.alloc (.cells (x.box s c) 27)) k v; rwa [show (w.alloc (.cells (x.box s c) 27)).heap.size = w.heap.size + 1 from by simp] at this)
  unfold mayInM at hr
  cases h1 : (x.kind == 1) with
  | false =>
    cases h2 : (x.kind == 2) with
    | false =>
      cases h3 : (x.kind == 3) with
      | false =>
        cases h4 : (x.kind == 4) with
        | false =>
          cases h5 : (x.kind == 5) with
          | false =>
            obtain rfl : r = false := by rw [← hr]; simp only [h1, h2, h3, h4, h5, Bool.and_true, Bool.true_and, Bool.false_and, Bool.and_false, Bool.or_true, Bool.true_or, Bool.false_or, Bool.or_false, Bool.not_true, Bool.not_false, if_true, if_false, Bool.false_eq_true, if_pos, if_neg]
            clear hr
            go_enter Try.func19, Try.ntmps19
            go_wp2_with fail
            go_ret
            exact ⟨rfl, HK0.out⟩
          | true =>
            cases h6 : (swapMayM x (t : Int) k v) with
            | false =>
              cases h7 : (quitM k v) with
              | false =>
                obtain rfl : r = false := by rw [← hr]; simp only [h1, h2, h3, h4, h5, h6, h7, Bool.and_true, Bool.true_and, Bool.false_and, Bool.and_false, Bool.or_true, Bool.true_or, Bool.false_or, Bool.or_false, Bool.not_true, Bool.not_false, if_true, if_false, Bool.false_eq_true, if_pos, if_neg]
                clear hr
                go_enter Try.func19, Try.ntmps19
                go_wp2_with fail
                refine (swap_any x (t : Int) k v s c _ _ h6).mono ?_
                rintro e w1 ⟨rfl, hk1⟩
                have HK1 := Lib.hid (HK0.out.tr0 hk1)
                have HT1 := Lib.hid (HT0.out.kept0 hk1)
                have HN1 := Lib.hid (HN0.out.kept0 hk1)
                clear hk1
                obtain ⟨_, _, _, _, _, _, _, _, _, _, _, _, _, _, _⟩ := HT1.out.cells
                obtain ⟨_, _⟩ := HN1.out.cells
                go_wp2_with fail
                refine (quit_any k v _ _ h7).mono ?_
                rintro e w2 ⟨rfl, hk2⟩
                have HK2 := Lib.hid (HK1.out.tr0 hk2)
                have HT2 := Lib.hid (HT1.out.kept0 hk2)
                have HN2 := Lib.hid (HN1.out.kept0 hk2)
                clear hk2
                go_wp2_with fail
                go_ret
                exact ⟨rfl, HK2.out⟩
              | true =>
                obtain rfl : r = true := by rw [← hr]; simp only [h1, h2, h3, h4, h5, h6, h7, Bool.and_true, Bool.true_and, Bool.false_and, Bool.and_false, Bool.or_true, Bool.true_or, Bool.false_or, Bool.or_false, Bool.not_true, Bool.not_false, if_true, if_false, Bool.false_eq_true, if_pos, if_neg]
                clear hr
                go_enter Try.func19, Try.ntmps19
                go_wp2_with fail
                refine (swap_any x (t : Int) k v s c _ _ h6).mono ?_
                rintro e w1 ⟨rfl, hk1⟩
                have HK1 := Lib.hid (HK0.out.tr0 hk1)
                have HT1 := Lib.hid (HT0.out.kept0 hk1)
                have HN1 := Lib.hid (HN0.out.kept0 hk1)
                clear hk1
                obtain ⟨_, _, _, _, _, _, _, _, _, _, _, _, _, _, _⟩ := HT1.out.cells
                obtain ⟨_, _⟩ := HN1.out.cells
                go_wp2_with fail
                refine (quit_any k v _ _ h7).mono ?_
                rintro e w2 ⟨rfl, hk2⟩
                have HK2 := Lib.hid (HK1.out.tr0 hk2)
                have HT2 := Lib.hid (HT1.out.kept0 hk2)
                have HN2 := Lib.hid (HN1.out.kept0 hk2)
                clear hk2
                go_wp2_with fail
                go_ret
                exact ⟨rfl, HK2.out⟩
            | true =>
              obtain rfl : r = true := by rw [← hr]; simp only [h1, h2, h3, h4, h5, h6, Bool.and_true, Bool.true_and, Bool.false_and, Bool.and_false, Bool.or_true, Bool.true_or, Bool.false_or, Bool.or_false, Bool.not_true, Bool.not_false, if_true, if_false, Bool.false_eq_true, if_pos, if_neg]
              clear hr
              go_enter Try.func19, Try.ntmps19
              go_wp2_with fail
              refine (swap_any x (t : Int) k v s c _ _ h6).mono ?_
              rintro e w1 ⟨rfl, hk1⟩
              have HK1 := Lib.hid (HK0.out.tr0 hk1)
              have HT1 := Lib.hid (HT0.out.kept0 hk1)
              have HN1 := Lib.hid (HN0.out.kept0 hk1)
              clear hk1
              go_wp2_with fail
              go_ret
              exact ⟨rfl, HK1.out⟩
        | true =>
          cases h8 : (rwMayM x (t : Int) k v) with
          | false =>
            cases h9 : (quitM k v) with
            | false =>
              obtain rfl : r = false := by rw [← hr]; simp only [h1, h2, h3, h4, h8, h9, Bool.and_true, Bool.true_and, Bool.false_and, Bool.and_false, Bool.or_true, Bool.true_or, Bool.false_or, Bool.or_false, Bool.not_true, Bool.not_false, if_true, if_false, Bool.false_eq_true, if_pos, if_neg]
              clear hr
              go_enter Try.func19, Try.ntmps19
              go_wp2_with fail
              refine (rw_any x t ht k v s c _ hF _ h8).mono ?_
              rintro e w1 ⟨rfl, hk1⟩
              have HK1 := Lib.hid (HK0.out.tr0 hk1)
              have HT1 := Lib.hid (HT0.out.kept0 hk1)
              have HN1 := Lib.hid (HN0.out.kept0 hk1)
              clear hk1
              obtain ⟨_, _, _, _, _, _, _, _, _, _, _, _, _, _, _⟩ := HT1.out.cells
              obtain ⟨_, _⟩ := HN1.out.cells
              go_wp2_with fail
              refine (quit_any k v _ _ h9).mono ?_
              rintro e w2 ⟨rfl, hk2⟩
              have HK2 := Lib.hid (HK1.out.tr0 hk2)
              have HT2 := Lib.hid (HT1.out.kept0 hk2)
              have HN2 := Lib.hid (HN1.out.kept0 hk2)
              clear hk2
              go_wp2_with fail
              go_ret
              exact ⟨rfl, HK2.out⟩
            | true =>
              obtain rfl : r = true := by rw [← hr]; simp only [h1, h2, h3, h4, h8, h9, Bool.and_true, Bool.true_and, Bool.false_and, Bool.and_false, Bool.or_true, Bool.true_or, Bool.false_or, Bool.or_false, Bool.not_true, Bool.not_false, if_true, if_false, Bool.false_eq_true, if_pos, if_neg]
              clear hr
              go_enter Try.func19, Try.ntmps19
              go_wp2_with fail
              refine (rw_any x t ht k v s c _ hF _ h8).mono ?_
              rintro e w1 ⟨rfl, hk1⟩
              have HK1 := Lib.hid (HK0.out.tr0 hk1)
              have HT1 := Lib.hid (HT0.out.kept0 hk1)
              have HN1 := Lib.hid (HN0.out.kept0 hk1)
              clear hk1
              obtain ⟨_, _, _, _, _, _, _, _, _, _, _, _, _, _, _⟩ := HT1.out.cells
              obtain ⟨_, _⟩ := HN1.out.cells
              go_wp2_with fail
              refine (quit_any k v _ _ h9).mono ?_
              rintro e w2 ⟨rfl, hk2⟩
              have HK2 := Lib.hid (HK1.out.tr0 hk2)
              have HT2 := Lib.hid (HT1.out.kept0 hk2)
              have HN2 := Lib.hid (HN1.out.kept0 hk2)
              clear hk2
              go_wp2_with fail
              go_ret
              exact ⟨rfl, HK2.out⟩
          | true =>
            obtain rfl : r = true := by rw [← hr]; simp only [h1, h2, h3, h4, h8, Bool.and_true, Bool.true_and, Bool.false_and, Bool.and_false, Bool.or_true, Bool.true_or, Bool.false_or, Bool.or_false, Bool.not_true, Bool.not_false, if_true, if_false, Bool.false_eq_true, if_pos, if_neg]
            clear hr
            go_enter Try.func19, Try.ntmps19
            go_wp2_with fail
            refine (rw_any x t ht k v s c _ hF _ h8).mono ?_
            rintro e w1 ⟨rfl, hk1⟩
            have HK1 := Lib.hid (HK0.out.tr0 hk1)
            have HT1 := Lib.hid (HT0.out.kept0 hk1)
            have HN1 := Lib.hid (HN0.out.kept0 hk1)
            clear hk1
            go_wp2_with fail
            go_ret
            exact ⟨rfl, HK1.out⟩
      | true =>
        cases h10 : (latchMayM x.n k v) with
        | false =>
          cases h11 : (quitM k v) with
          | false =>
            obtain rfl : r = false := by rw [← hr]; simp only [h1, h2, h3, h10, h11, Bool.and_true, Bool.true_and, Bool.false_and, Bool.and_false, Bool.or_true, Bool.true_or, Bool.false_or, Bool.or_false, Bool.not_true, Bool.not_false, if_true, if_false, Bool.false_eq_true, if_pos, if_neg]
            clear hr
            go_enter Try.func19, Try.ntmps19
            go_wp2_with fail
            refine (latch_any x.n k v _ _ h10).mono ?_
            rintro e w1 ⟨rfl, hk1⟩
            have HK1 := Lib.hid (HK0.out.tr0 hk1)
            have HT1 := Lib.hid (HT0.out.kept0 hk1)
            have HN1 := Lib.hid (HN0.out.kept0 hk1)
            clear hk1
            obtain ⟨_, _, _, _, _, _, _, _, _, _, _, _, _, _, _⟩ := HT1.out.cells
            obtain ⟨_, _⟩ := HN1.out.cells
            go_wp2_with fail
            refine (quit_any k v _ _ h11).mono ?_
            rintro e w2 ⟨rfl, hk2⟩
            have HK2 := Lib.hid (HK1.out.tr0 hk2)
            have HT2 := Lib.hid (HT1.out.kept0 hk2)
            have HN2 := Lib.hid (HN1.out.kept0 hk2)
            clear hk2
            go_wp2_with fail
            go_ret
            exact ⟨rfl, HK2.out⟩
          | true =>
            obtain rfl : r = true := by rw [← hr]; simp only [h1, h2, h3, h10, h11, Bool.and_true, Bool.true_and, Bool.false_and, Bool.and_false, Bool.or_true, Bool.true_or, Bool.false_or, Bool.or_false, Bool.not_true, Bool.not_false, if_true, if_false, Bool.false_eq_true, if_pos, if_neg]
            clear hr
            go_enter Try.func19, Try.ntmps19
            go_wp2_with fail
            refine (latch_any x.n k v _ _ h10).mono ?_
            rintro e w1 ⟨rfl, hk1⟩
            have HK1 := Lib.hid (HK0.out.tr0 hk1)
            have HT1 := Lib.hid (HT0.out.kept0 hk1)
            have HN1 := Lib.hid (HN0.out.kept0 hk1)
            clear hk1
            obtain ⟨_, _, _, _, _, _, _, _, _, _, _, _, _, _, _⟩ := HT1.out.cells
            obtain ⟨_, _⟩ := HN1.out.cells
            go_wp2_with fail
            refine (quit_any k v _ _ h11).mono ?_
            rintro e w2 ⟨rfl, hk2⟩
            have HK2 := Lib.hid (HK1.out.tr0 hk2)
            have HT2 := Lib.hid (HT1.out.kept0 hk2)
            have HN2 := Lib.hid (HN1.out.kept0 hk2)
            clear hk2
            go_wp2_with fail
            go_ret
            exact ⟨rfl, HK2.out⟩
        | true =>
          obtain rfl : r = true := by rw [← hr]; simp only [h1, h2, h3, h10, Bool.and_true, Bool.true_and, Bool.false_and, Bool.and_false, Bool.or_true, Bool.true_or, Bool.false_or, Bool.or_false, Bool.not_true, Bool.not_false, if_true, if_false, Bool.false_eq_true, if_pos, if_neg]
          clear hr
          go_enter Try.func19, Try.ntmps19
          go_wp2_with fail
          refine (latch_any x.n k v _ _ h10).mono ?_
          rintro e w1 ⟨rfl, hk1⟩
          have HK1 := Lib.hid (HK0.out.tr0 hk1)
          have HT1 := Lib.hid (HT0.out.kept0 hk1)
          have HN1 := Lib.hid (HN0.out.kept0 hk1)
          clear hk1
          go_wp2_with fail
          go_ret
          exact ⟨rfl, HK1.out⟩
    | true =>
      cases h12 : (semaMayM x.n k v) with
      | false =>
        cases h13 : (quitM k v) with
        | false =>
          obtain rfl : r = false := by rw [← hr]; simp only [h1, h2, h12, h13, Bool.and_true, Bool.true_and, Bool.false_and, Bool.and_false, Bool.or_true, Bool.true_or, Bool.false_or, Bool.or_false, Bool.not_true, Bool.not_false, if_true, if_false, Bool.false_eq_true, if_pos, if_neg]
          clear hr
          go_enter Try.func19, Try.ntmps19
          go_wp2_with fail
          refine (sema_any x.n k v _ v0 v1 _ h12).mono ?_
          rintro e w1 ⟨rfl, hk1⟩
          have HK1 := Lib.hid (HK0.out.tr0 hk1)
          have HT1 := Lib.hid (HT0.out.kept0 hk1)
          have HN1 := Lib.hid (HN0.out.kept0 hk1)
          clear hk1
          obtain ⟨_, _, _, _, _, _, _, _, _, _, _, _, _, _, _⟩ := HT1.out.cells
          obtain ⟨_, _⟩ := HN1.out.cells
          go_wp2_with fail
          refine (quit_any k v _ _ h13).mono ?_
          rintro e w2 ⟨rfl, hk2⟩
          have HK2 := Lib.hid (HK1.out.tr0 hk2)
          have HT2 := Lib.hid (HT1.out.kept0 hk2)
          have HN2 := Lib.hid (HN1.out.kept0 hk2)
          clear hk2
          go_wp2_with fail
          go_ret
          exact ⟨rfl, HK2.out⟩
        | true =>
          obtain rfl : r = true := by rw [← hr]; simp only [h1, h2, h12, h13, Bool.and_true, Bool.true_and, Bool.false_and, Bool.and_false, Bool.or_true, Bool.true_or, Bool.false_or, Bool.or_false, Bool.not_true, Bool.not_false, if_true, if_false, Bool.false_eq_true, if_pos, if_neg]
          clear hr
          go_enter Try.func19, Try.ntmps19
          go_wp2_with fail
          refine (sema_any x.n k v _ v0 v1 _ h12).mono ?_
          rintro e w1 ⟨rfl, hk1⟩
          have HK1 := Lib.hid (HK0.out.tr0 hk1)
          have HT1 := Lib.hid (HT0.out.kept0 hk1)
          have HN1 := Lib.hid (HN0.out.kept0 hk1)
          clear hk1
          obtain ⟨_, _, _, _, _, _, _, _, _, _, _, _, _, _, _⟩ := HT1.out.cells
          obtain ⟨_, _⟩ := HN1.out.cells
          go_wp2_with fail
          refine (quit_any k v _ _ h13).mono ?_
          rintro e w2 ⟨rfl, hk2⟩
          have HK2 := Lib.hid (HK1.out.tr0 hk2)
          have HT2 := Lib.hid (HT1.out.kept0 hk2)
          have HN2 := Lib.hid (HN1.out.kept0 hk2)
          clear hk2
          go_wp2_with fail
          go_ret
          exact ⟨rfl, HK2.out⟩
      | true =>
        obtain rfl : r = true := by rw [← hr]; simp only [h1, h2, h12, Bool.and_true, Bool.true_and, Bool.false_and, Bool.and_false, Bool.or_true, Bool.true_or, Bool.false_or, Bool.or_false, Bool.not_true, Bool.not_false, if_true, if_false, Bool.false_eq_true, if_pos, if_neg]
        clear hr
        go_enter Try.func19, Try.ntmps19
        go_wp2_with fail
        refine (sema_any x.n k v _ v0 v1 _ h12).mono ?_
        rintro e w1 ⟨rfl, hk1⟩
        have HK1 := Lib.hid (HK0.out.tr0 hk1)
        have HT1 := Lib.hid (HT0.out.kept0 hk1)
        have HN1 := Lib.hid (HN0.out.kept0 hk1)
        clear hk1
        go_wp2_with fail
        go_ret
        exact ⟨rfl, HK1.out⟩
  | true =>
    cases h14 : (lockMayM x (t : Int) k v) with
    | false =>
      cases h15 : (quitM k v) with
      | false =>
        obtain rfl : r = false := by rw [← hr]; simp only [h1, h14, h15, Bool.and_true, Bool.true_and, Bool.false_and, Bool.and_false, Bool.or_true, Bool.true_or, Bool.false_or, Bool.or_false, Bool.not_true, Bool.not_false, if_true, if_false, Bool.false_eq_true, if_pos, if_neg]
        clear hr
        go_enter Try.func19, Try.ntmps19
        go_wp2_with fail
        refine (lock_any x (t : Int) k v s c _ hF.ws (HE.out.kept0 HK0.out) _ h14).mono ?_
        rintro e w1 ⟨rfl, hk1⟩
        have HK1 := Lib.hid (HK0.out.tr0 hk1)
        have HT1 := Lib.hid (HT0.out.kept0 hk1)
        have HN1 := Lib.hid (HN0.out.kept0 hk1)
        clear hk1
        obtain ⟨_, _, _, _, _, _, _, _, _, _, _, _, _, _, _⟩ := HT1.out.cells
        obtain ⟨_, _⟩ := HN1.out.cells
        go_wp2_with fail
        refine (quit_any k v _ _ h15).mono ?_
        rintro e w2 ⟨rfl, hk2⟩
        have HK2 := Lib.hid (HK1.out.tr0 hk2)
        have HT2 := Lib.hid (HT1.out.kept0 hk2)
        have HN2 := Lib.hid (HN1.out.kept0 hk2)
        clear hk2
        go_wp2_with fail
        go_ret
        exact ⟨rfl, HK2.out⟩
      | true =>
        obtain rfl : r = true := by rw [← hr]; simp only [h1, h14, h15, Bool.and_true, Bool.true_and, Bool.false_and, Bool.and_false, Bool.or_true, Bool.true_or, Bool.false_or, Bool.or_false, Bool.not_true, Bool.not_false, if_true, if_false, Bool.false_eq_true, if_pos, if_neg]
        clear hr
        go_enter Try.func19, Try.ntmps19
        go_wp2_with fail
        refine (lock_any x (t : Int) k v s c _ hF.ws (HE.out.kept0 HK0.out) _ h14).mono ?_
        rintro e w1 ⟨rfl, hk1⟩
        have HK1 := Lib.hid (HK0.out.tr0 hk1)
        have HT1 := Lib.hid (HT0.out.kept0 hk1)
        have HN1 := Lib.hid (HN0.out.kept0 hk1)
        clear hk1
        obtain ⟨_, _, _, _, _, _, _, _, _, _, _, _, _, _, _⟩ := HT1.out.cells
        obtain ⟨_, _⟩ := HN1.out.cells
        go_wp2_with fail
        refine (quit_any k v _ _ h15).mono ?_
        rintro e w2 ⟨rfl, hk2⟩
        have HK2 := Lib.hid (HK1.out.tr0 hk2)
        have HT2 := Lib.hid (HT1.out.kept0 hk2)
        have HN2 := Lib.hid (HN1.out.kept0 hk2)
        clear hk2
        go_wp2_with fail
        go_ret
        exact ⟨rfl, HK2.out⟩
    | true =>
      obtain rfl : r = true := by rw [← hr]; simp only [h1, h14, Bool.and_true, Bool.true_and, Bool.false_and, Bool.and_false, Bool.or_true, Bool.true_or, Bool.false_or, Bool.or_false, Bool.not_true, Bool.not_false, if_true, if_false, Bool.false_eq_true, if_pos, if_neg]
      clear hr
      go_enter Try.func19, Try.ntmps19
      go_wp2_with fail
      refine (lock_any x (t : Int) k v s c _ hF.ws (HE.out.kept0 HK0.out) _ h14).mono ?_
      rintro e w1 ⟨rfl, hk1⟩
      have HK1 := Lib.hid (HK0.out.tr0 hk1)
      have HT1 := Lib.hid (HT0.out.kept0 hk1)
      have HN1 := Lib.hid (HN0.out.kept0 hk1)
      clear hk1
      go_wp2_with fail
      go_ret
      exact ⟨rfl, HK1.out⟩

theorem may_any (x : Th) (t k v : Int) (s : Option Addr) (c : Nat) (w : World) (hF : Fit x) (hE : InW w x s) (v0 : -9223372036854775808 ≤ v) (v1 : v ≤ 9223372036854775807) (r : Bool) (hr : mayM x t k v = r) :
    Calls Try.prog 19 #[x.agg s c, .int .i64 t, .agg #[.int .i64 k, .int .i64 v]] w fun e w' => e = .returned (.bool r) ∧ Kept (fun _ => False) w w' := by
  by_cases h : t < 0 ∨ 8 ≤ t
  · obtain rfl : r = false := by rw [← hr]; unfold mayM; rw [if_pos h]
    have HK0 : Hid (Kept (fun _ => False) w ((w.alloc (.cells (x.box s c) 27)).alloc (.cells #[.int .i64 k, .int .i64 v] 29))) := Lib.hid (((Kept.refl _ w).alloc _).alloc _)
    have HT0 : Hid (BoxT ((w.alloc (.cells (x.box s c) 27)).alloc (.cells #[.int .i64 k, .int .i64 v] 29)) w.heap.size x s c) := Lib.hid ((BoxT.new w x s c).kept0 ((Kept.refl _ _).alloc _))
    have HN0 : Hid (BoxN ((w.alloc (.cells (x.box s c) 27)).alloc (.cells #[.int .i64 k, .int .i64 v] 29)) (w.heap.size + 1) k v) := Lib.hid (by have := BoxN.new (w.alloc (.cells (x.box s c) 27)) k v; rwa [show (w.alloc (.cells (x.box s c) 27)).heap.size = w.heap.size + 1 from by simp] at this)
    clear hr
    rcases h with h | h
    · go_enter Try.func19, Try.ntmps19
      go_wp2_with fail
      go_ret
      exact ⟨rfl, HK0.out⟩
    · have h0 : ¬ t < 0 := by omega
      go_enter Try.func19, Try.ntmps19
      go_wp2_with fail
      go_ret
      exact ⟨rfl, HK0.out⟩
  · obtain ⟨n, rfl⟩ : ∃ n : Nat, t = n := ⟨t.toNat, by omega⟩
    refine may_in x n (by omega) k v s c w hF hE v0 v1 r ?_
    rw [← hr]
    unfold mayM
    rw [if_neg h]

end Go.Proofs.Ythjblniabnjfhaa
