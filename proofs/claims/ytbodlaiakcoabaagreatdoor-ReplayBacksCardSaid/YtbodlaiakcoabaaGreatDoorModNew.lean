/-
  What package model's test of any mark on any thing comes to.
  Conditions: no count is beyond two millions; the waiters lie in memory.
  Package model's Do whole: any mark on any thing.
  Conditions: no count is beyond two millions; the waiters lie in memory.
  Package model's New.
  Conditions: none.
-/
import Derived.Test.YtbodlaiakcoabaaGreatDoorModMay
import Derived.Test.YtbodlaiakcoabaaGreatDoorModLock
import Derived.Test.YtbodlaiakcoabaaGreatDoorModRw
import Derived.LoopTactic
import Derived.Deep.QuietTactic
import Derived.BigQuiet
import Derived.Outline
import Derived.Test.YtbodlaiakcoabaaGreatDoorModDoes
section
namespace Go.Proofs.YtbodlaiakcoabaaGreatDoor
open Go.RowKit
set_option linter.unusedSimpArgs false
set_option linter.unusedVariables false

set_option maxHeartbeats 2000000 in
theorem may_in (x : Th) (t : Nat) (ht : t < 8) (k v : Int) (s : Option Addr) (c : Nat) (w : World) (hF : Fit x) (hE : InW w x s) (v0 : -9223372036854775808 ≤ v) (v1 : v ≤ 9223372036854775807) (r : Bool) (hr : mayInM x (t : Int) k v = r) :
    Calls Tryz.prog 62 #[x.agg s c, .int .i64 (t : Int), .agg #[.int .i64 k, .int .i64 v]] w fun e w' => e = .returned (.bool r) ∧ Kept (fun _ => False) w w' := by
  have HE := Lib.hid hE
  clear hE
  have z1 : (t : Int) < 8 := by omega
  have z2 : ¬ (8 : Int) ≤ (t : Int) := by omega
  have z3 : ¬ (t : Int) < 0 := by omega
  have HK0 : Hid (Kept (fun _ => False) w ((w.alloc (.cells (x.box s c) 42)).alloc (.cells #[.int .i64 k, .int .i64 v] 36))) := Lib.hid (((Kept.refl _ w).alloc _).alloc _)
  have HT0 : Hid (BoxT ((w.alloc (.cells (x.box s c) 42)).alloc (.cells #[.int .i64 k, .int .i64 v] 36)) w.heap.size x s c) := Lib.hid ((BoxT.new w x s c).kept0 ((Kept.refl _ _).alloc _))
  have HN0 : Hid (BoxN ((w.alloc (.cells (x.box s c) 42)).alloc (.cells #[.int .i64 k, .int .i64 v] 36)) (w.heap.size + 1) k v) := Lib.hid (by have := BoxN.new (w.alloc (.cells (x.box s c) 42)) k v; rwa [show (w.alloc (.cells (x.box s c) 42)).heap.size = w.heap.size + 1 from by simp] at this)
  unfold mayInM at hr
  cases h1 : (x.kind == 1) with
  | false =>
    cases h2 : (x.kind == 2) with
    | false =>
      cases h3 : (x.kind == 3) with
      | false =>
        cases h4 : (x.kind == 4) with
        | false =>
          cases h5 : (x.kind == 5) with
          | false =>
            obtain rfl : r = false := by rw [← hr]; simp only [h1, h2, h3, h4, h5, Bool.and_true, Bool.true_and, Bool.false_and, Bool.and_false, Bool.or_true, Bool.true_or, Bool.false_or, Bool.or_false, Bool.not_true, Bool.not_false, if_true, if_false, Bool.false_eq_true, if_pos, if_neg]
            clear hr
            go_enter Tryz.func62, Tryz.ntmps62
            go_wp2_with fail
            go_ret
            exact ⟨rfl, HK0.out⟩
          | true =>
            cases h6 : (swapMayM x (t : Int) k v) with
            | false =>
              cases h7 : (quitM k v) with
              | false =>
                obtain rfl : r = false := by rw [← hr]; simp only [h1, h2, h3, h4, h5, h6, h7, Bool.and_true, Bool.true_and, Bool.false_and, Bool.and_false, Bool.or_true, Bool.true_or, Bool.false_or, Bool.or_false, Bool.not_true, Bool.not_false, if_true, if_false, Bool.false_eq_true, if_pos, if_neg]
                clear hr
                go_enter Tryz.func62, Tryz.ntmps62
                go_wp2_with fail
                refine (swap_any x (t : Int) k v s c _ _ h6).mono ?_
                rintro e w1 ⟨rfl, hk1⟩
                have HK1 := Lib.hid (HK0.out.tr0 hk1)
                have HT1 := Lib.hid (HT0.out.kept0 hk1)
                have HN1 := Lib.hid (HN0.out.kept0 hk1)
                clear hk1
                obtain ⟨_, _, _, _, _, _, _, _, _, _, _, _, _, _, _⟩ := HT1.out.cells
                obtain ⟨_, _⟩ := HN1.out.cells
                go_wp2_with fail
                refine (quit_any k v _ _ h7).mono ?_
                rintro e w2 ⟨rfl, hk2⟩
                have HK2 := Lib.hid (HK1.out.tr0 hk2)
                have HT2 := Lib.hid (HT1.out.kept0 hk2)
                have HN2 := Lib.hid (HN1.out.kept0 hk2)
                clear hk2
                go_wp2_with fail
                go_ret
                exact ⟨rfl, HK2.out⟩
              | true =>
                obtain rfl : r = true := by rw [← hr]; simp only [h1, h2, h3, h4, h5, h6, h7, Bool.and_true, Bool.true_and, Bool.false_and, Bool.and_false, Bool.or_true, Bool.true_or, Bool.false_or, Bool.or_false, Bool.not_true, Bool.not_false, if_true, if_false, Bool.false_eq_true, if_pos, if_neg]
                clear hr
                go_enter Tryz.func62, Tryz.ntmps62
                go_wp2_with fail
                refine (swap_any x (t : Int) k v s c _ _ h6).mono ?_
                rintro e w1 ⟨rfl, hk1⟩
                have HK1 := Lib.hid (HK0.out.tr0 hk1)
                have HT1 := Lib.hid (HT0.out.kept0 hk1)
                have HN1 := Lib.hid (HN0.out.kept0 hk1)
                clear hk1
                obtain ⟨_, _, _, _, _, _, _, _, _, _, _, _, _, _, _⟩ := HT1.out.cells
                obtain ⟨_, _⟩ := HN1.out.cells
                go_wp2_with fail
                refine (quit_any k v _ _ h7).mono ?_
                rintro e w2 ⟨rfl, hk2⟩
                have HK2 := Lib.hid (HK1.out.tr0 hk2)
                have HT2 := Lib.hid (HT1.out.kept0 hk2)
                have HN2 := Lib.hid (HN1.out.kept0 hk2)
                clear hk2
                go_wp2_with fail
                go_ret
                exact ⟨rfl, HK2.out⟩
            | true =>
              obtain rfl : r = true := by rw [← hr]; simp only [h1, h2, h3, h4, h5, h6, Bool.and_true, Bool.true_and, Bool.false_and, Bool.and_false, Bool.or_true, Bool.true_or, Bool.false_or, Bool.or_false, Bool.not_true, Bool.not_false, if_true, if_false, Bool.false_eq_true, if_pos, if_neg]
              clear hr
              go_enter Tryz.func62, Tryz.ntmps62
              go_wp2_with fail
              refine (swap_any x (t : Int) k v s c _ _ h6).mono ?_
              rintro e w1 ⟨rfl, hk1⟩
              have HK1 := Lib.hid (HK0.out.tr0 hk1)
              have HT1 := Lib.hid (HT0.out.kept0 hk1)
              have HN1 := Lib.hid (HN0.out.kept0 hk1)
              clear hk1
              go_wp2_with fail
              go_ret
              exact ⟨rfl, HK1.out⟩
        | true =>
          cases h8 : (rwMayM x (t : Int) k v) with
          | false =>
            cases h9 : (quitM k v) with
            | false =>
              obtain rfl : r = false := by rw [← hr]; simp only [h1, h2, h3, h4, h8, h9, Bool.and_true, Bool.true_and, Bool.false_and, Bool.and_false, Bool.or_true, Bool.true_or, Bool.false_or, Bool.or_false, Bool.not_true, Bool.not_false, if_true, if_false, Bool.false_eq_true, if_pos, if_neg]
              clear hr
              go_enter Tryz.func62, Tryz.ntmps62
              go_wp2_with fail
              refine (rw_any x t ht k v s c _ hF _ h8).mono ?_
              rintro e w1 ⟨rfl, hk1⟩
              have HK1 := Lib.hid (HK0.out.tr0 hk1)
              have HT1 := Lib.hid (HT0.out.kept0 hk1)
              have HN1 := Lib.hid (HN0.out.kept0 hk1)
              clear hk1
              obtain ⟨_, _, _, _, _, _, _, _, _, _, _, _, _, _, _⟩ := HT1.out.cells
              obtain ⟨_, _⟩ := HN1.out.cells
              go_wp2_with fail
              refine (quit_any k v _ _ h9).mono ?_
              rintro e w2 ⟨rfl, hk2⟩
              have HK2 := Lib.hid (HK1.out.tr0 hk2)
              have HT2 := Lib.hid (HT1.out.kept0 hk2)
              have HN2 := Lib.hid (HN1.out.kept0 hk2)
              clear hk2
              go_wp2_with fail
              go_ret
              exact ⟨rfl, HK2.out⟩
            | true =>
              obtain rfl : r = true := by rw [← hr]; simp only [h1, h2, h3, h4, h8, h9, Bool.and_true, Bool.true_and, Bool.false_and, Bool.and_false, Bool.or_true, Bool.true_or, Bool.false_or, Bool.or_false, Bool.not_true, Bool.not_false, if_true, if_false, Bool.false_eq_true, if_pos, if_neg]
              clear hr
              go_enter Tryz.func62, Tryz.ntmps62
              go_wp2_with fail
              refine (rw_any x t ht k v s c _ hF _ h8).mono ?_
              rintro e w1 ⟨rfl, hk1⟩
              have HK1 := Lib.hid (HK0.out.tr0 hk1)
              have HT1 := Lib.hid (HT0.out.kept0 hk1)
              have HN1 := Lib.hid (HN0.out.kept0 hk1)
              clear hk1
              obtain ⟨_, _, _, _, _, _, _, _, _, _, _, _, _, _, _⟩ := HT1.out.cells
              obtain ⟨_, _⟩ := HN1.out.cells
              go_wp2_with fail
              refine (quit_any k v _ _ h9).mono ?_
              rintro e w2 ⟨rfl, hk2⟩
              have HK2 := Lib.hid (HK1.out.tr0 hk2)
              have HT2 := Lib.hid (HT1.out.kept0 hk2)
              have HN2 := Lib.hid (HN1.out.kept0 hk2)
              clear hk2
              go_wp2_with fail
              go_ret
              exact ⟨rfl, HK2.out⟩
          | true =>
            obtain rfl : r = true := by rw [← hr]; simp only [h1, h2, h3, h4, h8, Bool.and_true, Bool.true_and, Bool.false_and, Bool.and_false, Bool.or_true, Bool.true_or, Bool.false_or, Bool.or_false, Bool.not_true, Bool.not_false, if_true, if_false, Bool.false_eq_true, if_pos, if_neg]
            clear hr
            go_enter Tryz.func62, Tryz.ntmps62
            go_wp2_with fail
            refine (rw_any x t ht k v s c _ hF _ h8).mono ?_
            rintro e w1 ⟨rfl, hk1⟩
            have HK1 := Lib.hid (HK0.out.tr0 hk1)
            have HT1 := Lib.hid (HT0.out.kept0 hk1)
            have HN1 := Lib.hid (HN0.out.kept0 hk1)
            clear hk1
            go_wp2_with fail
            go_ret
            exact ⟨rfl, HK1.out⟩
      | true =>
        cases h10 : (latchMayM x.n k v) with
        | false =>
          cases h11 : (quitM k v) with
          | false =>
            obtain rfl : r = false := by rw [← hr]; simp only [h1, h2, h3, h10, h11, Bool.and_true, Bool.true_and, Bool.false_and, Bool.and_false, Bool.or_true, Bool.true_or, Bool.false_or, Bool.or_false, Bool.not_true, Bool.not_false, if_true, if_false, Bool.false_eq_true, if_pos, if_neg]
            clear hr
            go_enter Tryz.func62, Tryz.ntmps62
            go_wp2_with fail
            refine (latch_any x.n k v _ _ h10).mono ?_
            rintro e w1 ⟨rfl, hk1⟩
            have HK1 := Lib.hid (HK0.out.tr0 hk1)
            have HT1 := Lib.hid (HT0.out.kept0 hk1)
            have HN1 := Lib.hid (HN0.out.kept0 hk1)
            clear hk1
            obtain ⟨_, _, _, _, _, _, _, _, _, _, _, _, _, _, _⟩ := HT1.out.cells
            obtain ⟨_, _⟩ := HN1.out.cells
            go_wp2_with fail
            refine (quit_any k v _ _ h11).mono ?_
            rintro e w2 ⟨rfl, hk2⟩
            have HK2 := Lib.hid (HK1.out.tr0 hk2)
            have HT2 := Lib.hid (HT1.out.kept0 hk2)
            have HN2 := Lib.hid (HN1.out.kept0 hk2)
            clear hk2
            go_wp2_with fail
            go_ret
            exact ⟨rfl, HK2.out⟩
          | true =>
            obtain rfl : r = true := by rw [← hr]; simp only [h1, h2, h3, h10, h11, Bool.and_true, Bool.true_and, Bool.false_and, Bool.and_false, Bool.or_true, Bool.true_or, Bool.false_or, Bool.or_false, Bool.not_true, Bool.not_false, if_true, if_false, Bool.false_eq_true, if_pos, if_neg]
            clear hr
            go_enter Tryz.func62, Tryz.ntmps62
            go_wp2_with fail
            refine (latch_any x.n k v _ _ h10).mono ?_
            rintro e w1 ⟨rfl, hk1⟩
            have HK1 := Lib.hid (HK0.out.tr0 hk1)
            have HT1 := Lib.hid (HT0.out.kept0 hk1)
            have HN1 := Lib.hid (HN0.out.kept0 hk1)
            clear hk1
            obtain ⟨_, _, _, _, _, _, _, _, _, _, _, _, _, _, _⟩ := HT1.out.cells
            obtain ⟨_, _⟩ := HN1.out.cells
            go_wp2_with fail
            refine (quit_any k v _ _ h11).mono ?_
            rintro e w2 ⟨rfl, hk2⟩
            have HK2 := Lib.hid (HK1.out.tr0 hk2)
            have HT2 := Lib.hid (HT1.out.kept0 hk2)
            have HN2 := Lib.hid (HN1.out.kept0 hk2)
            clear hk2
            go_wp2_with fail
            go_ret
            exact ⟨rfl, HK2.out⟩
        | true =>
          obtain rfl : r = true := by rw [← hr]; simp only [h1, h2, h3, h10, Bool.and_true, Bool.true_and, Bool.false_and, Bool.and_false, Bool.or_true, Bool.true_or, Bool.false_or, Bool.or_false, Bool.not_true, Bool.not_false, if_true, if_false, Bool.false_eq_true, if_pos, if_neg]
          clear hr
          go_enter Tryz.func62, Tryz.ntmps62
          go_wp2_with fail
          refine (latch_any x.n k v _ _ h10).mono ?_
          rintro e w1 ⟨rfl, hk1⟩
          have HK1 := Lib.hid (HK0.out.tr0 hk1)
          have HT1 := Lib.hid (HT0.out.kept0 hk1)
          have HN1 := Lib.hid (HN0.out.kept0 hk1)
          clear hk1
          go_wp2_with fail
          go_ret
          exact ⟨rfl, HK1.out⟩
    | true =>
      cases h12 : (semaMayM x.n k v) with
      | false =>
        cases h13 : (quitM k v) with
        | false =>
          obtain rfl : r = false := by rw [← hr]; simp only [h1, h2, h12, h13, Bool.and_true, Bool.true_and, Bool.false_and, Bool.and_false, Bool.or_true, Bool.true_or, Bool.false_or, Bool.or_false, Bool.not_true, Bool.not_false, if_true, if_false, Bool.false_eq_true, if_pos, if_neg]
          clear hr
          go_enter Tryz.func62, Tryz.ntmps62
          go_wp2_with fail
          refine (sema_any x.n k v _ v0 v1 _ h12).mono ?_
          rintro e w1 ⟨rfl, hk1⟩
          have HK1 := Lib.hid (HK0.out.tr0 hk1)
          have HT1 := Lib.hid (HT0.out.kept0 hk1)
          have HN1 := Lib.hid (HN0.out.kept0 hk1)
          clear hk1
          obtain ⟨_, _, _, _, _, _, _, _, _, _, _, _, _, _, _⟩ := HT1.out.cells
          obtain ⟨_, _⟩ := HN1.out.cells
          go_wp2_with fail
          refine (quit_any k v _ _ h13).mono ?_
          rintro e w2 ⟨rfl, hk2⟩
          have HK2 := Lib.hid (HK1.out.tr0 hk2)
          have HT2 := Lib.hid (HT1.out.kept0 hk2)
          have HN2 := Lib.hid (HN1.out.kept0 hk2)
          clear hk2
          go_wp2_with fail
          go_ret
          exact ⟨rfl, HK2.out⟩
        | true =>
          obtain rfl : r = true := by rw [← hr]; simp only [h1, h2, h12, h13, Bool.and_true, Bool.true_and, Bool.false_and, Bool.and_false, Bool.or_true, Bool.true_or, Bool.false_or, Bool.or_false, Bool.not_true, Bool.not_false, if_true, if_false, Bool.false_eq_true, if_pos, if_neg]
          clear hr
          go_enter Tryz.func62, Tryz.ntmps62
          go_wp2_with fail
          refine (sema_any x.n k v _ v0 v1 _ h12).mono ?_
          rintro e w1 ⟨rfl, hk1⟩
          have HK1 := Lib.hid (HK0.out.tr0 hk1)
          have HT1 := Lib.hid (HT0.out.kept0 hk1)
          have HN1 := Lib.hid (HN0.out.kept0 hk1)
          clear hk1
          obtain ⟨_, _, _, _, _, _, _, _, _, _, _, _, _, _, _⟩ := HT1.out.cells
          obtain ⟨_, _⟩ := HN1.out.cells
          go_wp2_with fail
          refine (quit_any k v _ _ h13).mono ?_
          rintro e w2 ⟨rfl, hk2⟩
          have HK2 := Lib.hid (HK1.out.tr0 hk2)
          have HT2 := Lib.hid (HT1.out.kept0 hk2)
          have HN2 := Lib.hid (HN1.out.kept0 hk2)
          clear hk2
          go_wp2_with fail
          go_ret
          exact ⟨rfl, HK2.out⟩
      | true =>
        obtain rfl : r = true := by rw [← hr]; simp only [h1, h2, h12, Bool.and_true, Bool.true_and, Bool.false_and, Bool.and_false, Bool.or_true, Bool.true_or, Bool.false_or, Bool.or_false, Bool.not_true, Bool.not_false, if_true, if_false, Bool.false_eq_true, if_pos, if_neg]
        clear hr
        go_enter Tryz.func62, Tryz.ntmps62
        go_wp2_with fail
        refine (sema_any x.n k v _ v0 v1 _ h12).mono ?_
        rintro e w1 ⟨rfl, hk1⟩
        have HK1 := Lib.hid (HK0.out.tr0 hk1)
        have HT1 := Lib.hid (HT0.out.kept0 hk1)
        have HN1 := Lib.hid (HN0.out.kept0 hk1)
        clear hk1
        go_wp2_with fail
        go_ret
        exact ⟨rfl, HK1.out⟩
  | true =>
    cases h14 : (lockMayM x (t : Int) k v) with
    | false =>
      cases h15 : (quitM k v) with
      | false =>
        obtain rfl : r = false := by rw [← hr]; simp only [h1, h14, h15, Bool.and_true, Bool.true_and, Bool.false_and, Bool.and_false, Bool.or_true, Bool.true_or, Bool.false_or, Bool.or_false, Bool.not_true, Bool.not_false, if_true, if_false, Bool.false_eq_true, if_pos, if_neg]
        clear hr
        go_enter Tryz.func62, Tryz.ntmps62
        go_wp2_with fail
        refine (lock_any x (t : Int) k v s c _ hF.ws (HE.out.kept0 HK0.out) _ h14).mono ?_
        rintro e w1 ⟨rfl, hk1⟩
        have HK1 := Lib.hid (HK0.out.tr0 hk1)
        have HT1 := Lib.hid (HT0.out.kept0 hk1)
        have HN1 := Lib.hid (HN0.out.kept0 hk1)
        clear hk1
        obtain ⟨_, _, _, _, _, _, _, _, _, _, _, _, _, _, _⟩ := HT1.out.cells
        obtain ⟨_, _⟩ := HN1.out.cells
        go_wp2_with fail
        refine (quit_any k v _ _ h15).mono ?_
        rintro e w2 ⟨rfl, hk2⟩
        have HK2 := Lib.hid (HK1.out.tr0 hk2)
        have HT2 := Lib.hid (HT1.out.kept0 hk2)
        have HN2 := Lib.hid (HN1.out.kept0 hk2)
        clear hk2
        go_wp2_with fail
        go_ret
        exact ⟨rfl, HK2.out⟩
      | true =>
        obtain rfl : r = true := by rw [← hr]; simp only [h1, h14, h15, Bool.and_true, Bool.true_and, Bool.false_and, Bool.and_false, Bool.or_true, Bool.true_or, Bool.false_or, Bool.or_false, Bool.not_true, Bool.not_false, if_true, if_false, Bool.false_eq_true, if_pos, if_neg]
        clear hr
        go_enter Tryz.func62, Tryz.ntmps62
        go_wp2_with fail
        refine (lock_any x (t : Int) k v s c _ hF.ws (HE.out.kept0 HK0.out) _ h14).mono ?_
        rintro e w1 ⟨rfl, hk1⟩
        have HK1 := Lib.hid (HK0.out.tr0 hk1)
        have HT1 := Lib.hid (HT0.out.kept0 hk1)
        have HN1 := Lib.hid (HN0.out.kept0 hk1)
        clear hk1
        obtain ⟨_, _, _, _, _, _, _, _, _, _, _, _, _, _, _⟩ := HT1.out.cells
        obtain ⟨_, _⟩ := HN1.out.cells
        go_wp2_with fail
        refine (quit_any k v _ _ h15).mono ?_
        rintro e w2 ⟨rfl, hk2⟩
        have HK2 := Lib.hid (HK1.out.tr0 hk2)
        have HT2 := Lib.hid (HT1.out.kept0 hk2)
        have HN2 := Lib.hid (HN1.out.kept0 hk2)
        clear hk2
        go_wp2_with fail
        go_ret
        exact ⟨rfl, HK2.out⟩
    | true =>
      obtain rfl : r = true := by rw [← hr]; simp only [h1, h14, Bool.and_true, Bool.true_and, Bool.false_and, Bool.and_false, Bool.or_true, Bool.true_or, Bool.false_or, Bool.or_false, Bool.not_true, Bool.not_false, if_true, if_false, Bool.false_eq_true, if_pos, if_neg]
      clear hr
      go_enter Tryz.func62, Tryz.ntmps62
      go_wp2_with fail
      refine (lock_any x (t : Int) k v s c _ hF.ws (HE.out.kept0 HK0.out) _ h14).mono ?_
      rintro e w1 ⟨rfl, hk1⟩
      have HK1 := Lib.hid (HK0.out.tr0 hk1)
      have HT1 := Lib.hid (HT0.out.kept0 hk1)
      have HN1 := Lib.hid (HN0.out.kept0 hk1)
      clear hk1
      go_wp2_with fail
      go_ret
      exact ⟨rfl, HK1.out⟩

theorem may_any (x : Th) (t k v : Int) (s : Option Addr) (c : Nat) (w : World) (hF : Fit x) (hE : InW w x s) (v0 : -9223372036854775808 ≤ v) (v1 : v ≤ 9223372036854775807) (r : Bool) (hr : mayM x t k v = r) :
    Calls Tryz.prog 62 #[x.agg s c, .int .i64 t, .agg #[.int .i64 k, .int .i64 v]] w fun e w' => e = .returned (.bool r) ∧ Kept (fun _ => False) w w' := by
  by_cases h : t < 0 ∨ 8 ≤ t
  · obtain rfl : r = false := by rw [← hr]; unfold mayM; rw [if_pos h]
    have HK0 : Hid (Kept (fun _ => False) w ((w.alloc (.cells (x.box s c) 42)).alloc (.cells #[.int .i64 k, .int .i64 v] 36))) := Lib.hid (((Kept.refl _ w).alloc _).alloc _)
    have HT0 : Hid (BoxT ((w.alloc (.cells (x.box s c) 42)).alloc (.cells #[.int .i64 k, .int .i64 v] 36)) w.heap.size x s c) := Lib.hid ((BoxT.new w x s c).kept0 ((Kept.refl _ _).alloc _))
    have HN0 : Hid (BoxN ((w.alloc (.cells (x.box s c) 42)).alloc (.cells #[.int .i64 k, .int .i64 v] 36)) (w.heap.size + 1) k v) := Lib.hid (by have := BoxN.new (w.alloc (.cells (x.box s c) 42)) k v; rwa [show (w.alloc (.cells (x.box s c) 42)).heap.size = w.heap.size + 1 from by simp] at this)
    clear hr
    rcases h with h | h
    · go_enter Tryz.func62, Tryz.ntmps62
      go_wp2_with fail
      go_ret
      exact ⟨rfl, HK0.out⟩
    · have h0 : ¬ t < 0 := by omega
      go_enter Tryz.func62, Tryz.ntmps62
      go_wp2_with fail
      go_ret
      exact ⟨rfl, HK0.out⟩
  · obtain ⟨n, rfl⟩ : ∃ n : Nat, t = n := ⟨t.toNat, by omega⟩
    refine may_in x n (by omega) k v s c w hF hE v0 v1 r ?_
    rw [← hr]
    unfold mayM
    rw [if_neg h]

end Go.Proofs.YtbodlaiakcoabaaGreatDoor
end
section
set_option maxRecDepth 100000
namespace Go.Proofs.YtbodlaiakcoabaaGreatDoor
open Go.RowKit
set_option linter.unusedSimpArgs false
set_option linter.unusedVariables false

def zeroTh : Th := ⟨0, 0, 0, 0, fun _ => 0, [], 0, 0⟩

/-- The world behind the boxes of a thing, a mark, and the result. -/
theorem do_box (x : Th) (s : Option Addr) (c : Nat) (k v : Int) (w : World) : ∃ W1 W2 W3, w.alloc (.cells (x.box s c) 42) = W1 ∧ W1.alloc (.cells #[.int .i64 k, .int .i64 v] 36) = W2 ∧
    W2.alloc (.cells #[.int .i64 0, .int .i64 0, .int .i64 0, .int .i64 0, .int .i64 0, .int .i64 0, .int .i64 0, .int .i64 0, .int .i64 0, .int .i64 0, .int .i64 0, .int .i64 0, .slice none 0 0, .int .i64 0, .int .i64 0] 42) = W3 ∧ W1.heap.size = w.heap.size + 1 ∧ W2.heap.size = w.heap.size + 1 + 1 ∧ W3.heap.size = w.heap.size + 1 + 1 + 1 ∧
    BoxT W3 w.heap.size x s c ∧ BoxN W3 (w.heap.size + 1) k v ∧ BoxT W3 (w.heap.size + 1 + 1) zeroTh none 0 ∧ Kept (fun _ => False) w W3 := by
  have k1 : Kept (fun _ => False) w (w.alloc (.cells (x.box s c) 42)) := (Kept.refl _ w).alloc _
  obtain ⟨W1, hW1⟩ : ∃ W1, w.alloc (.cells (x.box s c) 42) = W1 := ⟨_, rfl⟩
  have s1 : W1.heap.size = w.heap.size + 1 := by rw [← hW1]; simp
  have b1 := BoxT.new w x s c
  rw [hW1] at k1 b1
  have k2 : Kept (fun _ => False) W1 (W1.alloc (.cells #[.int .i64 k, .int .i64 v] 36)) := (Kept.refl _ _).alloc _
  obtain ⟨W2, hW2⟩ : ∃ W2, W1.alloc (.cells #[.int .i64 k, .int .i64 v] 36) = W2 := ⟨_, rfl⟩
  have s2 : W2.heap.size = w.heap.size + 1 + 1 := by rw [← hW2]; simp [s1]
  have b2 := BoxN.new W1 k v
  rw [hW2] at k2 b2
  rw [s1] at b2
  have k3 : Kept (fun _ => False) W2 (W2.alloc (.cells (zeroTh.box none 0) 42)) := (Kept.refl _ _).alloc _
  have b3 := BoxT.new W2 zeroTh none 0
  rw [s2] at b3
  exact ⟨W1, W2, _, hW1, hW2, rfl, s1, s2, by simp [s2], (b1.kept0 k2).kept0 k3, b2.kept0 k3, b3, (k1.tr0 k2).tr0 k3⟩

theorem BoxT.frees {w : World} {b : Nat} {x : Th} {s : Option Addr} {c : Nat} (h : BoxT w b x s c) : w.frozen? ⟨b, 0, none⟩ = false ∧ w.frozen? ⟨b, 1, none⟩ = false ∧ w.frozen? ⟨b, 2, none⟩ = false ∧ w.frozen? ⟨b, 3, none⟩ = false ∧ w.frozen? ⟨b, 4, none⟩ = false ∧ w.frozen? ⟨b, 5, none⟩ = false ∧ w.frozen? ⟨b, 6, none⟩ = false ∧ w.frozen? ⟨b, 7, none⟩ = false ∧ w.frozen? ⟨b, 8, none⟩ = false ∧ w.frozen? ⟨b, 9, none⟩ = false ∧ w.frozen? ⟨b, 10, none⟩ = false ∧ w.frozen? ⟨b, 11, none⟩ = false ∧ w.frozen? ⟨b, 12, none⟩ = false ∧ w.frozen? ⟨b, 13, none⟩ = false ∧ w.frozen? ⟨b, 14, none⟩ = false := ⟨h.free 0, h.free 1, h.free 2, h.free 3, h.free 4, h.free 5, h.free 6, h.free 7, h.free 8, h.free 9, h.free 10, h.free 11, h.free 12, h.free 13, h.free 14⟩

theorem put_step {w : World} {b : Nat} {a a' : Array Value} (h : w.heap[b]? = some (.cells a 42 (0, 0))) (j : Nat) (u : Value) (ha : a.setIfInBounds j u = a') : ∃ W, w.setCell ⟨b, j, none⟩ u = W ∧ W.heap[b]? = some (.cells a' 42 (0, 0)) ∧ Kept (fun k => k = b) w W :=
  ⟨_, rfl, by rw [← ha]; exact heap_setCell_same w b j _ _ u h, (Kept.one b w).sB _ _⟩
/-- A whole thing is stored into a block that held another one. -/
theorem BoxT.put {w : World} {b : Nat} {z : Th} {s0 : Option Addr} {c0 : Nat} (h : BoxT w b z s0 c0) (x : Th) (s : Option Addr) (c : Nat) : ∃ W, (((((((((((((((w.setCell ⟨b, 0, none⟩ (.int .i64 x.kind)).setCell ⟨b, 1, none⟩ (.int .i64 x.n)).setCell ⟨b, 2, none⟩ (.int .i64 x.owner)).setCell ⟨b, 3, none⟩ (.int .i64 x.holds)).setCell ⟨b, 4, none⟩ (.int .i64 (x.r 0))).setCell ⟨b, 5, none⟩ (.int .i64 (x.r 1))).setCell ⟨b, 6, none⟩ (.int .i64 (x.r 2))).setCell ⟨b, 7, none⟩ (.int .i64 (x.r 3))).setCell ⟨b, 8, none⟩ (.int .i64 (x.r 4))).setCell ⟨b, 9, none⟩ (.int .i64 (x.r 5))).setCell ⟨b, 10, none⟩ (.int .i64 (x.r 6))).setCell ⟨b, 11, none⟩ (.int .i64 (x.r 7))).setCell ⟨b, 12, none⟩ (.slice s x.ws.length c)).setCell ⟨b, 13, none⟩ (.int .i64 x.offer)).setCell ⟨b, 14, none⟩ (.int .i64 x.item)) = W ∧ BoxT W b x s c ∧ Kept (fun k => k = b) w W := by
  unfold BoxT at h
  obtain ⟨w0, e0, h0, k0⟩ := put_step h 0 (.int .i64 x.kind) (a' := #[.int .i64 x.kind, .int .i64 z.n, .int .i64 z.owner, .int .i64 z.holds, .int .i64 (z.r 0), .int .i64 (z.r 1), .int .i64 (z.r 2), .int .i64 (z.r 3), .int .i64 (z.r 4), .int .i64 (z.r 5), .int .i64 (z.r 6), .int .i64 (z.r 7), .slice s0 z.ws.length c0, .int .i64 z.offer, .int .i64 z.item]) rfl
  obtain ⟨w1, e1, h1, k1⟩ := put_step h0 1 (.int .i64 x.n) (a' := #[.int .i64 x.kind, .int .i64 x.n, .int .i64 z.owner, .int .i64 z.holds, .int .i64 (z.r 0), .int .i64 (z.r 1), .int .i64 (z.r 2), .int .i64 (z.r 3), .int .i64 (z.r 4), .int .i64 (z.r 5), .int .i64 (z.r 6), .int .i64 (z.r 7), .slice s0 z.ws.length c0, .int .i64 z.offer, .int .i64 z.item]) rfl
  obtain ⟨w2, e2, h2, k2⟩ := put_step h1 2 (.int .i64 x.owner) (a' := #[.int .i64 x.kind, .int .i64 x.n, .int .i64 x.owner, .int .i64 z.holds, .int .i64 (z.r 0), .int .i64 (z.r 1), .int .i64 (z.r 2), .int .i64 (z.r 3), .int .i64 (z.r 4), .int .i64 (z.r 5), .int .i64 (z.r 6), .int .i64 (z.r 7), .slice s0 z.ws.length c0, .int .i64 z.offer, .int .i64 z.item]) rfl
  obtain ⟨w3, e3, h3, k3⟩ := put_step h2 3 (.int .i64 x.holds) (a' := #[.int .i64 x.kind, .int .i64 x.n, .int .i64 x.owner, .int .i64 x.holds, .int .i64 (z.r 0), .int .i64 (z.r 1), .int .i64 (z.r 2), .int .i64 (z.r 3), .int .i64 (z.r 4), .int .i64 (z.r 5), .int .i64 (z.r 6), .int .i64 (z.r 7), .slice s0 z.ws.length c0, .int .i64 z.offer, .int .i64 z.item]) rfl
  obtain ⟨w4, e4, h4, k4⟩ := put_step h3 4 (.int .i64 (x.r 0)) (a' := #[.int .i64 x.kind, .int .i64 x.n, .int .i64 x.owner, .int .i64 x.holds, .int .i64 (x.r 0), .int .i64 (z.r 1), .int .i64 (z.r 2), .int .i64 (z.r 3), .int .i64 (z.r 4), .int .i64 (z.r 5), .int .i64 (z.r 6), .int .i64 (z.r 7), .slice s0 z.ws.length c0, .int .i64 z.offer, .int .i64 z.item]) rfl
  obtain ⟨w5, e5, h5, k5⟩ := put_step h4 5 (.int .i64 (x.r 1)) (a' := #[.int .i64 x.kind, .int .i64 x.n, .int .i64 x.owner, .int .i64 x.holds, .int .i64 (x.r 0), .int .i64 (x.r 1), .int .i64 (z.r 2), .int .i64 (z.r 3), .int .i64 (z.r 4), .int .i64 (z.r 5), .int .i64 (z.r 6), .int .i64 (z.r 7), .slice s0 z.ws.length c0, .int .i64 z.offer, .int .i64 z.item]) rfl
  obtain ⟨w6, e6, h6, k6⟩ := put_step h5 6 (.int .i64 (x.r 2)) (a' := #[.int .i64 x.kind, .int .i64 x.n, .int .i64 x.owner, .int .i64 x.holds, .int .i64 (x.r 0), .int .i64 (x.r 1), .int .i64 (x.r 2), .int .i64 (z.r 3), .int .i64 (z.r 4), .int .i64 (z.r 5), .int .i64 (z.r 6), .int .i64 (z.r 7), .slice s0 z.ws.length c0, .int .i64 z.offer, .int .i64 z.item]) rfl
  obtain ⟨w7, e7, h7, k7⟩ := put_step h6 7 (.int .i64 (x.r 3)) (a' := #[.int .i64 x.kind, .int .i64 x.n, .int .i64 x.owner, .int .i64 x.holds, .int .i64 (x.r 0), .int .i64 (x.r 1), .int .i64 (x.r 2), .int .i64 (x.r 3), .int .i64 (z.r 4), .int .i64 (z.r 5), .int .i64 (z.r 6), .int .i64 (z.r 7), .slice s0 z.ws.length c0, .int .i64 z.offer, .int .i64 z.item]) rfl
  obtain ⟨w8, e8, h8, k8⟩ := put_step h7 8 (.int .i64 (x.r 4)) (a' := #[.int .i64 x.kind, .int .i64 x.n, .int .i64 x.owner, .int .i64 x.holds, .int .i64 (x.r 0), .int .i64 (x.r 1), .int .i64 (x.r 2), .int .i64 (x.r 3), .int .i64 (x.r 4), .int .i64 (z.r 5), .int .i64 (z.r 6), .int .i64 (z.r 7), .slice s0 z.ws.length c0, .int .i64 z.offer, .int .i64 z.item]) rfl
  obtain ⟨w9, e9, h9, k9⟩ := put_step h8 9 (.int .i64 (x.r 5)) (a' := #[.int .i64 x.kind, .int .i64 x.n, .int .i64 x.owner, .int .i64 x.holds, .int .i64 (x.r 0), .int .i64 (x.r 1), .int .i64 (x.r 2), .int .i64 (x.r 3), .int .i64 (x.r 4), .int .i64 (x.r 5), .int .i64 (z.r 6), .int .i64 (z.r 7), .slice s0 z.ws.length c0, .int .i64 z.offer, .int .i64 z.item]) rfl
  obtain ⟨w10, e10, h10, k10⟩ := put_step h9 10 (.int .i64 (x.r 6)) (a' := #[.int .i64 x.kind, .int .i64 x.n, .int .i64 x.owner, .int .i64 x.holds, .int .i64 (x.r 0), .int .i64 (x.r 1), .int .i64 (x.r 2), .int .i64 (x.r 3), .int .i64 (x.r 4), .int .i64 (x.r 5), .int .i64 (x.r 6), .int .i64 (z.r 7), .slice s0 z.ws.length c0, .int .i64 z.offer, .int .i64 z.item]) rfl
  obtain ⟨w11, e11, h11, k11⟩ := put_step h10 11 (.int .i64 (x.r 7)) (a' := #[.int .i64 x.kind, .int .i64 x.n, .int .i64 x.owner, .int .i64 x.holds, .int .i64 (x.r 0), .int .i64 (x.r 1), .int .i64 (x.r 2), .int .i64 (x.r 3), .int .i64 (x.r 4), .int .i64 (x.r 5), .int .i64 (x.r 6), .int .i64 (x.r 7), .slice s0 z.ws.length c0, .int .i64 z.offer, .int .i64 z.item]) rfl
  obtain ⟨w12, e12, h12, k12⟩ := put_step h11 12 (.slice s x.ws.length c) (a' := #[.int .i64 x.kind, .int .i64 x.n, .int .i64 x.owner, .int .i64 x.holds, .int .i64 (x.r 0), .int .i64 (x.r 1), .int .i64 (x.r 2), .int .i64 (x.r 3), .int .i64 (x.r 4), .int .i64 (x.r 5), .int .i64 (x.r 6), .int .i64 (x.r 7), .slice s x.ws.length c, .int .i64 z.offer, .int .i64 z.item]) rfl
  obtain ⟨w13, e13, h13, k13⟩ := put_step h12 13 (.int .i64 x.offer) (a' := #[.int .i64 x.kind, .int .i64 x.n, .int .i64 x.owner, .int .i64 x.holds, .int .i64 (x.r 0), .int .i64 (x.r 1), .int .i64 (x.r 2), .int .i64 (x.r 3), .int .i64 (x.r 4), .int .i64 (x.r 5), .int .i64 (x.r 6), .int .i64 (x.r 7), .slice s x.ws.length c, .int .i64 x.offer, .int .i64 z.item]) rfl
  obtain ⟨w14, e14, h14, k14⟩ := put_step h13 14 (.int .i64 x.item) (a' := #[.int .i64 x.kind, .int .i64 x.n, .int .i64 x.owner, .int .i64 x.holds, .int .i64 (x.r 0), .int .i64 (x.r 1), .int .i64 (x.r 2), .int .i64 (x.r 3), .int .i64 (x.r 4), .int .i64 (x.r 5), .int .i64 (x.r 6), .int .i64 (x.r 7), .slice s x.ws.length c, .int .i64 x.offer, .int .i64 x.item]) rfl
  refine ⟨w14, ?_, h14, ((((((((((((((k0.trans k1 (fun _ _ e => e)).trans k2 (fun _ _ e => e)).trans k3 (fun _ _ e => e)).trans k4 (fun _ _ e => e)).trans k5 (fun _ _ e => e)).trans k6 (fun _ _ e => e)).trans k7 (fun _ _ e => e)).trans k8 (fun _ _ e => e)).trans k9 (fun _ _ e => e)).trans k10 (fun _ _ e => e)).trans k11 (fun _ _ e => e)).trans k12 (fun _ _ e => e)).trans k13 (fun _ _ e => e)).trans k14 (fun _ _ e => e))⟩
  rw [e0, e1, e2, e3, e4, e5, e6, e7, e8, e9, e10, e11, e12, e13, e14]

/-- What Do tells. -/
def Told (w : World) (y : Th) (r : Bool) (e : Ending) (w' : World) : Prop := ∃ s' c', e = .returned (.tuple #[y.agg s' c', .bool r]) ∧ NewW w.heap.size w' s' c' y.ws ∧ Kept (fun _ => False) w w'

set_option maxHeartbeats 4000000 in
set_option maxRecDepth 100000 in
theorem do_any (x : Th) (t k v : Int) (s : Option Addr) (c : Nat) (w : World) (hF : Fit x) (hE : InW w x s) (v0 : -9223372036854775808 ≤ v) (v1 : v ≤ 9223372036854775807) :
    Calls Tryz.prog 45 #[x.agg s c, .int .i64 t, .agg #[.int .i64 k, .int .i64 v]] w (Told w (doM x t k v) (mayM x t k v)) := by
  obtain ⟨W1, W2, W3, hW1, hW2, hW3, s1, s2, s3, hT, hN, hR, hk⟩ := do_box x s c k v w
  obtain ⟨_, _, _, _, _, _, _, _, _, _, _, _, _, _, _⟩ := hT.cells
  obtain ⟨_, _⟩ := hN.cells
  obtain ⟨r, hr⟩ : ∃ r, mayM x t k v = r := ⟨_, rfl⟩
  have HT := Lib.hid hT; have HN := Lib.hid hN; have HR := Lib.hid hR; have HK := Lib.hid hk
  have hE3 := hE.kept0 hk
  have HM := Lib.hid (may_any x t k v s c W3 hF hE3 v0 v1 r hr)
  have HE := Lib.hid hE3
  have HF := Lib.hid hF
  have HRR := Lib.hid hr
  rw [hr]
  clear hT hN hR hk hE hE3 hF hr v0 v1
  go_enter Tryz.func45, Tryz.ntmps45
  go_wp2_with fail
  refine HM.out.mono ?_
  rintro e w1 ⟨rfl, hk1⟩
  have HK1 := Lib.hid hk1
  obtain ⟨_, _, _, _, _, _, _, _, _, _, _, _, c12, _, _⟩ := (HT.out.kept0 hk1).cells
  have HC := Lib.hid (copy_any x.ws x.ws.length rfl HF.out.ws s c w1 (HE.out.kept0 hk1))
  clear hk1
  go_wp2_with fail
  refine HC.out.mono ?_
  rintro e w2 ⟨sx, cx, rfl, hO, hk2⟩
  have hB2 := (HT.out.kept0 HK1.out).kept0 hk2
  have hN2 := (HN.out.kept0 HK1.out).kept0 hk2
  have hR2 := (HR.out.kept0 HK1.out).kept0 hk2
  have d12 := hB2.cells.c12
  have f12 := hB2.free 12
  have z1 : w.heap.size + 1 + 1 + 1 ≤ w1.heap.size := by have := HK1.out.size; omega
  have z2 := hk2.size
  obtain ⟨w3, hw3⟩ : ∃ w3, w2.setCell ⟨w.heap.size, 12, none⟩ (.slice sx x.ws.length cx) = w3 := ⟨_, rfl⟩
  have hk3 : Kept (fun k => k = w.heap.size) w2 w3 := by rw [← hw3]; exact (Kept.refl _ w2).setCell _ _ (fun _ => rfl)
  have hB3 : BoxT w3 w.heap.size x sx cx := by rw [← hw3]; exact hB2.setWs sx cx x.ws
  have hN3 : BoxN w3 (w.heap.size + 1) k v := hk3.at_ hN2 (by omega)
  have hR3 := hR2.kept hk3 (by omega)
  have hO3 : OwnW w1.heap.size w3 sx cx x.ws := hO.kept hk3 (fun g hg e => by omega)
  have z3 := hk3.size
  have hkw : Kept (fun k => k = w.heap.size) w w3 := ((((HK.out.tr0 HK1.out).tr0 hk2).mono (fun _ _ f => f.elim)).trans hk3 (fun _ _ e => e))
  have HFIN : Hid (∀ y w4 s' c', BoxT w4 (w.heap.size) y s' c' → NewW w1.heap.size w4 s' c' y.ws → Kept (fun k => k = w.heap.size ∨ w1.heap.size ≤ k) w3 w4 → ∀ w5, Kept (fun k => k = w.heap.size + 1 + 1) w4 w5 → Told w y r (.returned (.tuple #[y.agg s' c', .bool r])) w5) := Lib.hid (fun y w4 s' c' h1 h2 h3 w5 h4 =>
    ⟨s', c', rfl, (h2.kept h4 (fun g hg e => by omega)).since (by omega), by
      have h5 : Kept (fun k => w.heap.size ≤ k) w w5 := ((hkw.mono (fun _ _ e => by omega)).trans (T := fun k => w.heap.size ≤ k) (h3.mono (fun k _ e => by omega)) (fun _ _ e => e)).trans (T := fun k => k = w.heap.size + 1 + 1) h4 (fun _ _ e => by omega)
      exact ⟨h5.os, h5.tape, h5.output, h5.size, fun k hk _ => h5.block k hk (by omega)⟩⟩)
  have HB3 := Lib.hid hB3; have HN3 := Lib.hid hN3; have HR3 := Lib.hid hR3; have HO3 := Lib.hid hO3
  obtain ⟨_, _, _, _, _, _, _, _, _, _, _, _, _, _, _⟩ := hB3.cells
  obtain ⟨_, _⟩ := hN3.cells
  clear hO hk2 hB2 hN2 hR2 hk3 hB3 hN3 hR3 hO3 hkw
  cases r with
  | false =>
    have HDM : Hid (doM x t k v = x) := Lib.hid (by unfold doM; rw [HRR.out]; rfl)
    obtain ⟨_, _, _, _, _, _, _, _, _, _, _, _, _, _, _⟩ := HR3.out.cells
    obtain ⟨_, _, _, _, _, _, _, _, _, _, _, _, _, _, _⟩ := HR3.out.frees
    obtain ⟨W5, hW5, hB5, hk5⟩ := HR3.out.put x sx cx
    obtain ⟨e0, e1, e2, e3, e4, e5, e6, e7, e8, e9, e10, e11, e12, e13, e14⟩ := hB5.cells
    have HX := Lib.hid (HFIN.out x w3 sx cx HB3.out (HO3.out.new2 HF.out.ws) (Kept.refl _ w3) W5 hk5)
    clear hB5 hk5
    go_wp2_with fail
    exact bodyPost_ret (v := .tuple #[x.agg sx cx, .bool false]) (by simp [results, Tryz.results45, go_sem, e0, e1, e2, e3, e4, e5, e6, e7, e8, e9, e10, e11, e12, e13, e14]) rfl (by rw [HDM.out]; exact HX.out)
  | true =>
    obtain ⟨y, hy⟩ : ∃ y, doesM x t k v = y := ⟨_, rfl⟩
    have HDM : Hid (doM x t k v = y) := Lib.hid (by unfold doM; rw [HRR.out, hy]; rfl)
    have hr2 := HRR.out
    unfold mayM at hr2
    split at hr2
    · cases hr2
    · rename_i ht
      obtain ⟨n, rfl⟩ : ∃ n : Nat, t = n := ⟨t.toNat, by omega⟩
      have HD := does_any HB3.out HO3.out (by omega) (by omega) HF.out n (by omega) k v hr2
      rw [hy] at HD
      have HD := Lib.hid HD
      clear hr2 ht hy
      go_wp2_with fail
      refine HD.out.mono ?_
      rintro e w4 ⟨rfl, s4, c4, hB4, hN4, hk4⟩
      obtain ⟨_, _, _, _, _, _, _, _, _, _, _, _, _, _, _⟩ := hB4.cells
      have hR4 := HR3.out.kept hk4 (by omega)
      obtain ⟨_, _, _, _, _, _, _, _, _, _, _, _, _, _, _⟩ := hR4.cells
      obtain ⟨_, _, _, _, _, _, _, _, _, _, _, _, _, _, _⟩ := hR4.frees
      obtain ⟨W5, hW5, hB5, hk5⟩ := hR4.put y s4 c4
      obtain ⟨e0, e1, e2, e3, e4, e5, e6, e7, e8, e9, e10, e11, e12, e13, e14⟩ := hB5.cells
      have HX := Lib.hid (HFIN.out y w4 s4 c4 hB4 hN4 hk4 W5 hk5)
      clear hB5 hk5 hB4 hN4 hk4 hR4
      go_wp2_with fail
      exact bodyPost_ret (v := .tuple #[y.agg s4 c4, .bool true]) (by simp [results, Tryz.results45, go_sem, e0, e1, e2, e3, e4, e5, e6, e7, e8, e9, e10, e11, e12, e13, e14]) rfl (by rw [HDM.out]; exact HX.out)

end Go.Proofs.YtbodlaiakcoabaaGreatDoor
end
section
namespace Go.Proofs.YtbodlaiakcoabaaGreatDoor
open Go.RowKit
theorem new_any (kd n : Int) (fair : Bool) (w : World) : Calls Tryz.prog 34 #[.agg #[.int .i64 kd, .bool fair, .int .i64 n]] w fun e w' => e = .returned ((newM kd n).agg none 0) ∧ Kept (fun _ => False) w w' := by
  go_enter Tryz.func34, Tryz.ntmps34
  go_wp2_with fail
  go_returns
  exact ⟨rfl, ((Kept.refl _ w).alloc _).alloc _⟩
end Go.Proofs.YtbodlaiakcoabaaGreatDoor
end
