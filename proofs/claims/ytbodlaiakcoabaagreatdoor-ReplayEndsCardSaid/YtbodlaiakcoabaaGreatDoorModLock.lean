/-
  What package model's test of a lock comes to.
  Conditions: the waiters lie in memory, 200 at most.
-/
import Derived.Test.YtbodlaiakcoabaaGreatDoorModLeaf
import Derived.LoopTactic
import Derived.Deep.QuietTactic
import Derived.BigQuiet
import Derived.Outline
namespace Go.Proofs.YtbodlaiakcoabaaGreatDoor
open Go.RowKit
set_option linter.unusedSimpArgs false
set_option linter.unusedVariables false

theorem empty_len (l : List Wt) : ((l.length : Int) == 0) = l.isEmpty := by cases l with | nil => rfl | cons q l => (rw [beq_eq_false_iff_ne.2 (by simp only [List.length_cons]; omega)]; rfl)

set_option maxHeartbeats 2000000 in
theorem lock_1 (x : Th) (t v : Int) (s : Option Addr) (c : Nat) (w : World) (hl : x.ws.length ≤ 200) (hE : InW w x s) (r : Bool) (hr : (isForM x t v || (v == 1 && onceM x t)) = r) :
    Calls Tryz.prog 77 #[x.agg s c, .int .i64 t, .agg #[.int .i64 1, .int .i64 v]] w fun e w' => e = .returned (.bool r) ∧ Kept (fun _ => False) w w' := by
  have HE := Lib.hid hE
  clear hE
  have HK0 : Hid (Kept (fun _ => False) w ((w.alloc (.cells (x.box s c) 42)).alloc (.cells #[.int .i64 1, .int .i64 v] 36))) := Lib.hid (((Kept.refl _ w).alloc _).alloc _)
  have HT0 : Hid (BoxT ((w.alloc (.cells (x.box s c) 42)).alloc (.cells #[.int .i64 1, .int .i64 v] 36)) w.heap.size x s c) := Lib.hid ((BoxT.new w x s c).kept0 ((Kept.refl _ _).alloc _))
  have HN0 : Hid (BoxN ((w.alloc (.cells (x.box s c) 42)).alloc (.cells #[.int .i64 1, .int .i64 v] 36)) (w.heap.size + 1) 1 v) := Lib.hid (by have := BoxN.new (w.alloc (.cells (x.box s c) 42)) 1 v; rwa [show (w.alloc (.cells (x.box s c) 42)).heap.size = w.heap.size + 1 from by simp] at this)
  cases h1 : (isForM x t v) with
  | false =>
    cases h2 : (v == 1) with
    | false =>
      obtain rfl : r = false := by rw [← hr]; simp only [h1, h2, Bool.and_true, Bool.true_and, Bool.false_and, Bool.and_false, Bool.or_true, Bool.true_or, Bool.false_or, Bool.or_false, Bool.not_true, Bool.not_false, if_true, if_false, Bool.false_eq_true, if_pos, if_neg]
      clear hr
      go_enter Tryz.func77, Tryz.ntmps77
      go_wp2_with fail
      refine (isFor_any x t v s c _ hl (HE.out.kept0 HK0.out) _ h1).mono ?_
      rintro e w1 ⟨rfl, hk1⟩
      have HK1 := Lib.hid (HK0.out.tr0 hk1)
      have HT1 := Lib.hid (HT0.out.kept0 hk1)
      have HN1 := Lib.hid (HN0.out.kept0 hk1)
      clear hk1
      obtain ⟨_, _, _, _, _, _, _, _, _, _, _, _, _, _, _⟩ := HT1.out.cells
      obtain ⟨_, _⟩ := HN1.out.cells
      go_wp2_with fail
      go_ret
      exact ⟨rfl, HK1.out⟩
    | true =>
      cases h3 : (onceM x t) with
      | false =>
        obtain rfl : r = false := by rw [← hr]; simp only [h1, h2, h3, Bool.and_true, Bool.true_and, Bool.false_and, Bool.and_false, Bool.or_true, Bool.true_or, Bool.false_or, Bool.or_false, Bool.not_true, Bool.not_false, if_true, if_false, Bool.false_eq_true, if_pos, if_neg]
        clear hr
        go_enter Tryz.func77, Tryz.ntmps77
        go_wp2_with fail
        refine (isFor_any x t v s c _ hl (HE.out.kept0 HK0.out) _ h1).mono ?_
        rintro e w1 ⟨rfl, hk1⟩
        have HK1 := Lib.hid (HK0.out.tr0 hk1)
        have HT1 := Lib.hid (HT0.out.kept0 hk1)
        have HN1 := Lib.hid (HN0.out.kept0 hk1)
        clear hk1
        obtain ⟨_, _, _, _, _, _, _, _, _, _, _, _, _, _, _⟩ := HT1.out.cells
        obtain ⟨_, _⟩ := HN1.out.cells
        go_wp2_with fail
        refine (once_any x t s c _ _ h3).mono ?_
        rintro e w2 ⟨rfl, hk2⟩
        have HK2 := Lib.hid (HK1.out.tr0 hk2)
        have HT2 := Lib.hid (HT1.out.kept0 hk2)
        have HN2 := Lib.hid (HN1.out.kept0 hk2)
        clear hk2
        go_wp2_with fail
        go_ret
        exact ⟨rfl, HK2.out⟩
      | true =>
        obtain rfl : r = true := by rw [← hr]; simp only [h1, h2, h3, Bool.and_true, Bool.true_and, Bool.false_and, Bool.and_false, Bool.or_true, Bool.true_or, Bool.false_or, Bool.or_false, Bool.not_true, Bool.not_false, if_true, if_false, Bool.false_eq_true, if_pos, if_neg]
        clear hr
        go_enter Tryz.func77, Tryz.ntmps77
        go_wp2_with fail
        refine (isFor_any x t v s c _ hl (HE.out.kept0 HK0.out) _ h1).mono ?_
        rintro e w1 ⟨rfl, hk1⟩
        have HK1 := Lib.hid (HK0.out.tr0 hk1)
        have HT1 := Lib.hid (HT0.out.kept0 hk1)
        have HN1 := Lib.hid (HN0.out.kept0 hk1)
        clear hk1
        obtain ⟨_, _, _, _, _, _, _, _, _, _, _, _, _, _, _⟩ := HT1.out.cells
        obtain ⟨_, _⟩ := HN1.out.cells
        go_wp2_with fail
        refine (once_any x t s c _ _ h3).mono ?_
        rintro e w2 ⟨rfl, hk2⟩
        have HK2 := Lib.hid (HK1.out.tr0 hk2)
        have HT2 := Lib.hid (HT1.out.kept0 hk2)
        have HN2 := Lib.hid (HN1.out.kept0 hk2)
        clear hk2
        go_wp2_with fail
        go_ret
        exact ⟨rfl, HK2.out⟩
  | true =>
    obtain rfl : r = true := by rw [← hr]; simp only [h1, Bool.and_true, Bool.true_and, Bool.false_and, Bool.and_false, Bool.or_true, Bool.true_or, Bool.false_or, Bool.or_false, Bool.not_true, Bool.not_false, if_true, if_false, Bool.false_eq_true, if_pos, if_neg]
    clear hr
    go_enter Tryz.func77, Tryz.ntmps77
    go_wp2_with fail
    refine (isFor_any x t v s c _ hl (HE.out.kept0 HK0.out) _ h1).mono ?_
    rintro e w1 ⟨rfl, hk1⟩
    have HK1 := Lib.hid (HK0.out.tr0 hk1)
    have HT1 := Lib.hid (HT0.out.kept0 hk1)
    have HN1 := Lib.hid (HN0.out.kept0 hk1)
    clear hk1
    go_wp2_with fail
    go_ret
    exact ⟨rfl, HK1.out⟩

set_option maxHeartbeats 2000000 in
theorem lock_3 (x : Th) (t v : Int) (s : Option Addr) (c : Nat) (w : World) (hl : x.ws.length ≤ 200) (hE : InW w x s) (r : Bool) (hr : (v == 0 && x.owner == t) = r) :
    Calls Tryz.prog 77 #[x.agg s c, .int .i64 t, .agg #[.int .i64 3, .int .i64 v]] w fun e w' => e = .returned (.bool r) ∧ Kept (fun _ => False) w w' := by
  have HE := Lib.hid hE
  clear hE
  have HK0 : Hid (Kept (fun _ => False) w ((w.alloc (.cells (x.box s c) 42)).alloc (.cells #[.int .i64 3, .int .i64 v] 36))) := Lib.hid (((Kept.refl _ w).alloc _).alloc _)
  have HT0 : Hid (BoxT ((w.alloc (.cells (x.box s c) 42)).alloc (.cells #[.int .i64 3, .int .i64 v] 36)) w.heap.size x s c) := Lib.hid ((BoxT.new w x s c).kept0 ((Kept.refl _ _).alloc _))
  have HN0 : Hid (BoxN ((w.alloc (.cells (x.box s c) 42)).alloc (.cells #[.int .i64 3, .int .i64 v] 36)) (w.heap.size + 1) 3 v) := Lib.hid (by have := BoxN.new (w.alloc (.cells (x.box s c) 42)) 3 v; rwa [show (w.alloc (.cells (x.box s c) 42)).heap.size = w.heap.size + 1 from by simp] at this)
  cases h1 : (v == 0) with
  | false =>
    obtain rfl : r = false := by rw [← hr]; simp only [h1, Bool.and_true, Bool.true_and, Bool.false_and, Bool.and_false, Bool.or_true, Bool.true_or, Bool.false_or, Bool.or_false, Bool.not_true, Bool.not_false, if_true, if_false, Bool.false_eq_true, if_pos, if_neg]
    clear hr
    go_enter Tryz.func77, Tryz.ntmps77
    go_wp2_with fail
    go_ret
    exact ⟨rfl, HK0.out⟩
  | true =>
    cases h2 : (x.owner == t) with
    | false =>
      obtain rfl : r = false := by rw [← hr]; simp only [h1, h2, Bool.and_true, Bool.true_and, Bool.false_and, Bool.and_false, Bool.or_true, Bool.true_or, Bool.false_or, Bool.or_false, Bool.not_true, Bool.not_false, if_true, if_false, Bool.false_eq_true, if_pos, if_neg]
      clear hr
      go_enter Tryz.func77, Tryz.ntmps77
      go_wp2_with fail
      go_ret
      exact ⟨rfl, HK0.out⟩
    | true =>
      obtain rfl : r = true := by rw [← hr]; simp only [h1, h2, Bool.and_true, Bool.true_and, Bool.false_and, Bool.and_false, Bool.or_true, Bool.true_or, Bool.false_or, Bool.or_false, Bool.not_true, Bool.not_false, if_true, if_false, Bool.false_eq_true, if_pos, if_neg]
      clear hr
      go_enter Tryz.func77, Tryz.ntmps77
      go_wp2_with fail
      go_ret
      exact ⟨rfl, HK0.out⟩

set_option maxHeartbeats 2000000 in
theorem lock_5 (x : Th) (t v : Int) (s : Option Addr) (c : Nat) (w : World) (hl : x.ws.length ≤ 200) (hE : InW w x s) (r : Bool) (hr : (v == 0 && othersM x t) = r) :
    Calls Tryz.prog 77 #[x.agg s c, .int .i64 t, .agg #[.int .i64 5, .int .i64 v]] w fun e w' => e = .returned (.bool r) ∧ Kept (fun _ => False) w w' := by
  have HE := Lib.hid hE
  clear hE
  have HK0 : Hid (Kept (fun _ => False) w ((w.alloc (.cells (x.box s c) 42)).alloc (.cells #[.int .i64 5, .int .i64 v] 36))) := Lib.hid (((Kept.refl _ w).alloc _).alloc _)
  have HT0 : Hid (BoxT ((w.alloc (.cells (x.box s c) 42)).alloc (.cells #[.int .i64 5, .int .i64 v] 36)) w.heap.size x s c) := Lib.hid ((BoxT.new w x s c).kept0 ((Kept.refl _ _).alloc _))
  have HN0 : Hid (BoxN ((w.alloc (.cells (x.box s c) 42)).alloc (.cells #[.int .i64 5, .int .i64 v] 36)) (w.heap.size + 1) 5 v) := Lib.hid (by have := BoxN.new (w.alloc (.cells (x.box s c) 42)) 5 v; rwa [show (w.alloc (.cells (x.box s c) 42)).heap.size = w.heap.size + 1 from by simp] at this)
  cases h1 : (v == 0) with
  | false =>
    obtain rfl : r = false := by rw [← hr]; simp only [h1, Bool.and_true, Bool.true_and, Bool.false_and, Bool.and_false, Bool.or_true, Bool.true_or, Bool.false_or, Bool.or_false, Bool.not_true, Bool.not_false, if_true, if_false, Bool.false_eq_true, if_pos, if_neg]
    clear hr
    go_enter Tryz.func77, Tryz.ntmps77
    go_wp2_with fail
    go_ret
    exact ⟨rfl, HK0.out⟩
  | true =>
    cases h2 : (othersM x t) with
    | false =>
      obtain rfl : r = false := by rw [← hr]; simp only [h1, h2, Bool.and_true, Bool.true_and, Bool.false_and, Bool.and_false, Bool.or_true, Bool.true_or, Bool.false_or, Bool.or_false, Bool.not_true, Bool.not_false, if_true, if_false, Bool.false_eq_true, if_pos, if_neg]
      clear hr
      go_enter Tryz.func77, Tryz.ntmps77
      go_wp2_with fail
      refine (others_any x t s c _ _ h2).mono ?_
      rintro e w1 ⟨rfl, hk1⟩
      have HK1 := Lib.hid (HK0.out.tr0 hk1)
      have HT1 := Lib.hid (HT0.out.kept0 hk1)
      have HN1 := Lib.hid (HN0.out.kept0 hk1)
      clear hk1
      go_wp2_with fail
      go_ret
      exact ⟨rfl, HK1.out⟩
    | true =>
      obtain rfl : r = true := by rw [← hr]; simp only [h1, h2, Bool.and_true, Bool.true_and, Bool.false_and, Bool.and_false, Bool.or_true, Bool.true_or, Bool.false_or, Bool.or_false, Bool.not_true, Bool.not_false, if_true, if_false, Bool.false_eq_true, if_pos, if_neg]
      clear hr
      go_enter Tryz.func77, Tryz.ntmps77
      go_wp2_with fail
      refine (others_any x t s c _ _ h2).mono ?_
      rintro e w1 ⟨rfl, hk1⟩
      have HK1 := Lib.hid (HK0.out.tr0 hk1)
      have HT1 := Lib.hid (HT0.out.kept0 hk1)
      have HN1 := Lib.hid (HN0.out.kept0 hk1)
      clear hk1
      go_wp2_with fail
      go_ret
      exact ⟨rfl, HK1.out⟩

set_option maxHeartbeats 2000000 in
theorem lock_6 (x : Th) (t v : Int) (s : Option Addr) (c : Nat) (w : World) (hl : x.ws.length ≤ 200) (hE : InW w x s) (r : Bool) (hr : (v == 0 && x.owner != t) = r) :
    Calls Tryz.prog 77 #[x.agg s c, .int .i64 t, .agg #[.int .i64 6, .int .i64 v]] w fun e w' => e = .returned (.bool r) ∧ Kept (fun _ => False) w w' := by
  have HE := Lib.hid hE
  clear hE
  have HK0 : Hid (Kept (fun _ => False) w ((w.alloc (.cells (x.box s c) 42)).alloc (.cells #[.int .i64 6, .int .i64 v] 36))) := Lib.hid (((Kept.refl _ w).alloc _).alloc _)
  have HT0 : Hid (BoxT ((w.alloc (.cells (x.box s c) 42)).alloc (.cells #[.int .i64 6, .int .i64 v] 36)) w.heap.size x s c) := Lib.hid ((BoxT.new w x s c).kept0 ((Kept.refl _ _).alloc _))
  have HN0 : Hid (BoxN ((w.alloc (.cells (x.box s c) 42)).alloc (.cells #[.int .i64 6, .int .i64 v] 36)) (w.heap.size + 1) 6 v) := Lib.hid (by have := BoxN.new (w.alloc (.cells (x.box s c) 42)) 6 v; rwa [show (w.alloc (.cells (x.box s c) 42)).heap.size = w.heap.size + 1 from by simp] at this)
  cases h1 : (v == 0) with
  | false =>
    obtain rfl : r = false := by rw [← hr]; simp only [h1, Bool.and_true, Bool.true_and, Bool.false_and, Bool.and_false, Bool.or_true, Bool.true_or, Bool.false_or, Bool.or_false, Bool.not_true, Bool.not_false, if_true, if_false, Bool.false_eq_true, if_pos, if_neg]
    clear hr
    go_enter Tryz.func77, Tryz.ntmps77
    go_wp2_with fail
    go_ret
    exact ⟨rfl, HK0.out⟩
  | true =>
    cases h2 : (x.owner != t) with
    | false =>
      obtain rfl : r = false := by rw [← hr]; simp only [h1, h2, Bool.and_true, Bool.true_and, Bool.false_and, Bool.and_false, Bool.or_true, Bool.true_or, Bool.false_or, Bool.or_false, Bool.not_true, Bool.not_false, if_true, if_false, Bool.false_eq_true, if_pos, if_neg]
      clear hr
      go_enter Tryz.func77, Tryz.ntmps77
      go_wp2_with fail
      go_ret
      exact ⟨rfl, HK0.out⟩
    | true =>
      obtain rfl : r = true := by rw [← hr]; simp only [h1, h2, Bool.and_true, Bool.true_and, Bool.false_and, Bool.and_false, Bool.or_true, Bool.true_or, Bool.false_or, Bool.or_false, Bool.not_true, Bool.not_false, if_true, if_false, Bool.false_eq_true, if_pos, if_neg]
      clear hr
      go_enter Tryz.func77, Tryz.ntmps77
      go_wp2_with fail
      go_ret
      exact ⟨rfl, HK0.out⟩

set_option maxHeartbeats 2000000 in
theorem lock_7 (x : Th) (t v : Int) (s : Option Addr) (c : Nat) (w : World) (hl : x.ws.length ≤ 200) (hE : InW w x s) (r : Bool) (hr : (v == 0 && outM x t) = r) :
    Calls Tryz.prog 77 #[x.agg s c, .int .i64 t, .agg #[.int .i64 7, .int .i64 v]] w fun e w' => e = .returned (.bool r) ∧ Kept (fun _ => False) w w' := by
  have HE := Lib.hid hE
  clear hE
  have HK0 : Hid (Kept (fun _ => False) w ((w.alloc (.cells (x.box s c) 42)).alloc (.cells #[.int .i64 7, .int .i64 v] 36))) := Lib.hid (((Kept.refl _ w).alloc _).alloc _)
  have HT0 : Hid (BoxT ((w.alloc (.cells (x.box s c) 42)).alloc (.cells #[.int .i64 7, .int .i64 v] 36)) w.heap.size x s c) := Lib.hid ((BoxT.new w x s c).kept0 ((Kept.refl _ _).alloc _))
  have HN0 : Hid (BoxN ((w.alloc (.cells (x.box s c) 42)).alloc (.cells #[.int .i64 7, .int .i64 v] 36)) (w.heap.size + 1) 7 v) := Lib.hid (by have := BoxN.new (w.alloc (.cells (x.box s c) 42)) 7 v; rwa [show (w.alloc (.cells (x.box s c) 42)).heap.size = w.heap.size + 1 from by simp] at this)
  cases h1 : (v == 0) with
  | false =>
    obtain rfl : r = false := by rw [← hr]; simp only [h1, Bool.and_true, Bool.true_and, Bool.false_and, Bool.and_false, Bool.or_true, Bool.true_or, Bool.false_or, Bool.or_false, Bool.not_true, Bool.not_false, if_true, if_false, Bool.false_eq_true, if_pos, if_neg]
    clear hr
    go_enter Tryz.func77, Tryz.ntmps77
    go_wp2_with fail
    go_ret
    exact ⟨rfl, HK0.out⟩
  | true =>
    cases h2 : (outM x t) with
    | false =>
      obtain rfl : r = false := by rw [← hr]; simp only [h1, h2, Bool.and_true, Bool.true_and, Bool.false_and, Bool.and_false, Bool.or_true, Bool.true_or, Bool.false_or, Bool.or_false, Bool.not_true, Bool.not_false, if_true, if_false, Bool.false_eq_true, if_pos, if_neg]
      clear hr
      go_enter Tryz.func77, Tryz.ntmps77
      go_wp2_with fail
      refine (out_any x t s c _ _ h2).mono ?_
      rintro e w1 ⟨rfl, hk1⟩
      have HK1 := Lib.hid (HK0.out.tr0 hk1)
      have HT1 := Lib.hid (HT0.out.kept0 hk1)
      have HN1 := Lib.hid (HN0.out.kept0 hk1)
      clear hk1
      go_wp2_with fail
      go_ret
      exact ⟨rfl, HK1.out⟩
    | true =>
      obtain rfl : r = true := by rw [← hr]; simp only [h1, h2, Bool.and_true, Bool.true_and, Bool.false_and, Bool.and_false, Bool.or_true, Bool.true_or, Bool.false_or, Bool.or_false, Bool.not_true, Bool.not_false, if_true, if_false, Bool.false_eq_true, if_pos, if_neg]
      clear hr
      go_enter Tryz.func77, Tryz.ntmps77
      go_wp2_with fail
      refine (out_any x t s c _ _ h2).mono ?_
      rintro e w1 ⟨rfl, hk1⟩
      have HK1 := Lib.hid (HK0.out.tr0 hk1)
      have HT1 := Lib.hid (HT0.out.kept0 hk1)
      have HN1 := Lib.hid (HN0.out.kept0 hk1)
      clear hk1
      go_wp2_with fail
      go_ret
      exact ⟨rfl, HK1.out⟩

set_option maxHeartbeats 2000000 in
theorem lock_10 (x : Th) (t v : Int) (s : Option Addr) (c : Nat) (w : World) (hl : x.ws.length ≤ 200) (hE : InW w x s) (r : Bool) (hr : (x.owner == t && x.holds == v) = r) :
    Calls Tryz.prog 77 #[x.agg s c, .int .i64 t, .agg #[.int .i64 10, .int .i64 v]] w fun e w' => e = .returned (.bool r) ∧ Kept (fun _ => False) w w' := by
  have HE := Lib.hid hE
  clear hE
  have HK0 : Hid (Kept (fun _ => False) w ((w.alloc (.cells (x.box s c) 42)).alloc (.cells #[.int .i64 10, .int .i64 v] 36))) := Lib.hid (((Kept.refl _ w).alloc _).alloc _)
  have HT0 : Hid (BoxT ((w.alloc (.cells (x.box s c) 42)).alloc (.cells #[.int .i64 10, .int .i64 v] 36)) w.heap.size x s c) := Lib.hid ((BoxT.new w x s c).kept0 ((Kept.refl _ _).alloc _))
  have HN0 : Hid (BoxN ((w.alloc (.cells (x.box s c) 42)).alloc (.cells #[.int .i64 10, .int .i64 v] 36)) (w.heap.size + 1) 10 v) := Lib.hid (by have := BoxN.new (w.alloc (.cells (x.box s c) 42)) 10 v; rwa [show (w.alloc (.cells (x.box s c) 42)).heap.size = w.heap.size + 1 from by simp] at this)
  cases h1 : (x.owner == t) with
  | false =>
    obtain rfl : r = false := by rw [← hr]; simp only [h1, Bool.and_true, Bool.true_and, Bool.false_and, Bool.and_false, Bool.or_true, Bool.true_or, Bool.false_or, Bool.or_false, Bool.not_true, Bool.not_false, if_true, if_false, Bool.false_eq_true, if_pos, if_neg]
    clear hr
    go_enter Tryz.func77, Tryz.ntmps77
    go_wp2_with fail
    go_ret
    exact ⟨rfl, HK0.out⟩
  | true =>
    cases h2 : (x.holds == v) with
    | false =>
      obtain rfl : r = false := by rw [← hr]; simp only [h1, h2, Bool.and_true, Bool.true_and, Bool.false_and, Bool.and_false, Bool.or_true, Bool.true_or, Bool.false_or, Bool.or_false, Bool.not_true, Bool.not_false, if_true, if_false, Bool.false_eq_true, if_pos, if_neg]
      clear hr
      go_enter Tryz.func77, Tryz.ntmps77
      go_wp2_with fail
      go_ret
      exact ⟨rfl, HK0.out⟩
    | true =>
      obtain rfl : r = true := by rw [← hr]; simp only [h1, h2, Bool.and_true, Bool.true_and, Bool.false_and, Bool.and_false, Bool.or_true, Bool.true_or, Bool.false_or, Bool.or_false, Bool.not_true, Bool.not_false, if_true, if_false, Bool.false_eq_true, if_pos, if_neg]
      clear hr
      go_enter Tryz.func77, Tryz.ntmps77
      go_wp2_with fail
      go_ret
      exact ⟨rfl, HK0.out⟩

set_option maxHeartbeats 2000000 in
theorem lock_11 (x : Th) (t v : Int) (s : Option Addr) (c : Nat) (w : World) (hl : x.ws.length ≤ 200) (hE : InW w x s) (r : Bool) (hr : (x.owner == t && firstM x.ws v) = r) :
    Calls Tryz.prog 77 #[x.agg s c, .int .i64 t, .agg #[.int .i64 11, .int .i64 v]] w fun e w' => e = .returned (.bool r) ∧ Kept (fun _ => False) w w' := by
  have HE := Lib.hid hE
  clear hE
  have HK0 : Hid (Kept (fun _ => False) w ((w.alloc (.cells (x.box s c) 42)).alloc (.cells #[.int .i64 11, .int .i64 v] 36))) := Lib.hid (((Kept.refl _ w).alloc _).alloc _)
  have HT0 : Hid (BoxT ((w.alloc (.cells (x.box s c) 42)).alloc (.cells #[.int .i64 11, .int .i64 v] 36)) w.heap.size x s c) := Lib.hid ((BoxT.new w x s c).kept0 ((Kept.refl _ _).alloc _))
  have HN0 : Hid (BoxN ((w.alloc (.cells (x.box s c) 42)).alloc (.cells #[.int .i64 11, .int .i64 v] 36)) (w.heap.size + 1) 11 v) := Lib.hid (by have := BoxN.new (w.alloc (.cells (x.box s c) 42)) 11 v; rwa [show (w.alloc (.cells (x.box s c) 42)).heap.size = w.heap.size + 1 from by simp] at this)
  cases h1 : (x.owner == t) with
  | false =>
    obtain rfl : r = false := by rw [← hr, h1]; rfl
    clear hr
    go_enter Tryz.func77, Tryz.ntmps77
    go_wp2_with fail
    go_ret
    exact ⟨rfl, HK0.out⟩
  | true =>
    cases hw : x.ws with
    | nil =>
      have hl0 : decide (0 < x.ws.length) = false := by rw [hw]; rfl
      obtain rfl : r = false := by rw [← hr, h1, hw]; rfl
      clear hr hw
      go_enter Tryz.func77, Tryz.ntmps77
      go_wp2_with fail
      go_ret
      exact ⟨rfl, HK0.out⟩
    | cons q l =>
      obtain ⟨g, off, hs, hg, hcell⟩ := (HE.out.kept0 HK0.out).2 0 q (by rw [hw]; rfl)
      subst hs
      have hq := hcell 0 _ rfl
      simp only [Nat.zero_mul, Nat.add_zero] at hq
      have hl1 : 0 < x.ws.length := by rw [hw]; simp
      have hl2 : decide (0 < x.ws.length) = true := decide_eq_true hl1
      have hl3 : (0 : Int) < (x.ws.length : Int) := by omega
      have hr2 : (q.thread == v) = r := by rw [← hr, h1, hw]; rfl
      clear hr hw hcell
      subst hr2
      go_enter Tryz.func77, Tryz.ntmps77
      go_wp2_with fail
      go_ret
      exact ⟨rfl, HK0.out⟩

set_option maxHeartbeats 2000000 in
theorem lock_12 (x : Th) (t v : Int) (s : Option Addr) (c : Nat) (w : World) (hl : x.ws.length ≤ 200) (hE : InW w x s) (r : Bool) (hr : (v == 0 && x.owner == t && x.ws.isEmpty) = r) :
    Calls Tryz.prog 77 #[x.agg s c, .int .i64 t, .agg #[.int .i64 12, .int .i64 v]] w fun e w' => e = .returned (.bool r) ∧ Kept (fun _ => False) w w' := by
  have HE := Lib.hid hE
  clear hE
  have HK0 : Hid (Kept (fun _ => False) w ((w.alloc (.cells (x.box s c) 42)).alloc (.cells #[.int .i64 12, .int .i64 v] 36))) := Lib.hid (((Kept.refl _ w).alloc _).alloc _)
  have HT0 : Hid (BoxT ((w.alloc (.cells (x.box s c) 42)).alloc (.cells #[.int .i64 12, .int .i64 v] 36)) w.heap.size x s c) := Lib.hid ((BoxT.new w x s c).kept0 ((Kept.refl _ _).alloc _))
  have HN0 : Hid (BoxN ((w.alloc (.cells (x.box s c) 42)).alloc (.cells #[.int .i64 12, .int .i64 v] 36)) (w.heap.size + 1) 12 v) := Lib.hid (by have := BoxN.new (w.alloc (.cells (x.box s c) 42)) 12 v; rwa [show (w.alloc (.cells (x.box s c) 42)).heap.size = w.heap.size + 1 from by simp] at this)
  cases h1 : (v == 0) with
  | false =>
    obtain rfl : r = false := by rw [← hr]; simp only [h1, Bool.and_true, Bool.true_and, Bool.false_and, Bool.and_false, Bool.or_true, Bool.true_or, Bool.false_or, Bool.or_false, Bool.not_true, Bool.not_false, if_true, if_false, Bool.false_eq_true, if_pos, if_neg]
    clear hr
    go_enter Tryz.func77, Tryz.ntmps77
    go_wp2_with fail
    go_ret
    exact ⟨rfl, HK0.out⟩
  | true =>
    cases h2 : (x.owner == t) with
    | false =>
      obtain rfl : r = false := by rw [← hr]; simp only [h1, h2, Bool.and_true, Bool.true_and, Bool.false_and, Bool.and_false, Bool.or_true, Bool.true_or, Bool.false_or, Bool.or_false, Bool.not_true, Bool.not_false, if_true, if_false, Bool.false_eq_true, if_pos, if_neg]
      clear hr
      go_enter Tryz.func77, Tryz.ntmps77
      go_wp2_with fail
      go_ret
      exact ⟨rfl, HK0.out⟩
    | true =>
      cases h3 : (x.ws.isEmpty) with
      | false =>
        obtain rfl : r = false := by rw [← hr]; simp only [h1, h2, h3, Bool.and_true, Bool.true_and, Bool.false_and, Bool.and_false, Bool.or_true, Bool.true_or, Bool.false_or, Bool.or_false, Bool.not_true, Bool.not_false, if_true, if_false, Bool.false_eq_true, if_pos, if_neg]
        have gh3 := (empty_len x.ws).trans h3
        clear hr
        go_enter Tryz.func77, Tryz.ntmps77
        go_wp2_with fail
        go_ret
        exact ⟨rfl, HK0.out⟩
      | true =>
        obtain rfl : r = true := by rw [← hr]; simp only [h1, h2, h3, Bool.and_true, Bool.true_and, Bool.false_and, Bool.and_false, Bool.or_true, Bool.true_or, Bool.false_or, Bool.or_false, Bool.not_true, Bool.not_false, if_true, if_false, Bool.false_eq_true, if_pos, if_neg]
        have gh3 := (empty_len x.ws).trans h3
        clear hr
        go_enter Tryz.func77, Tryz.ntmps77
        go_wp2_with fail
        go_ret
        exact ⟨rfl, HK0.out⟩

set_option maxHeartbeats 2000000 in
theorem lock_13 (x : Th) (t v : Int) (s : Option Addr) (c : Nat) (w : World) (hl : x.ws.length ≤ 200) (hE : InW w x s) (r : Bool) (hr : (v == 0 && waitsM x.ws t) = r) :
    Calls Tryz.prog 77 #[x.agg s c, .int .i64 t, .agg #[.int .i64 13, .int .i64 v]] w fun e w' => e = .returned (.bool r) ∧ Kept (fun _ => False) w w' := by
  have HE := Lib.hid hE
  clear hE
  have HK0 : Hid (Kept (fun _ => False) w ((w.alloc (.cells (x.box s c) 42)).alloc (.cells #[.int .i64 13, .int .i64 v] 36))) := Lib.hid (((Kept.refl _ w).alloc _).alloc _)
  have HT0 : Hid (BoxT ((w.alloc (.cells (x.box s c) 42)).alloc (.cells #[.int .i64 13, .int .i64 v] 36)) w.heap.size x s c) := Lib.hid ((BoxT.new w x s c).kept0 ((Kept.refl _ _).alloc _))
  have HN0 : Hid (BoxN ((w.alloc (.cells (x.box s c) 42)).alloc (.cells #[.int .i64 13, .int .i64 v] 36)) (w.heap.size + 1) 13 v) := Lib.hid (by have := BoxN.new (w.alloc (.cells (x.box s c) 42)) 13 v; rwa [show (w.alloc (.cells (x.box s c) 42)).heap.size = w.heap.size + 1 from by simp] at this)
  cases h1 : (v == 0) with
  | false =>
    obtain rfl : r = false := by rw [← hr]; simp only [h1, Bool.and_true, Bool.true_and, Bool.false_and, Bool.and_false, Bool.or_true, Bool.true_or, Bool.false_or, Bool.or_false, Bool.not_true, Bool.not_false, if_true, if_false, Bool.false_eq_true, if_pos, if_neg]
    clear hr
    go_enter Tryz.func77, Tryz.ntmps77
    go_wp2_with fail
    go_ret
    exact ⟨rfl, HK0.out⟩
  | true =>
    cases h2 : (waitsM x.ws t) with
    | false =>
      obtain rfl : r = false := by rw [← hr]; simp only [h1, h2, Bool.and_true, Bool.true_and, Bool.false_and, Bool.and_false, Bool.or_true, Bool.true_or, Bool.false_or, Bool.or_false, Bool.not_true, Bool.not_false, if_true, if_false, Bool.false_eq_true, if_pos, if_neg]
      clear hr
      go_enter Tryz.func77, Tryz.ntmps77
      go_wp2_with fail
      refine (waiting_any x t s c _ hl (HE.out.kept0 HK0.out) _ h2).mono ?_
      rintro e w1 ⟨rfl, hk1⟩
      have HK1 := Lib.hid (HK0.out.tr0 hk1)
      have HT1 := Lib.hid (HT0.out.kept0 hk1)
      have HN1 := Lib.hid (HN0.out.kept0 hk1)
      clear hk1
      go_wp2_with fail
      go_ret
      exact ⟨rfl, HK1.out⟩
    | true =>
      obtain rfl : r = true := by rw [← hr]; simp only [h1, h2, Bool.and_true, Bool.true_and, Bool.false_and, Bool.and_false, Bool.or_true, Bool.true_or, Bool.false_or, Bool.or_false, Bool.not_true, Bool.not_false, if_true, if_false, Bool.false_eq_true, if_pos, if_neg]
      clear hr
      go_enter Tryz.func77, Tryz.ntmps77
      go_wp2_with fail
      refine (waiting_any x t s c _ hl (HE.out.kept0 HK0.out) _ h2).mono ?_
      rintro e w1 ⟨rfl, hk1⟩
      have HK1 := Lib.hid (HK0.out.tr0 hk1)
      have HT1 := Lib.hid (HT0.out.kept0 hk1)
      have HN1 := Lib.hid (HN0.out.kept0 hk1)
      clear hk1
      go_wp2_with fail
      go_ret
      exact ⟨rfl, HK1.out⟩

theorem lock_no (x : Th) (t k v : Int) (s : Option Addr) (c : Nat) (w : World) (r : Bool) (hr : lockMayM x t k v = r) (hk : k ≠ 1 ∧ k ≠ 3 ∧ k ≠ 5 ∧ k ≠ 6 ∧ k ≠ 7 ∧ k ≠ 10 ∧ k ≠ 11 ∧ k ≠ 12 ∧ k ≠ 13) :
    Calls Tryz.prog 77 #[x.agg s c, .int .i64 t, .agg #[.int .i64 k, .int .i64 v]] w fun e w' => e = .returned (.bool r) ∧ Kept (fun _ => False) w w' := by
  obtain ⟨n1, n3, n5, n6, n7, n10, n11, n12, n13⟩ := hk
  obtain rfl : r = false := by rw [← hr]; simp only [lockMayM, if_neg n1, if_neg n3, if_neg n5, if_neg n6, if_neg n7, if_neg n10, if_neg n11, if_neg n12, if_neg n13]
  clear hr
  have HK0 : Hid (Kept (fun _ => False) w ((w.alloc (.cells (x.box s c) 42)).alloc (.cells #[.int .i64 k, .int .i64 v] 36))) := Lib.hid (((Kept.refl _ w).alloc _).alloc _)
  have HT0 : Hid (BoxT ((w.alloc (.cells (x.box s c) 42)).alloc (.cells #[.int .i64 k, .int .i64 v] 36)) w.heap.size x s c) := Lib.hid ((BoxT.new w x s c).kept0 ((Kept.refl _ _).alloc _))
  have HN0 : Hid (BoxN ((w.alloc (.cells (x.box s c) 42)).alloc (.cells #[.int .i64 k, .int .i64 v] 36)) (w.heap.size + 1) k v) := Lib.hid (by have := BoxN.new (w.alloc (.cells (x.box s c) 42)) k v; rwa [show (w.alloc (.cells (x.box s c) 42)).heap.size = w.heap.size + 1 from by simp] at this)
  go_enter Tryz.func77, Tryz.ntmps77
  go_wp2_with fail
  go_ret
  exact ⟨rfl, HK0.out⟩

theorem lock_any (x : Th) (t k v : Int) (s : Option Addr) (c : Nat) (w : World) (hl : x.ws.length ≤ 200) (hE : InW w x s) (r : Bool) (hr : lockMayM x t k v = r) :
    Calls Tryz.prog 77 #[x.agg s c, .int .i64 t, .agg #[.int .i64 k, .int .i64 v]] w fun e w' => e = .returned (.bool r) ∧ Kept (fun _ => False) w w' := by
  have hc : k = 1 ∨ k = 3 ∨ k = 5 ∨ k = 6 ∨ k = 7 ∨ k = 10 ∨ k = 11 ∨ k = 12 ∨ k = 13 ∨ (k ≠ 1 ∧ k ≠ 3 ∧ k ≠ 5 ∧ k ≠ 6 ∧ k ≠ 7 ∧ k ≠ 10 ∧ k ≠ 11 ∧ k ≠ 12 ∧ k ≠ 13) := by omega
  rcases hc with rfl | rfl | rfl | rfl | rfl | rfl | rfl | rfl | rfl | hk
  · exact lock_1 x t v s c w hl hE r hr
  · exact lock_3 x t v s c w hl hE r hr
  · exact lock_5 x t v s c w hl hE r hr
  · exact lock_6 x t v s c w hl hE r hr
  · exact lock_7 x t v s c w hl hE r hr
  · exact lock_10 x t v s c w hl hE r hr
  · exact lock_11 x t v s c w hl hE r hr
  · exact lock_12 x t v s c w hl hE r hr
  · exact lock_13 x t v s c w hl hE r hr
  · exact lock_no x t k v s c w r hr hk

end Go.Proofs.YtbodlaiakcoabaaGreatDoor
