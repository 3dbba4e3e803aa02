/-
  What the small tests of package model come to.
  Conditions: as each says.
-/
import Derived.Test.YthjblniabnjfhaaModMem
import Derived.Test.YthjblniabnjfhaaModWait
import Derived.Test.YthjblniabnjfhaaModTog
import Derived.LoopTactic
import Derived.Deep.QuietTactic
import Derived.BigQuiet
import Derived.Outline
namespace Go.Proofs.Ythjblniabnjfhaa
open Go.RowKit
set_option linter.unusedSimpArgs false
set_option linter.unusedVariables false

theorem quit_any (k v : Int) (w : World) (r : Bool) (hr : quitM k v = r) :
    Calls Try.prog 28 #[.agg #[.int .i64 k, .int .i64 v]] w fun e w' => e = .returned (.bool r) ∧ Kept (fun _ => False) w w' := by
  have HK0 : Hid (Kept (fun _ => False) w (w.alloc (.cells #[.int .i64 k, .int .i64 v] 29))) := Lib.hid ((Kept.refl _ w).alloc _)
  have HN0 : Hid (BoxN (w.alloc (.cells #[.int .i64 k, .int .i64 v] 29)) w.heap.size k v) := Lib.hid (BoxN.new w k v)
  unfold quitM at hr
  cases h1 : (k == 17) with
  | false =>
    obtain rfl : r = false := by rw [← hr]; simp only [h1, Bool.and_true, Bool.true_and, Bool.false_and, Bool.and_false, Bool.or_true, Bool.true_or, Bool.false_or, Bool.or_false, Bool.not_true, Bool.not_false, if_true, if_false, Bool.false_eq_true, if_pos, if_neg]
    clear hr
    go_enter Try.func28, Try.ntmps28
    go_wp2_with fail
    go_ret
    exact ⟨rfl, HK0.out⟩
  | true =>
    cases h2 : (v == 0) with
    | false =>
      obtain rfl : r = false := by rw [← hr]; simp only [h1, h2, Bool.and_true, Bool.true_and, Bool.false_and, Bool.and_false, Bool.or_true, Bool.true_or, Bool.false_or, Bool.or_false, Bool.not_true, Bool.not_false, if_true, if_false, Bool.false_eq_true, if_pos, if_neg]
      clear hr
      go_enter Try.func28, Try.ntmps28
      go_wp2_with fail
      go_ret
      exact ⟨rfl, HK0.out⟩
    | true =>
      obtain rfl : r = true := by rw [← hr]; simp only [h1, h2, Bool.and_true, Bool.true_and, Bool.false_and, Bool.and_false, Bool.or_true, Bool.true_or, Bool.false_or, Bool.or_false, Bool.not_true, Bool.not_false, if_true, if_false, Bool.false_eq_true, if_pos, if_neg]
      clear hr
      go_enter Try.func28, Try.ntmps28
      go_wp2_with fail
      go_ret
      exact ⟨rfl, HK0.out⟩

theorem once_any (x : Th) (t : Int) (s : Option Addr) (c : Nat) (w : World) (r : Bool) (hr : onceM x t = r) :
    Calls Try.prog 41 #[x.agg s c, .int .i64 t] w fun e w' => e = .returned (.bool r) ∧ Kept (fun _ => False) w w' := by
  have HK0 : Hid (Kept (fun _ => False) w (w.alloc (.cells (x.box s c) 27))) := Lib.hid ((Kept.refl _ w).alloc _)
  have HT0 : Hid (BoxT (w.alloc (.cells (x.box s c) 27)) w.heap.size x s c) := Lib.hid (BoxT.new w x s c)
  unfold onceM at hr
  cases h1 : (x.owner == t) with
  | false =>
    obtain rfl : r = false := by rw [← hr]; simp only [h1, Bool.and_true, Bool.true_and, Bool.false_and, Bool.and_false, Bool.or_true, Bool.true_or, Bool.false_or, Bool.or_false, Bool.not_true, Bool.not_false, if_true, if_false, Bool.false_eq_true, if_pos, if_neg]
    clear hr
    go_enter Try.func41, Try.ntmps41
    go_wp2_with fail
    go_ret
    exact ⟨rfl, HK0.out⟩
  | true =>
    cases h2 : (decide (x.holds < 1000)) with
    | false =>
      obtain rfl : r = false := by rw [← hr]; simp only [h1, h2, Bool.and_true, Bool.true_and, Bool.false_and, Bool.and_false, Bool.or_true, Bool.true_or, Bool.false_or, Bool.or_false, Bool.not_true, Bool.not_false, if_true, if_false, Bool.false_eq_true, if_pos, if_neg]
      clear hr
      go_enter Try.func41, Try.ntmps41
      go_wp2_with fail
      go_ret
      exact ⟨rfl, HK0.out⟩
    | true =>
      obtain rfl : r = true := by rw [← hr]; simp only [h1, h2, Bool.and_true, Bool.true_and, Bool.false_and, Bool.and_false, Bool.or_true, Bool.true_or, Bool.false_or, Bool.or_false, Bool.not_true, Bool.not_false, if_true, if_false, Bool.false_eq_true, if_pos, if_neg]
      clear hr
      go_enter Try.func41, Try.ntmps41
      go_wp2_with fail
      go_ret
      exact ⟨rfl, HK0.out⟩

theorem out_any (x : Th) (t : Int) (s : Option Addr) (c : Nat) (w : World) (r : Bool) (hr : outM x t = r) :
    Calls Try.prog 43 #[x.agg s c, .int .i64 t] w fun e w' => e = .returned (.bool r) ∧ Kept (fun _ => False) w w' := by
  have HK0 : Hid (Kept (fun _ => False) w (w.alloc (.cells (x.box s c) 27))) := Lib.hid ((Kept.refl _ w).alloc _)
  have HT0 : Hid (BoxT (w.alloc (.cells (x.box s c) 27)) w.heap.size x s c) := Lib.hid (BoxT.new w x s c)
  unfold outM at hr
  cases h1 : (x.owner == t) with
  | false =>
    obtain rfl : r = false := by rw [← hr]; simp only [h1, Bool.and_true, Bool.true_and, Bool.false_and, Bool.and_false, Bool.or_true, Bool.true_or, Bool.false_or, Bool.or_false, Bool.not_true, Bool.not_false, if_true, if_false, Bool.false_eq_true, if_pos, if_neg]
    clear hr
    go_enter Try.func43, Try.ntmps43
    go_wp2_with fail
    go_ret
    exact ⟨rfl, HK0.out⟩
  | true =>
    cases h2 : (x.holds == 1000) with
    | false =>
      obtain rfl : r = false := by rw [← hr]; simp only [h1, h2, Bool.and_true, Bool.true_and, Bool.false_and, Bool.and_false, Bool.or_true, Bool.true_or, Bool.false_or, Bool.or_false, Bool.not_true, Bool.not_false, if_true, if_false, Bool.false_eq_true, if_pos, if_neg]
      clear hr
      go_enter Try.func43, Try.ntmps43
      go_wp2_with fail
      go_ret
      exact ⟨rfl, HK0.out⟩
    | true =>
      obtain rfl : r = true := by rw [← hr]; simp only [h1, h2, Bool.and_true, Bool.true_and, Bool.false_and, Bool.and_false, Bool.or_true, Bool.true_or, Bool.false_or, Bool.or_false, Bool.not_true, Bool.not_false, if_true, if_false, Bool.false_eq_true, if_pos, if_neg]
      clear hr
      go_enter Try.func43, Try.ntmps43
      go_wp2_with fail
      go_ret
      exact ⟨rfl, HK0.out⟩

theorem others_any (x : Th) (t : Int) (s : Option Addr) (c : Nat) (w : World) (r : Bool) (hr : othersM x t = r) :
    Calls Try.prog 42 #[x.agg s c, .int .i64 t] w fun e w' => e = .returned (.bool r) ∧ Kept (fun _ => False) w w' := by
  have HK0 : Hid (Kept (fun _ => False) w (w.alloc (.cells (x.box s c) 27))) := Lib.hid ((Kept.refl _ w).alloc _)
  have HT0 : Hid (BoxT (w.alloc (.cells (x.box s c) 27)) w.heap.size x s c) := Lib.hid (BoxT.new w x s c)
  unfold othersM at hr
  cases h1 : (x.owner != -1) with
  | false =>
    obtain rfl : r = false := by rw [← hr]; simp only [h1, Bool.and_true, Bool.true_and, Bool.false_and, Bool.and_false, Bool.or_true, Bool.true_or, Bool.false_or, Bool.or_false, Bool.not_true, Bool.not_false, if_true, if_false, Bool.false_eq_true, if_pos, if_neg]
    clear hr
    go_enter Try.func42, Try.ntmps42
    go_wp2_with fail
    go_ret
    exact ⟨rfl, HK0.out⟩
  | true =>
    cases h2 : (x.owner != t) with
    | false =>
      obtain rfl : r = false := by rw [← hr]; simp only [h1, h2, Bool.and_true, Bool.true_and, Bool.false_and, Bool.and_false, Bool.or_true, Bool.true_or, Bool.false_or, Bool.or_false, Bool.not_true, Bool.not_false, if_true, if_false, Bool.false_eq_true, if_pos, if_neg]
      clear hr
      go_enter Try.func42, Try.ntmps42
      go_wp2_with fail
      go_ret
      exact ⟨rfl, HK0.out⟩
    | true =>
      obtain rfl : r = true := by rw [← hr]; simp only [h1, h2, Bool.and_true, Bool.true_and, Bool.false_and, Bool.and_false, Bool.or_true, Bool.true_or, Bool.false_or, Bool.or_false, Bool.not_true, Bool.not_false, if_true, if_false, Bool.false_eq_true, if_pos, if_neg]
      clear hr
      go_enter Try.func42, Try.ntmps42
      go_wp2_with fail
      go_ret
      exact ⟨rfl, HK0.out⟩

theorem over_any (n v : Int) (w : World) (h1 : 1 ≤ v) (v1 : v ≤ 9223372036854775807) (r : Bool) (hr : overM n v = r) :
    Calls Try.prog 45 #[.int .i64 n, .int .i64 v] w fun e w' => e = .returned (.bool r) ∧ Kept (fun _ => False) w w' := by
  have b0 : -9223372036854775808 ≤ 1000 - v := by omega
  have b1 : 1000 - v ≤ 9223372036854775807 := by omega
  have HR := Lib.hid hr
  clear hr
  go_enter Try.func45, Try.ntmps45
  go_wp2_with fail
  go_ret
  exact ⟨by rw [← HR.out]; rfl, Kept.refl _ w⟩

theorem isFor_any (x : Th) (t v : Int) (s : Option Addr) (c : Nat) (w : World) (hl : x.ws.length ≤ 200) (hE : InW w x s) (r : Bool) (hr : isForM x t v = r) :
    Calls Try.prog 40 #[x.agg s c, .int .i64 t, .int .i64 v] w fun e w' => e = .returned (.bool r) ∧ Kept (fun _ => False) w w' := by
  have HE := Lib.hid hE
  clear hE
  have HK0 : Hid (Kept (fun _ => False) w (w.alloc (.cells (x.box s c) 27))) := Lib.hid ((Kept.refl _ w).alloc _)
  have HT0 : Hid (BoxT (w.alloc (.cells (x.box s c) 27)) w.heap.size x s c) := Lib.hid (BoxT.new w x s c)
  unfold isForM at hr
  cases h1 : (x.owner == -1) with
  | false =>
    obtain rfl : r = false := by rw [← hr]; simp only [h1, Bool.and_true, Bool.true_and, Bool.false_and, Bool.and_false, Bool.or_true, Bool.true_or, Bool.false_or, Bool.or_false, Bool.not_true, Bool.not_false, if_true, if_false, Bool.false_eq_true, if_pos, if_neg]
    clear hr
    go_enter Try.func40, Try.ntmps40
    go_wp2_with fail
    go_ret
    exact ⟨rfl, HK0.out⟩
  | true =>
    cases h2 : (decide (1 ≤ v)) with
    | false =>
      obtain rfl : r = false := by rw [← hr]; simp only [h1, h2, Bool.and_true, Bool.true_and, Bool.false_and, Bool.and_false, Bool.or_true, Bool.true_or, Bool.false_or, Bool.or_false, Bool.not_true, Bool.not_false, if_true, if_false, Bool.false_eq_true, if_pos, if_neg]
      clear hr
      go_enter Try.func40, Try.ntmps40
      go_wp2_with fail
      go_ret
      exact ⟨rfl, HK0.out⟩
    | true =>
      cases h3 : (decide (v ≤ 1000)) with
      | false =>
        obtain rfl : r = false := by rw [← hr]; simp only [h1, h2, h3, Bool.and_true, Bool.true_and, Bool.false_and, Bool.and_false, Bool.or_true, Bool.true_or, Bool.false_or, Bool.or_false, Bool.not_true, Bool.not_false, if_true, if_false, Bool.false_eq_true, if_pos, if_neg]
        clear hr
        go_enter Try.func40, Try.ntmps40
        go_wp2_with fail
        go_ret
        exact ⟨rfl, HK0.out⟩
      | true =>
        cases h4 : (waitsM x.ws t) with
        | false =>
          obtain rfl : r = true := by rw [← hr]; simp only [h1, h2, h3, h4, Bool.and_true, Bool.true_and, Bool.false_and, Bool.and_false, Bool.or_true, Bool.true_or, Bool.false_or, Bool.or_false, Bool.not_true, Bool.not_false, if_true, if_false, Bool.false_eq_true, if_pos, if_neg]
          clear hr
          go_enter Try.func40, Try.ntmps40
          go_wp2_with fail
          refine (waiting_any x t s c _ hl (HE.out.kept0 HK0.out) _ h4).mono ?_
          rintro e w1 ⟨rfl, hk1⟩
          have HK1 := Lib.hid (HK0.out.tr0 hk1)
          have HT1 := Lib.hid (HT0.out.kept0 hk1)
          clear hk1
          go_wp2_with fail
          go_ret
          exact ⟨rfl, HK1.out⟩
        | true =>
          obtain rfl : r = false := by rw [← hr]; simp only [h1, h2, h3, h4, Bool.and_true, Bool.true_and, Bool.false_and, Bool.and_false, Bool.or_true, Bool.true_or, Bool.false_or, Bool.or_false, Bool.not_true, Bool.not_false, if_true, if_false, Bool.false_eq_true, if_pos, if_neg]
          clear hr
          go_enter Try.func40, Try.ntmps40
          go_wp2_with fail
          refine (waiting_any x t s c _ hl (HE.out.kept0 HK0.out) _ h4).mono ?_
          rintro e w1 ⟨rfl, hk1⟩
          have HK1 := Lib.hid (HK0.out.tr0 hk1)
          have HT1 := Lib.hid (HT0.out.kept0 hk1)
          clear hk1
          go_wp2_with fail
          go_ret
          exact ⟨rfl, HK1.out⟩

end Go.Proofs.Ythjblniabnjfhaa
