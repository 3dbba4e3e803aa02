/-
  How often all threads read: package model's together.
  Conditions: no count is beyond two millions.
  What the small tests of package model come to.
  Conditions: as each says.
-/
import Derived.Test.YtbodlaiakcoabaaGreatDoorModMem
import Derived.LoopTactic
import Derived.Deep.QuietTactic
import Derived.BigQuiet
import Derived.Outline
import Derived.Test.YtbodlaiakcoabaaGreatDoorModHeldW
section
set_option maxRecDepth 100000
namespace Go.Proofs.YtbodlaiakcoabaaGreatDoor
open Go.RowKit
set_option linter.unusedSimpArgs false

theorem and_low32 (v : Int) : bits .and .i64 v 4294967295 = v % 4294967296 := by
  have e : (BitVec.ofInt 64 v &&& BitVec.ofInt 64 4294967295).toNat = (v % 4294967296).toNat := by
    rw [BitVec.toNat_and, BitVec.toNat_ofInt, BitVec.toNat_ofInt]
    rw [show ((4294967295 : Int) % ((2 ^ 64 : Nat) : Int)).toNat = 2 ^ 32 - 1 from by decide, Nat.and_two_pow_sub_one_eq_mod]
    omega
  show IntKind.i64.wrap (((BitVec.ofInt 64 v &&& BitVec.ofInt 64 4294967295).toNat : Nat) : Int) = _
  rw [e]
  have : ∀ x : Int, 0 ≤ x → x < 4294967296 → IntKind.i64.wrap x = x := by
    intro x a b
    have hm : x % 18446744073709551616 = x := by omega
    show (if (true && decide (x % 18446744073709551616 ≥ 9223372036854775808)) = true then x % 18446744073709551616 - 18446744073709551616 else x % 18446744073709551616) = x
    rw [hm, if_neg (by simp; omega)]
  rw [this _ (by omega) (by omega)]; omega

section
variable {P : Program} {ops : Array Oper} {rest : List Oper} {o : Oper} {a : Act} {Q : Exit → Act → World → Prop} {w : World}
/-- An element of an array by value. -/
theorem wpList_index {T : TypeId} {x i : Operand} {v : Value} (hgd : o.guard = none) (ho : o.op = .index T x i) (hrun : (Instr.index T (a.eval x) (a.eval i)).run P w = .ok v w) (h : wpList P ops Q rest (a.put o.dst v) w) : wpList P ops Q (o :: rest) a w := by
  refine wpList_plain hgd fun _ hK => ?_
  unfold Oper.wp execOp
  simp only [ho, Sem.run_bind, Sem.run_pure, Result.andThen_ok, hrun]
  exact hK _ _ h
end
theorem reads_index (r : Nat → Int) (k : Nat) (hk : k < 8) (w : World) : (Instr.index 39 (.agg #[.int .i64 (r 0), .int .i64 (r 1), .int .i64 (r 2), .int .i64 (r 3), .int .i64 (r 4), .int .i64 (r 5), .int .i64 (r 6), .int .i64 (r 7)]) (.int .i64 k)).run Tryz.prog w = .ok (.int .i64 (r k)) w := by
  obtain rfl | rfl | rfl | rfl | rfl | rfl | rfl | rfl : k = 0 ∨ k = 1 ∨ k = 2 ∨ k = 3 ∨ k = 4 ∨ k = 5 ∨ k = 6 ∨ k = 7 := by omega
  all_goals (show _ = _; kernel_rfl)

/-- What the first k of them come to. -/
def sumTo (r : Nat → Int) : Nat → Int
  | 0 => 0
  | k + 1 => sumTo r k + r k
theorem sum_to (x : Th) : sumTo x.r 8 = x.sum := by simp [sumTo, Th.sum]
/-- What the program tells of the sum. -/
def togM (x : Th) : Int := if x.sum < 0 then -1 else x.sum
theorem Fit.sum0 {x : Th} (h : Fit x) : -16000000 ≤ x.sum ∧ x.sum ≤ 16000000 := by
  have a0 := h.r0 0 (by omega); have a1 := h.r0 1 (by omega); have a2 := h.r0 2 (by omega); have a3 := h.r0 3 (by omega)
  have a4 := h.r0 4 (by omega); have a5 := h.r0 5 (by omega); have a6 := h.r0 6 (by omega); have a7 := h.r0 7 (by omega)
  have b0 := h.r1 0 (by omega); have b1 := h.r1 1 (by omega); have b2 := h.r1 2 (by omega); have b3 := h.r1 3 (by omega)
  have b4 := h.r1 4 (by omega); have b5 := h.r1 5 (by omega); have b6 := h.r1 6 (by omega); have b7 := h.r1 7 (by omega)
  unfold Th.sum
  omega
theorem tog_zero (x : Th) : (togM x == 0) = (x.sum == 0) := by
  unfold togM
  split
  · rw [show (x.sum == 0) = false from by rw [beq_eq_false_iff_ne]; omega]; rfl
  · rfl
theorem tog_pos (x : Th) : decide (0 < togM x) = decide (0 < x.sum) := by
  unfold togM
  split
  · rw [decide_eq_false (show ¬ 0 < x.sum by omega)]; rfl
  · rfl
theorem tog_less (x : Th) : decide (togM x < 1000) = decide (x.sum < 1000) := by
  unfold togM
  split
  · rw [decide_eq_true (show x.sum < 1000 by omega)]; rfl
  · rfl
theorem tog_full (x : Th) : (togM x == 1000) = (x.sum == 1000) := by
  unfold togM
  split
  · rw [show (x.sum == 1000) = false from by rw [beq_eq_false_iff_ne]; omega]; rfl
  · rfl

set_option maxHeartbeats 2000000 in
theorem tog_any (x : Th) (s : Option Addr) (c : Nat) (w : World) (hF : Fit x) (v : Int) (hv : togM x = v) :
    Calls Tryz.prog 100 #[x.agg s c] w fun e w' => e = .returned (.int .i64 v) ∧ Kept (fun _ => False) w w' := by
  have HS : Hid (sumTo x.r 8 = x.sum) := Lib.hid (sum_to x)
  have HR := Lib.hid hF.r0
  have HR1 := Lib.hid hF.r1
  have HU := Lib.hid hF.sum0
  have HV := Lib.hid hv
  have hA := and_low32
  clear hF hv
  go_enter Tryz.func100, Tryz.ntmps100
  go_wp2_with fail
  go_loopw [3, 4, 9] (fun a b i wr => ∃ (k : Nat) (h l : Int), a = .int .i64 h ∧ b = .int .i64 l ∧ i = .int .i64 k ∧ k ≤ 8 ∧ wr = w.alloc (.cells (x.box s c) 42) ∧ -(k : Int) ≤ h ∧ h ≤ 0 ∧ 0 ≤ l ∧ l ≤ k * 4294967296 ∧ h * 4294967296 + l = sumTo x.r k) (fun _ _ i _ => 8 - (intOf i).toNat)
  case atStart => exact ⟨0, 0, 0, rfl, rfl, rfl, by omega, rfl, by omega, by omega, by omega, by omega, rfl⟩
  case round =>
    obtain ⟨k, h, l, rfl, rfl, rfl, hk, rfl, h0, h1, l0, l1, hsum⟩ := hrel
    have HQ := Lib.hid hsum; clear hsum
    by_cases hkk : k < 8
    · have e0 := HR.out k hkk
      have e1 := HR1.out k hkk
      have d0 : -1 ≤ x.r k / 4294967296 := by omega
      have d1 : x.r k / 4294967296 ≤ 0 := by omega
      have m0 : 0 ≤ x.r k % 4294967296 := by omega
      have m1 : x.r k % 4294967296 < 4294967296 := by omega
      have HD : Hid (x.r k / 4294967296 * 4294967296 + x.r k % 4294967296 = x.r k) := Lib.hid (by omega)
      clear e0 e1
      have HI := Lib.hid (reads_index x.r k hkk)
      have k1 : (k : Int) < 8 := by omega
      have k2 : (k : Int) + 1 ≤ 8 := by omega
      go_wp2_with (refine wpList_index rfl rfl (HI.out _) ?_)
      go_roundw
      case rel => exact ⟨k + 1, _, _, rfl, rfl, by go_num, by omega, trivial, by push_cast; omega, by omega, by omega, by push_cast; omega, by show _ = sumTo x.r k + x.r k; have := HQ.out; have := HD.out; omega⟩
      case measure => simp [intOf]; omega
    · have hk8 : k = 8 := by omega
      subst hk8
      have hq := HQ.out
      rw [HS.out] at hq
      have hu := HU.out
      have q0 : -8 ≤ h + l / 4294967296 := by omega
      have q1 : h + l / 4294967296 ≤ 8 := by omega
      by_cases hs : x.sum < 0
      · have hn : h + l / 4294967296 = -1 := by omega
        have hv : v = -1 := by rw [← HV.out]; unfold togM; rw [if_pos hs]
        clear hq hu hs
        subst hv
        go_wp2_with fail
        go_ret
        exact ⟨rfl, (Kept.refl _ w).alloc _⟩
      · have hn : h + l / 4294967296 = 0 := by omega
        have hm : l % 4294967296 = v := by rw [← HV.out]; unfold togM; rw [if_neg hs]; omega
        clear hq hu hs
        go_wp2_with fail
        go_ret
        exact ⟨rfl, (Kept.refl _ w).alloc _⟩

end Go.Proofs.YtbodlaiakcoabaaGreatDoor
end
section
namespace Go.Proofs.YtbodlaiakcoabaaGreatDoor
open Go.RowKit
set_option linter.unusedSimpArgs false
set_option linter.unusedVariables false

theorem quit_any (k v : Int) (w : World) (r : Bool) (hr : quitM k v = r) :
    Calls Tryz.prog 78 #[.agg #[.int .i64 k, .int .i64 v]] w fun e w' => e = .returned (.bool r) ∧ Kept (fun _ => False) w w' := by
  have HK0 : Hid (Kept (fun _ => False) w (w.alloc (.cells #[.int .i64 k, .int .i64 v] 36))) := Lib.hid ((Kept.refl _ w).alloc _)
  have HN0 : Hid (BoxN (w.alloc (.cells #[.int .i64 k, .int .i64 v] 36)) w.heap.size k v) := Lib.hid (BoxN.new w k v)
  unfold quitM at hr
  cases h1 : (k == 17) with
  | false =>
    obtain rfl : r = false := by rw [← hr]; simp only [h1, Bool.and_true, Bool.true_and, Bool.false_and, Bool.and_false, Bool.or_true, Bool.true_or, Bool.false_or, Bool.or_false, Bool.not_true, Bool.not_false, if_true, if_false, Bool.false_eq_true, if_pos, if_neg]
    clear hr
    go_enter Tryz.func78, Tryz.ntmps78
    go_wp2_with fail
    go_ret
    exact ⟨rfl, HK0.out⟩
  | true =>
    cases h2 : (v == 0) with
    | false =>
      obtain rfl : r = false := by rw [← hr]; simp only [h1, h2, Bool.and_true, Bool.true_and, Bool.false_and, Bool.and_false, Bool.or_true, Bool.true_or, Bool.false_or, Bool.or_false, Bool.not_true, Bool.not_false, if_true, if_false, Bool.false_eq_true, if_pos, if_neg]
      clear hr
      go_enter Tryz.func78, Tryz.ntmps78
      go_wp2_with fail
      go_ret
      exact ⟨rfl, HK0.out⟩
    | true =>
      obtain rfl : r = true := by rw [← hr]; simp only [h1, h2, Bool.and_true, Bool.true_and, Bool.false_and, Bool.and_false, Bool.or_true, Bool.true_or, Bool.false_or, Bool.or_false, Bool.not_true, Bool.not_false, if_true, if_false, Bool.false_eq_true, if_pos, if_neg]
      clear hr
      go_enter Tryz.func78, Tryz.ntmps78
      go_wp2_with fail
      go_ret
      exact ⟨rfl, HK0.out⟩

theorem once_any (x : Th) (t : Int) (s : Option Addr) (c : Nat) (w : World) (r : Bool) (hr : onceM x t = r) :
    Calls Tryz.prog 95 #[x.agg s c, .int .i64 t] w fun e w' => e = .returned (.bool r) ∧ Kept (fun _ => False) w w' := by
  have HK0 : Hid (Kept (fun _ => False) w (w.alloc (.cells (x.box s c) 42))) := Lib.hid ((Kept.refl _ w).alloc _)
  have HT0 : Hid (BoxT (w.alloc (.cells (x.box s c) 42)) w.heap.size x s c) := Lib.hid (BoxT.new w x s c)
  unfold onceM at hr
  cases h1 : (x.owner == t) with
  | false =>
    obtain rfl : r = false := by rw [← hr]; simp only [h1, Bool.and_true, Bool.true_and, Bool.false_and, Bool.and_false, Bool.or_true, Bool.true_or, Bool.false_or, Bool.or_false, Bool.not_true, Bool.not_false, if_true, if_false, Bool.false_eq_true, if_pos, if_neg]
    clear hr
    go_enter Tryz.func95, Tryz.ntmps95
    go_wp2_with fail
    go_ret
    exact ⟨rfl, HK0.out⟩
  | true =>
    cases h2 : (decide (x.holds < 1000)) with
    | false =>
      obtain rfl : r = false := by rw [← hr]; simp only [h1, h2, Bool.and_true, Bool.true_and, Bool.false_and, Bool.and_false, Bool.or_true, Bool.true_or, Bool.false_or, Bool.or_false, Bool.not_true, Bool.not_false, if_true, if_false, Bool.false_eq_true, if_pos, if_neg]
      clear hr
      go_enter Tryz.func95, Tryz.ntmps95
      go_wp2_with fail
      go_ret
      exact ⟨rfl, HK0.out⟩
    | true =>
      obtain rfl : r = true := by rw [← hr]; simp only [h1, h2, Bool.and_true, Bool.true_and, Bool.false_and, Bool.and_false, Bool.or_true, Bool.true_or, Bool.false_or, Bool.or_false, Bool.not_true, Bool.not_false, if_true, if_false, Bool.false_eq_true, if_pos, if_neg]
      clear hr
      go_enter Tryz.func95, Tryz.ntmps95
      go_wp2_with fail
      go_ret
      exact ⟨rfl, HK0.out⟩

theorem out_any (x : Th) (t : Int) (s : Option Addr) (c : Nat) (w : World) (r : Bool) (hr : outM x t = r) :
    Calls Tryz.prog 97 #[x.agg s c, .int .i64 t] w fun e w' => e = .returned (.bool r) ∧ Kept (fun _ => False) w w' := by
  have HK0 : Hid (Kept (fun _ => False) w (w.alloc (.cells (x.box s c) 42))) := Lib.hid ((Kept.refl _ w).alloc _)
  have HT0 : Hid (BoxT (w.alloc (.cells (x.box s c) 42)) w.heap.size x s c) := Lib.hid (BoxT.new w x s c)
  unfold outM at hr
  cases h1 : (x.owner == t) with
  | false =>
    obtain rfl : r = false := by rw [← hr]; simp only [h1, Bool.and_true, Bool.true_and, Bool.false_and, Bool.and_false, Bool.or_true, Bool.true_or, Bool.false_or, Bool.or_false, Bool.not_true, Bool.not_false, if_true, if_false, Bool.false_eq_true, if_pos, if_neg]
    clear hr
    go_enter Tryz.func97, Tryz.ntmps97
    go_wp2_with fail
    go_ret
    exact ⟨rfl, HK0.out⟩
  | true =>
    cases h2 : (x.holds == 1000) with
    | false =>
      obtain rfl : r = false := by rw [← hr]; simp only [h1, h2, Bool.and_true, Bool.true_and, Bool.false_and, Bool.and_false, Bool.or_true, Bool.true_or, Bool.false_or, Bool.or_false, Bool.not_true, Bool.not_false, if_true, if_false, Bool.false_eq_true, if_pos, if_neg]
      clear hr
      go_enter Tryz.func97, Tryz.ntmps97
      go_wp2_with fail
      go_ret
      exact ⟨rfl, HK0.out⟩
    | true =>
      obtain rfl : r = true := by rw [← hr]; simp only [h1, h2, Bool.and_true, Bool.true_and, Bool.false_and, Bool.and_false, Bool.or_true, Bool.true_or, Bool.false_or, Bool.or_false, Bool.not_true, Bool.not_false, if_true, if_false, Bool.false_eq_true, if_pos, if_neg]
      clear hr
      go_enter Tryz.func97, Tryz.ntmps97
      go_wp2_with fail
      go_ret
      exact ⟨rfl, HK0.out⟩

theorem others_any (x : Th) (t : Int) (s : Option Addr) (c : Nat) (w : World) (r : Bool) (hr : othersM x t = r) :
    Calls Tryz.prog 96 #[x.agg s c, .int .i64 t] w fun e w' => e = .returned (.bool r) ∧ Kept (fun _ => False) w w' := by
  have HK0 : Hid (Kept (fun _ => False) w (w.alloc (.cells (x.box s c) 42))) := Lib.hid ((Kept.refl _ w).alloc _)
  have HT0 : Hid (BoxT (w.alloc (.cells (x.box s c) 42)) w.heap.size x s c) := Lib.hid (BoxT.new w x s c)
  unfold othersM at hr
  cases h1 : (x.owner != -1) with
  | false =>
    obtain rfl : r = false := by rw [← hr]; simp only [h1, Bool.and_true, Bool.true_and, Bool.false_and, Bool.and_false, Bool.or_true, Bool.true_or, Bool.false_or, Bool.or_false, Bool.not_true, Bool.not_false, if_true, if_false, Bool.false_eq_true, if_pos, if_neg]
    clear hr
    go_enter Tryz.func96, Tryz.ntmps96
    go_wp2_with fail
    go_ret
    exact ⟨rfl, HK0.out⟩
  | true =>
    cases h2 : (x.owner != t) with
    | false =>
      obtain rfl : r = false := by rw [← hr]; simp only [h1, h2, Bool.and_true, Bool.true_and, Bool.false_and, Bool.and_false, Bool.or_true, Bool.true_or, Bool.false_or, Bool.or_false, Bool.not_true, Bool.not_false, if_true, if_false, Bool.false_eq_true, if_pos, if_neg]
      clear hr
      go_enter Tryz.func96, Tryz.ntmps96
      go_wp2_with fail
      go_ret
      exact ⟨rfl, HK0.out⟩
    | true =>
      obtain rfl : r = true := by rw [← hr]; simp only [h1, h2, Bool.and_true, Bool.true_and, Bool.false_and, Bool.and_false, Bool.or_true, Bool.true_or, Bool.false_or, Bool.or_false, Bool.not_true, Bool.not_false, if_true, if_false, Bool.false_eq_true, if_pos, if_neg]
      clear hr
      go_enter Tryz.func96, Tryz.ntmps96
      go_wp2_with fail
      go_ret
      exact ⟨rfl, HK0.out⟩

theorem over_any (n v : Int) (w : World) (h1 : 1 ≤ v) (v1 : v ≤ 9223372036854775807) (r : Bool) (hr : overM n v = r) :
    Calls Tryz.prog 99 #[.int .i64 n, .int .i64 v] w fun e w' => e = .returned (.bool r) ∧ Kept (fun _ => False) w w' := by
  have b0 : -9223372036854775808 ≤ 1000 - v := by omega
  have b1 : 1000 - v ≤ 9223372036854775807 := by omega
  have HR := Lib.hid hr
  clear hr
  go_enter Tryz.func99, Tryz.ntmps99
  go_wp2_with fail
  go_ret
  exact ⟨by rw [← HR.out]; rfl, Kept.refl _ w⟩

theorem isFor_any (x : Th) (t v : Int) (s : Option Addr) (c : Nat) (w : World) (hl : x.ws.length ≤ 200) (hE : InW w x s) (r : Bool) (hr : isForM x t v = r) :
    Calls Tryz.prog 94 #[x.agg s c, .int .i64 t, .int .i64 v] w fun e w' => e = .returned (.bool r) ∧ Kept (fun _ => False) w w' := by
  have HE := Lib.hid hE
  clear hE
  have HK0 : Hid (Kept (fun _ => False) w (w.alloc (.cells (x.box s c) 42))) := Lib.hid ((Kept.refl _ w).alloc _)
  have HT0 : Hid (BoxT (w.alloc (.cells (x.box s c) 42)) w.heap.size x s c) := Lib.hid (BoxT.new w x s c)
  unfold isForM at hr
  cases h1 : (x.owner == -1) with
  | false =>
    obtain rfl : r = false := by rw [← hr]; simp only [h1, Bool.and_true, Bool.true_and, Bool.false_and, Bool.and_false, Bool.or_true, Bool.true_or, Bool.false_or, Bool.or_false, Bool.not_true, Bool.not_false, if_true, if_false, Bool.false_eq_true, if_pos, if_neg]
    clear hr
    go_enter Tryz.func94, Tryz.ntmps94
    go_wp2_with fail
    go_ret
    exact ⟨rfl, HK0.out⟩
  | true =>
    cases h2 : (decide (1 ≤ v)) with
    | false =>
      obtain rfl : r = false := by rw [← hr]; simp only [h1, h2, Bool.and_true, Bool.true_and, Bool.false_and, Bool.and_false, Bool.or_true, Bool.true_or, Bool.false_or, Bool.or_false, Bool.not_true, Bool.not_false, if_true, if_false, Bool.false_eq_true, if_pos, if_neg]
      clear hr
      go_enter Tryz.func94, Tryz.ntmps94
      go_wp2_with fail
      go_ret
      exact ⟨rfl, HK0.out⟩
    | true =>
      cases h3 : (decide (v ≤ 1000)) with
      | false =>
        obtain rfl : r = false := by rw [← hr]; simp only [h1, h2, h3, Bool.and_true, Bool.true_and, Bool.false_and, Bool.and_false, Bool.or_true, Bool.true_or, Bool.false_or, Bool.or_false, Bool.not_true, Bool.not_false, if_true, if_false, Bool.false_eq_true, if_pos, if_neg]
        clear hr
        go_enter Tryz.func94, Tryz.ntmps94
        go_wp2_with fail
        go_ret
        exact ⟨rfl, HK0.out⟩
      | true =>
        cases h4 : (waitsM x.ws t) with
        | false =>
          obtain rfl : r = true := by rw [← hr]; simp only [h1, h2, h3, h4, Bool.and_true, Bool.true_and, Bool.false_and, Bool.and_false, Bool.or_true, Bool.true_or, Bool.false_or, Bool.or_false, Bool.not_true, Bool.not_false, if_true, if_false, Bool.false_eq_true, if_pos, if_neg]
          clear hr
          go_enter Tryz.func94, Tryz.ntmps94
          go_wp2_with fail
          refine (waiting_any x t s c _ hl (HE.out.kept0 HK0.out) _ h4).mono ?_
          rintro e w1 ⟨rfl, hk1⟩
          have HK1 := Lib.hid (HK0.out.tr0 hk1)
          have HT1 := Lib.hid (HT0.out.kept0 hk1)
          clear hk1
          go_wp2_with fail
          go_ret
          exact ⟨rfl, HK1.out⟩
        | true =>
          obtain rfl : r = false := by rw [← hr]; simp only [h1, h2, h3, h4, Bool.and_true, Bool.true_and, Bool.false_and, Bool.and_false, Bool.or_true, Bool.true_or, Bool.false_or, Bool.or_false, Bool.not_true, Bool.not_false, if_true, if_false, Bool.false_eq_true, if_pos, if_neg]
          clear hr
          go_enter Tryz.func94, Tryz.ntmps94
          go_wp2_with fail
          refine (waiting_any x t s c _ hl (HE.out.kept0 HK0.out) _ h4).mono ?_
          rintro e w1 ⟨rfl, hk1⟩
          have HK1 := Lib.hid (HK0.out.tr0 hk1)
          have HT1 := Lib.hid (HT0.out.kept0 hk1)
          clear hk1
          go_wp2_with fail
          go_ret
          exact ⟨rfl, HK1.out⟩

end Go.Proofs.YtbodlaiakcoabaaGreatDoor
end
