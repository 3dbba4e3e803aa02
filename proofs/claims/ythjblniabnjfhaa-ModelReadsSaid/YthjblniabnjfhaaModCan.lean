/-
  Package model's New and Can; the document's New.
  Conditions: no count is beyond two millions; the waiters lie in memory.
-/
import Derived.Test.YthjblniabnjfhaaModDo
namespace Go.Proofs.Ythjblniabnjfhaa
open Go.RowKit
set_option linter.unusedSimpArgs false
set_option linter.unusedVariables false

theorem new_any (kd n : Int) (fair : Bool) (w : World) : Calls Try.prog 12 #[.agg #[.int .i64 kd, .bool fair, .int .i64 n]] w fun e w' => e = .returned ((newM kd n).agg none 0) ∧ Kept (fun _ => False) w w' := by
  go_enter Try.func12, Try.ntmps12
  go_wp2_with fail
  go_returns
  exact ⟨rfl, ((Kept.refl _ w).alloc _).alloc _⟩
theorem newR_any (kd n : Int) (fair : Bool) (w : World) : Calls Try.prog 13 #[.agg #[.int .i64 kd, .bool fair, .int .i64 n]] w fun e w' => e = .returned ((newM kd n).agg none 0) ∧ Kept (fun _ => False) w w' := by
  go_enter Try.func13, Try.ntmps13
  go_wp2_with fail
  go_returns
  exact ⟨rfl, ((Kept.refl _ w).alloc _).alloc _⟩

/-- A call, as it is handed over. -/
@[reducible] def opAgg (k o n wt : Int) (br : Bool) : Value := .agg #[.int .i64 k, .int .i64 o, .int .i64 n, .int .i64 wt, .bool br]
def Awaits (w : World) (x : Th) (k n : Int) (e : Ending) (w' : World) : Prop := e = .returned (.tuple #[.int .i64 (awKind k), .agg #[.int .i64 (awMark k), .int .i64 (awVal x k n)]]) ∧ Kept (fun _ => False) w w'

theorem await_1 (x : Th) (s : Option Addr) (c : Nat) (o n wt : Int) (br : Bool) (w : World) : Calls Try.prog 26 #[x.agg s c, opAgg 1 o n wt br] w (Awaits w x 1 n) := by
  go_enter Try.func26, Try.ntmps26
  go_wp2_with fail
  exact bodyPost_ret (v := .tuple #[.int .i64 (awKind 1), .agg #[.int .i64 (awMark 1), .int .i64 (awVal x 1 n)]]) (by simp [results, Try.results26, go_sem, awKind, awMark, awVal]) rfl ⟨rfl, (((Kept.refl _ w).alloc _).alloc _).alloc _⟩

theorem await_4 (x : Th) (s : Option Addr) (c : Nat) (o n wt : Int) (br : Bool) (w : World) : Calls Try.prog 26 #[x.agg s c, opAgg 4 o n wt br] w (Awaits w x 4 n) := by
  go_enter Try.func26, Try.ntmps26
  go_wp2_with fail
  go_region
  go_wp2_with fail
  exact bodyPost_ret (v := .tuple #[.int .i64 (awKind 4), .agg #[.int .i64 (awMark 4), .int .i64 (awVal x 4 n)]]) (by simp [results, Try.results26, go_sem, awKind, awMark, awVal]) rfl ⟨rfl, ((((Kept.refl _ w).alloc _).alloc _).alloc _).drew⟩

theorem await_8 (x : Th) (s : Option Addr) (c : Nat) (o n wt : Int) (br : Bool) (w : World) : Calls Try.prog 26 #[x.agg s c, opAgg 8 o n wt br] w (Awaits w x 8 n) := by
  go_enter Try.func26, Try.ntmps26
  go_wp2_with fail
  exact bodyPost_ret (v := .tuple #[.int .i64 (awKind 8), .agg #[.int .i64 (awMark 8), .int .i64 (awVal x 8 n)]]) (by simp [results, Try.results26, go_sem, awKind, awMark, awVal]) rfl ⟨rfl, (((Kept.refl _ w).alloc _).alloc _).alloc _⟩

theorem await_13 (x : Th) (s : Option Addr) (c : Nat) (o n wt : Int) (br : Bool) (w : World) : Calls Try.prog 26 #[x.agg s c, opAgg 13 o n wt br] w (Awaits w x 13 n) := by
  go_enter Try.func26, Try.ntmps26
  go_wp2_with fail
  exact bodyPost_ret (v := .tuple #[.int .i64 (awKind 13), .agg #[.int .i64 (awMark 13), .int .i64 (awVal x 13 n)]]) (by simp [results, Try.results26, go_sem, awKind, awMark, awVal]) rfl ⟨rfl, (((Kept.refl _ w).alloc _).alloc _).alloc _⟩

theorem await_10 (x : Th) (s : Option Addr) (c : Nat) (o n wt : Int) (br : Bool) (w : World) : Calls Try.prog 26 #[x.agg s c, opAgg 10 o n wt br] w (Awaits w x 10 n) := by
  go_enter Try.func26, Try.ntmps26
  go_wp2_with fail
  exact bodyPost_ret (v := .tuple #[.int .i64 (awKind 10), .agg #[.int .i64 (awMark 10), .int .i64 (awVal x 10 n)]]) (by simp [results, Try.results26, go_sem, awKind, awMark, awVal]) rfl ⟨rfl, (((Kept.refl _ w).alloc _).alloc _).alloc _⟩

theorem await_19 (x : Th) (s : Option Addr) (c : Nat) (o n wt : Int) (br : Bool) (w : World) : Calls Try.prog 26 #[x.agg s c, opAgg 19 o n wt br] w (Awaits w x 19 n) := by
  go_enter Try.func26, Try.ntmps26
  go_wp2_with fail
  go_region
  go_wp2_with fail
  exact bodyPost_ret (v := .tuple #[.int .i64 (awKind 19), .agg #[.int .i64 (awMark 19), .int .i64 (awVal x 19 n)]]) (by simp [results, Try.results26, go_sem, awKind, awMark, awVal]) rfl ⟨rfl, ((((Kept.refl _ w).alloc _).alloc _).alloc _).drew⟩

theorem await_no (x : Th) (s : Option Addr) (c : Nat) (k o n wt : Int) (br : Bool) (w : World) (hk : k ≠ 1 ∧ k ≠ 4 ∧ k ≠ 8 ∧ k ≠ 13 ∧ k ≠ 10 ∧ k ≠ 19) : Calls Try.prog 26 #[x.agg s c, opAgg k o n wt br] w (Awaits w x k n) := by
  obtain ⟨n1, n4, n8, n13, n10, n19⟩ := hk
  have HE : Hid (awKind k = 0 ∧ awMark k = 0 ∧ awVal x k n = 0) := Lib.hid ⟨by unfold awKind; simp [*], by unfold awMark; simp [*], by unfold awVal; simp [*]⟩
  go_enter Try.func26, Try.ntmps26
  go_wp2_with fail
  exact bodyPost_ret (v := .tuple #[.int .i64 0, .agg #[.int .i64 0, .int .i64 0]]) (by simp [results, Try.results26, go_sem]) rfl ⟨by obtain ⟨a, b, c⟩ := HE.out; rw [a, b, c], (((Kept.refl _ w).alloc _).alloc _).alloc _⟩

theorem await_any (x : Th) (s : Option Addr) (c : Nat) (k o n wt : Int) (br : Bool) (w : World) : Calls Try.prog 26 #[x.agg s c, opAgg k o n wt br] w (Awaits w x k n) := by
  have hc : k = 1 ∨ k = 4 ∨ k = 8 ∨ k = 13 ∨ k = 10 ∨ k = 19 ∨ (k ≠ 1 ∧ k ≠ 4 ∧ k ≠ 8 ∧ k ≠ 13 ∧ k ≠ 10 ∧ k ≠ 19) := by omega
  rcases hc with rfl | rfl | rfl | rfl | rfl | rfl | hn
  · exact await_1 x s c o n wt br w
  · exact await_4 x s c o n wt br w
  · exact await_8 x s c o n wt br w
  · exact await_13 x s c o n wt br w
  · exact await_10 x s c o n wt br w
  · exact await_19 x s c o n wt br w
  · exact await_no x s c k o n wt br w hn

set_option maxHeartbeats 2000000 in
theorem can_any (x : Th) (t k o n wt : Int) (br : Bool) (s : Option Addr) (c : Nat) (w : World) (hF : Fit x) (hE : InW w x s) (n0 : -9223372036854775808 ≤ n) (n1 : n ≤ 9223372036854775807) (r : Bool) (hr : canM x t k n = r) :
    Calls Try.prog 17 #[x.agg s c, .int .i64 t, opAgg k o n wt br] w fun e w' => e = .returned (.bool r) ∧ Kept (fun _ => False) w w' := by
  have k1 : Kept (fun _ => False) w (w.alloc (.cells (x.box s c) 27)) := (Kept.refl _ w).alloc _
  obtain ⟨W1, hW1⟩ : ∃ W1, w.alloc (.cells (x.box s c) 27) = W1 := ⟨_, rfl⟩
  have b1 := BoxT.new w x s c
  have s1 : W1.heap.size = w.heap.size + 1 := by rw [← hW1]; simp
  rw [hW1] at k1 b1
  have k2 : Kept (fun _ => False) W1 (W1.alloc (.cells #[.int .i64 k, .int .i64 o, .int .i64 n, .int .i64 wt, .bool br] 31)) := (Kept.refl _ W1).alloc _
  obtain ⟨W2, hW2⟩ : ∃ W2, W1.alloc (.cells #[.int .i64 k, .int .i64 o, .int .i64 n, .int .i64 wt, .bool br] 31) = W2 := ⟨_, rfl⟩
  have b2 := heap_new1 W1 (.cells #[.int .i64 k, .int .i64 o, .int .i64 n, .int .i64 wt, .bool br] 31)
  rw [hW2] at k2 b2
  rw [s1] at b2
  have hT := b1.kept0 k2
  have hk := k1.tr0 k2
  have hE2 := hE.kept0 hk
  obtain ⟨_, _, _, _, _, _, _, _, _, _, _, _, _, _, _⟩ := hT.cells
  have p0 : W2.cell? ⟨w.heap.size + 1, 0, none⟩ = some (.int .i64 k) := by rw [cell_at W2 _ 0 _ _ b2]; rfl
  have p1 : W2.cell? ⟨w.heap.size + 1, 1, none⟩ = some (.int .i64 o) := by rw [cell_at W2 _ 1 _ _ b2]; rfl
  have p2 : W2.cell? ⟨w.heap.size + 1, 2, none⟩ = some (.int .i64 n) := by rw [cell_at W2 _ 2 _ _ b2]; rfl
  have p3 : W2.cell? ⟨w.heap.size + 1, 3, none⟩ = some (.int .i64 wt) := by rw [cell_at W2 _ 3 _ _ b2]; rfl
  have p4 : W2.cell? ⟨w.heap.size + 1, 4, none⟩ = some (.bool br) := by rw [cell_at W2 _ 4 _ _ b2]; rfl
  have HA := Lib.hid (await_any x s c k o n wt br W2)
  have HT := Lib.hid hT
  have HK := Lib.hid hk
  have HE := Lib.hid hE2
  have hz0 : -9223372036854775808 ≤ awVal x k n := by have := hF.o0; unfold awVal; repeat' split
                                                      all_goals omega
  have hz1 : awVal x k n ≤ 9223372036854775807 := by have := hF.o1; unfold awVal; repeat' split
                                                     all_goals omega
  have HR : Hid ((awKind k == x.kind && mayM x t (awMark k) (awVal x k n)) = r) := Lib.hid hr
  have HM : Hid (∀ w', Kept (fun _ => False) W2 w' → ∀ b, mayM x t (awMark k) (awVal x k n) = b → Calls Try.prog 19 #[x.agg s c, .int .i64 t, .agg #[.int .i64 (awMark k), .int .i64 (awVal x k n)]] w' fun e w'' => e = .returned (.bool b) ∧ Kept (fun _ => False) w' w'') :=
    Lib.hid (fun w' hk' b hb => may_any x t (awMark k) (awVal x k n) s c w' hF (hE2.kept0 hk') hz0 hz1 b hb)
  clear k1 b1 k2 b2 hT hk hE hE2 hz0 hz1 hr hF n0 n1
  go_enter Try.func17, Try.ntmps17
  go_wp2_with fail
  refine HA.out.mono ?_
  rintro e w1 ⟨rfl, hk1⟩
  obtain ⟨_, _, _, _, _, _, _, _, _, _, _, _, _, _, _⟩ := (HT.out.kept0 hk1).cells
  have hk1a : Kept (fun _ => False) w1 (w1.alloc (.cells #[.int .i64 (awMark k), .int .i64 (awVal x k n)] 29)) := (Kept.refl _ w1).alloc _
  have hb1 := BoxN.new w1 (awMark k) (awVal x k n)
  have hT1 := (HT.out.kept0 hk1).kept0 hk1a
  obtain ⟨w2, hw2⟩ : ∃ w2, w1.alloc (.cells #[.int .i64 (awMark k), .int .i64 (awVal x k n)] 29) = w2 := ⟨_, rfl⟩
  rw [hw2] at hk1a hb1 hT1
  have HK2 := Lib.hid (hk1.tr0 hk1a)
  obtain ⟨_, _, _, _, _, _, _, _, _, _, _, _, _, _, _⟩ := hT1.cells
  obtain ⟨_, _⟩ := hb1.cells
  have HMM := Lib.hid (HM.out w2 HK2.out)
  clear hk1 hk1a hb1 hT1 HM
  cases a : (awKind k == x.kind) with
  | false =>
    obtain rfl : r = false := by rw [← HR.out, a]; rfl
    go_wp2_with fail
    go_ret
    exact ⟨rfl, HK.out.tr0 HK2.out⟩
  | true =>
    go_wp2_with fail
    refine (HMM.out r (by rw [← HR.out, a]; rfl)).mono ?_
    rintro e w3 ⟨rfl, hk3⟩
    have HK3 := Lib.hid (HK2.out.tr0 hk3)
    clear hk3
    go_wp2_with fail
    go_ret
    exact ⟨rfl, HK.out.tr0 HK3.out⟩

end Go.Proofs.Ythjblniabnjfhaa
