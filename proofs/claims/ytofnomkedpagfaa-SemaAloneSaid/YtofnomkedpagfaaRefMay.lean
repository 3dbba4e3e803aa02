/-
  What the document's May of layer 7 comes to: its loop and its end.
  Conditions: none; these are lemmas for the walk.
-/
import Derived.Test.YtofnomkedpagfaaLineMem
import Derived.Test.YtofnomkedpagfaaLineSplit
import Derived.Test.YtofnomkedpagfaaDown
import Derived.Test.YtofnomkedpagfaaCells5
namespace Go.Proofs.Ytofnomkedpagfaa
open Go.RowKit

noncomputable def mayA : Code := down [1, 1, 1, 1, 1, 1, 1, 1, 0, 1, 0, 0] (Try.f35.body.getD .skip)
noncomputable def mayEnd : Code := down [1, 1, 1, 1, 1, 1, 1, 1, 1] (Try.f35.body.getD .skip)
/-- May's frame: what is read later stands as it is, all else is any. -/
def frM (b : Nat) (t : ByteArray) (A B C N T : Bool) (i : Value) (u : Nat → Value) : Act := ⟨#[u 0, .pointer (some ⟨b, 0, none⟩), u 2, u 3, .string t, .bool A, .bool B, .bool C, .bool N, .bool T, i, u 11, u 12, u 13, u 14, u 15, u 16, u 17, u 18, u 19, u 20, u 21, u 22, u 23, u 24, u 25, u 26, u 27, u 28, u 29, u 30, u 31, u 32, u 33, u 34, u 35, u 36, u 37, u 38, u 39, u 40, u 41, u 42, u 43, u 44, u 45, u 46, u 47, u 48, u 49, u 50, u 51, u 52, u 53, u 54, u 55, u 56, u 57, u 58, u 59, u 60, u 61, u 62, u 63, u 64, u 65, u 66, u 67, u 68, u 69, u 70, u 71, u 72, u 73, u 74, u 75, u 76, u 77, u 78, u 79, u 80, u 81, u 82, u 83, u 84, u 85, u 86, u 87, u 88, u 89, u 90, u 91, u 92, u 93, u 94, u 95, u 96, u 97, u 98, u 99, u 100, u 101, u 102, u 103, u 104, u 105, u 106, u 107, u 108, u 109, u 110, u 111, u 112, u 113, u 114, u 115, u 116, u 117, u 118, u 119, u 120, u 121, u 122, u 123, u 124, u 125, u 126, u 127, u 128, u 129, u 130, u 131, u 132, u 133, u 134, u 135, u 136, u 137, u 138, u 139, u 140, u 141, u 142, u 143, u 144, u 145, u 146, u 147, u 148, u 149, u 150], []⟩
theorem frM_of {b : Nat} {t : ByteArray} {A B C N T : Bool} {i : Value} {a : Act} (h : a = frM b t A B C N T i (lett a)) : ∃ u, a = frM b t A B C N T i u := ⟨_, h⟩

section
variable {wr : World} {t : ByteArray} {u : Nat → Value} {Q : Exit → Act → World → Prop} {b n : Nat} {A B C N T : Bool}
set_option maxHeartbeats 4000000 in
set_option maxRecDepth 100000 in
theorem may_stop (hn : ¬ (n : Int) < (t.size : Int)) (hend : Hid (∀ a', (∃ u, a' = frM b t A B C N T (.int .i64 n) u) → Q (.exit 0) a' wr)) : Code.wp Try.prog mayA Q (frM b t A B C N T (.int .i64 n) u) wr := by
  unfold frM
  conv => arg 2; whnf
  go_wp2_with fail
  exact hend.out _ (frM_of (by kernel_rfl))

set_option maxHeartbeats 16000000 in
set_option maxRecDepth 100000 in
theorem may_A (hn : n < t.size) (hn3 : n ≤ 100) (hc : t[n].toNat = 65) (hnext : Hid (∀ a', (∃ u, a' = frM b t true B C N T (.int .i64 (n + 1 : Nat)) u) → Q .normal a' wr)) : Code.wp Try.prog mayA Q (frM b t A B C N T (.int .i64 n) u) wr := by
  have h1 : (n : Int) < (t.size : Int) := by omega
  have e65 : ((t[n].toNat : Int) == 65) = true := by rw [hc]; rfl
  have e66 : ((t[n].toNat : Int) == 66) = false := by rw [hc]; rfl
  have e67 : ((t[n].toNat : Int) == 67) = false := by rw [hc]; rfl
  have e78 : ((t[n].toNat : Int) == 78) = false := by rw [hc]; rfl
  have e84 : ((t[n].toNat : Int) == 84) = false := by rw [hc]; rfl
  clear hc
  cases A <;> cases B <;> cases C <;> cases N <;> cases T
  all_goals (
    unfold frM
    conv => arg 2; whnf
    go_wp2_with fail
    exact hnext.out _ (frM_of (by kernel_rfl)))

set_option maxHeartbeats 16000000 in
set_option maxRecDepth 100000 in
theorem may_B (hn : n < t.size) (hn3 : n ≤ 100) (hc : t[n].toNat = 66) (hnext : Hid (∀ a', (∃ u, a' = frM b t A true C N T (.int .i64 (n + 1 : Nat)) u) → Q .normal a' wr)) : Code.wp Try.prog mayA Q (frM b t A B C N T (.int .i64 n) u) wr := by
  have h1 : (n : Int) < (t.size : Int) := by omega
  have e65 : ((t[n].toNat : Int) == 65) = false := by rw [hc]; rfl
  have e66 : ((t[n].toNat : Int) == 66) = true := by rw [hc]; rfl
  have e67 : ((t[n].toNat : Int) == 67) = false := by rw [hc]; rfl
  have e78 : ((t[n].toNat : Int) == 78) = false := by rw [hc]; rfl
  have e84 : ((t[n].toNat : Int) == 84) = false := by rw [hc]; rfl
  clear hc
  cases A <;> cases B <;> cases C <;> cases N <;> cases T
  all_goals (
    unfold frM
    conv => arg 2; whnf
    go_wp2_with fail
    exact hnext.out _ (frM_of (by kernel_rfl)))

set_option maxHeartbeats 16000000 in
set_option maxRecDepth 100000 in
theorem may_C (hn : n < t.size) (hn3 : n ≤ 100) (hc : t[n].toNat = 67) (hnext : Hid (∀ a', (∃ u, a' = frM b t A B true N T (.int .i64 (n + 1 : Nat)) u) → Q .normal a' wr)) : Code.wp Try.prog mayA Q (frM b t A B C N T (.int .i64 n) u) wr := by
  have h1 : (n : Int) < (t.size : Int) := by omega
  have e65 : ((t[n].toNat : Int) == 65) = false := by rw [hc]; rfl
  have e66 : ((t[n].toNat : Int) == 66) = false := by rw [hc]; rfl
  have e67 : ((t[n].toNat : Int) == 67) = true := by rw [hc]; rfl
  have e78 : ((t[n].toNat : Int) == 78) = false := by rw [hc]; rfl
  have e84 : ((t[n].toNat : Int) == 84) = false := by rw [hc]; rfl
  clear hc
  cases A <;> cases B <;> cases C <;> cases N <;> cases T
  all_goals (
    unfold frM
    conv => arg 2; whnf
    go_wp2_with fail
    exact hnext.out _ (frM_of (by kernel_rfl)))

set_option maxHeartbeats 16000000 in
set_option maxRecDepth 100000 in
theorem may_N (hn : n < t.size) (hn3 : n ≤ 100) (hc : t[n].toNat = 78) (hnext : Hid (∀ a', (∃ u, a' = frM b t A B C true T (.int .i64 (n + 1 : Nat)) u) → Q .normal a' wr)) : Code.wp Try.prog mayA Q (frM b t A B C N T (.int .i64 n) u) wr := by
  have h1 : (n : Int) < (t.size : Int) := by omega
  have e65 : ((t[n].toNat : Int) == 65) = false := by rw [hc]; rfl
  have e66 : ((t[n].toNat : Int) == 66) = false := by rw [hc]; rfl
  have e67 : ((t[n].toNat : Int) == 67) = false := by rw [hc]; rfl
  have e78 : ((t[n].toNat : Int) == 78) = true := by rw [hc]; rfl
  have e84 : ((t[n].toNat : Int) == 84) = false := by rw [hc]; rfl
  clear hc
  cases A <;> cases B <;> cases C <;> cases N <;> cases T
  all_goals (
    unfold frM
    conv => arg 2; whnf
    go_wp2_with fail
    exact hnext.out _ (frM_of (by kernel_rfl)))

set_option maxHeartbeats 16000000 in
set_option maxRecDepth 100000 in
theorem may_T (hn : n < t.size) (hn3 : n ≤ 100) (hc : t[n].toNat = 84) (hnext : Hid (∀ a', (∃ u, a' = frM b t A B C N true (.int .i64 (n + 1 : Nat)) u) → Q .normal a' wr)) : Code.wp Try.prog mayA Q (frM b t A B C N T (.int .i64 n) u) wr := by
  have h1 : (n : Int) < (t.size : Int) := by omega
  have e65 : ((t[n].toNat : Int) == 65) = false := by rw [hc]; rfl
  have e66 : ((t[n].toNat : Int) == 66) = false := by rw [hc]; rfl
  have e67 : ((t[n].toNat : Int) == 67) = false := by rw [hc]; rfl
  have e78 : ((t[n].toNat : Int) == 78) = false := by rw [hc]; rfl
  have e84 : ((t[n].toNat : Int) == 84) = true := by rw [hc]; rfl
  clear hc
  cases A <;> cases B <;> cases C <;> cases N <;> cases T
  all_goals (
    unfold frM
    conv => arg 2; whnf
    go_wp2_with fail
    exact hnext.out _ (frM_of (by kernel_rfl)))

end

end Go.Proofs.Ytofnomkedpagfaa
