/-
  What the statements' own Code comes to: an error's number.
  Conditions: none, or one of api's errors.
-/
import Derived.Test.YtkicpbnphbcdaaaKept
import Derived.Test.YtkicpbnphbcdaaaEql
import Derived.LoopTactic
namespace Go.Proofs.Ytkicpbnphbcdaaa
open Go.RowKit

theorem code_nil (w : World) : Calls Try.prog 12 #[.nilIface] w fun e w' => e = .returned (.int .i64 0) ∧ w = w' := by
  go_enter Try.func12, Try.ntmps12
  go_wp2_with fail
  go_ret
  exact ⟨rfl, rfl⟩

theorem code_of (c : Nat) (h1 : 1 ≤ c) (h2 : c ≤ 8) (w : World) : Calls Try.prog 12 #[.iface 43 (.int .i64 c)] w fun e w' => e = .returned (.int .i64 c) ∧ w = w' := by
  have hq : ∀ (w : World) (a b : Int), (binOp .eql 31 (.iface 43 (.int .i64 a)) (.iface 43 (.int .i64 b))).run Try.prog w = .ok (.bool (a == b)) w := eql_codes
  go_enter Try.func12, Try.ntmps12
  go_wp2_with fail
  go_loopw [3] (fun i wr => ∃ k : Nat, i = .int .i64 k ∧ 1 ≤ k ∧ k ≤ c ∧ wr = w) (fun i _ => 9 - (intOf i).toNat)
  case atStart => exact ⟨1, rfl, by omega, by omega, rfl⟩
  case round =>
    obtain ⟨k, rfl, hk1, hk2, rfl⟩ := hrel
    have hk8 : (k : Int) ≤ 8 := by omega
    by_cases hkc : k = c
    · subst hkc
      go_wp2_with fail
      go_ret
      exact ⟨rfl, rfl⟩
    · have hne : ((c : Int) == (k : Int)) = false := by rw [beq_eq_false_iff_ne]; omega
      go_wp2_with fail
      go_roundw
      case rel => exact ⟨k + 1, by go_num, by omega, by omega, by first | rfl | trivial⟩
      case measure => simp [intOf]; omega

end Go.Proofs.Ytkicpbnphbcdaaa
