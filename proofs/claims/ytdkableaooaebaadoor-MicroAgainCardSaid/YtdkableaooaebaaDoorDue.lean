/-
  The contract of package clock's Due.
  Conditions: none.
-/
import Derived.Test.YtdkableaooaebaaDoorKept
import Derived.WalkKit
namespace Go.Proofs.YtdkableaooaebaaDoor
open Go.RowKit

def dueF (now d : Int) : Bool := decide (0 ≤ d) && decide (d ≤ now)

theorem due_any (now d : Int) (w : World) (r : Bool) (hr : dueF now d = r) :
    Calls Tryd.prog 60 #[.int .i64 now, .int .i64 d] w fun e w' => e = .returned (.bool r) ∧ w = w' := by
  subst hr
  by_cases h : 0 ≤ d
  · by_cases h1 : d ≤ now
    · have hd : dueF now d = true := by simp [dueF, h, h1]
      rw [hd]
      go_enter Tryd.func60, Tryd.ntmps60
      go_wp2
      go_ret
      exact ⟨rfl, rfl⟩
    · have hd : dueF now d = false := by simp [dueF, h, h1]
      rw [hd]
      have h2 : decide (d ≤ now) = false := by simpa using h1
      go_enter Tryd.func60, Tryd.ntmps60
      go_wp2
      go_ret
      exact ⟨rfl, rfl⟩
  · have hd : dueF now d = false := by simp [dueF, h]
    rw [hd]
    have h2 : decide (0 ≤ d) = false := by simpa using h
    go_enter Tryd.func60, Tryd.ntmps60
    go_wp2
    go_ret
    exact ⟨rfl, rfl⟩

theorem due_back (now d : Int) (w : World) (r : Bool) (hr : dueF now d = r) :
    Calls Tryd.prog 60 #[.int .i64 now, .int .i64 d] w fun e w' => e = .returned (.bool r) ∧ w' = w :=
  (due_any now d w r hr).mono fun _ _ ⟨h1, h2⟩ => ⟨h1, h2.symm⟩

theorem dueF_iff (now d : Int) : dueF now d = true ↔ 0 ≤ d ∧ d ≤ now := by simp [dueF]

end Go.Proofs.YtdkableaooaebaaDoor
