/-
  What the document's small of layer 7 comes to.
  Conditions: none on the strings but that they are strings.
-/
import Derived.Test.YtibgkhfadlgonaaGreatDoorLineStr
namespace Go.Proofs.YtibgkhfadlgonaaGreatDoor
open Go.RowKit

theorem refSmall_any (v : Int) (w : World) : Calls Tryz.prog 22 #[.int .i64 v] w fun e w' => e = .returned (.bool (small v)) ∧ w = w' := by
  by_cases h : -999999999999999999 ≤ v
  · by_cases h2 : v ≤ 999999999999999999
    · have e : small v = true := by unfold small; rw [decide_eq_true h, decide_eq_true h2]; rfl
      rw [e]
      clear e
      go_enter Tryz.func22, Tryz.ntmps22
      go_wp2_with fail
      go_ret
      exact ⟨rfl, rfl⟩
    · have e : small v = false := by unfold small; rw [decide_eq_true h, decide_eq_false h2]; rfl
      rw [e]
      clear e
      go_enter Tryz.func22, Tryz.ntmps22
      go_wp2_with fail
      go_ret
      exact ⟨rfl, rfl⟩
  · have e : small v = false := by unfold small; rw [decide_eq_false h]; rfl
    rw [e]
    clear e
    go_enter Tryz.func22, Tryz.ntmps22
    go_wp2_with fail
    go_ret
    exact ⟨rfl, rfl⟩


end Go.Proofs.YtibgkhfadlgonaaGreatDoor
