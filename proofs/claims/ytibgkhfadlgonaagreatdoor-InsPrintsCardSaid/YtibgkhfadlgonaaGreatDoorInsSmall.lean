/-
  What the program's small calls of layer 7 come to: letters, digits, names, registers, numbers.
  Conditions: the table lies as the program's text lays it; strings of at most 100000 bytes.
-/
import Derived.Test.YtibgkhfadlgonaaGreatDoorInsBase
import Derived.Laws.Concat
namespace Go.Proofs.YtibgkhfadlgonaaGreatDoor
open Go.RowKit

theorem isLetter_any (c : UInt8) (w : World) : Calls Tryz.prog 29 #[.int .u8 c.toNat] w fun e w' => e = .returned (.bool (isLow c)) ∧ w' = w := by
  by_cases h : 97 ≤ c.toNat
  · by_cases h2 : c.toNat ≤ 122
    · have e : isLow c = true := by unfold isLow; rw [decide_eq_true h, decide_eq_true h2]; rfl
      rw [e]
      have h1 : (97 : Int) ≤ (c.toNat : Int) := by omega
      have h3 : (c.toNat : Int) ≤ 122 := by omega
      clear e h h2
      go_enter Tryz.func29, Tryz.ntmps29
      go_wp2_with fail
      go_ret
      exact ⟨rfl, rfl⟩
    · have e : isLow c = false := by unfold isLow; rw [decide_eq_true h, decide_eq_false h2]; rfl
      rw [e]
      have h1 : (97 : Int) ≤ (c.toNat : Int) := by omega
      have h3 : ¬ (c.toNat : Int) ≤ 122 := by omega
      clear e h h2
      go_enter Tryz.func29, Tryz.ntmps29
      go_wp2_with fail
      go_ret
      exact ⟨rfl, rfl⟩
  · have e : isLow c = false := by unfold isLow; rw [decide_eq_false h]; rfl
    rw [e]
    have h1 : ¬ (97 : Int) ≤ (c.toNat : Int) := by omega
    clear e h
    go_enter Tryz.func29, Tryz.ntmps29
    go_wp2_with fail
    go_ret
    exact ⟨rfl, rfl⟩
theorem isDigit_any (c : UInt8) (w : World) : Calls Tryz.prog 30 #[.int .u8 c.toNat] w fun e w' => e = .returned (.bool (isDig c)) ∧ w' = w := by
  by_cases h : 48 ≤ c.toNat
  · by_cases h2 : c.toNat ≤ 57
    · have e : isDig c = true := by unfold isDig; rw [decide_eq_true h, decide_eq_true h2]; rfl
      rw [e]
      have h1 : (48 : Int) ≤ (c.toNat : Int) := by omega
      have h3 : (c.toNat : Int) ≤ 57 := by omega
      clear e h h2
      go_enter Tryz.func30, Tryz.ntmps30
      go_wp2_with fail
      go_ret
      exact ⟨rfl, rfl⟩
    · have e : isDig c = false := by unfold isDig; rw [decide_eq_true h, decide_eq_false h2]; rfl
      rw [e]
      have h1 : (48 : Int) ≤ (c.toNat : Int) := by omega
      have h3 : ¬ (c.toNat : Int) ≤ 57 := by omega
      clear e h h2
      go_enter Tryz.func30, Tryz.ntmps30
      go_wp2_with fail
      go_ret
      exact ⟨rfl, rfl⟩
  · have e : isDig c = false := by unfold isDig; rw [decide_eq_false h]; rfl
    rw [e]
    have h1 : ¬ (48 : Int) ≤ (c.toNat : Int) := by omega
    clear e h
    go_enter Tryz.func30, Tryz.ntmps30
    go_wp2_with fail
    go_ret
    exact ⟨rfl, rfl⟩

end Go.Proofs.YtibgkhfadlgonaaGreatDoor
