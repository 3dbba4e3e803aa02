/-
  The document's answer of layer 5: of a kind, an object, a call, a pick.
  Conditions: none.
-/
import Derived.Test.YtkicpbnphbcdaaaMays
namespace Go.Proofs.Ytkicpbnphbcdaaa
open Go.RowKit

set_option maxHeartbeats 1000000 in
theorem waits_ref (k : Int) (w : World) (r : Bool) (hr : waitsF k = r) : Calls Try.prog 47 #[.int .i64 k] w fun e w' => e = .returned (.bool r) ∧ w = w' := by
  subst hr
  have hc : (k = 1 ∨ k = 4 ∨ k = 8 ∨ k = 10 ∨ k = 13 ∨ k = 16 ∨ k = 19) ∨ (k ≠ 1 ∧ k ≠ 4 ∧ k ≠ 8 ∧ k ≠ 10 ∧ k ≠ 13 ∧ k ≠ 16 ∧ k ≠ 19) := by omega
  rcases hc with h | h
  · rcases h with rfl | rfl | rfl | rfl | rfl | rfl | rfl
    all_goals
      go_enter Try.func47, Try.ntmps47
      go_wp2_with fail
      go_ret
      exact ⟨rfl, rfl⟩
  · have e : waitsF k = false := by unfold waitsF; exact decide_eq_false (by omega)
    rw [e]
    clear e
    obtain ⟨h1, h2, h3, h4, h5, h6, h7⟩ := h
    have g1 : (k == 1) = false := beq_eq_false_iff_ne.2 h1
    have g2 : (k == 4) = false := beq_eq_false_iff_ne.2 h2
    have g3 : (k == 8) = false := beq_eq_false_iff_ne.2 h3
    have g4 : (k == 10) = false := beq_eq_false_iff_ne.2 h4
    have g5 : (k == 13) = false := beq_eq_false_iff_ne.2 h5
    have g6 : (k == 16) = false := beq_eq_false_iff_ne.2 h6
    have g7 : (k == 19) = false := beq_eq_false_iff_ne.2 h7
    go_enter Try.func47, Try.ntmps47
    go_wp2_with fail
    go_ret
    exact ⟨rfl, rfl⟩

set_option maxHeartbeats 2000000 in
theorem of_ref (k : Int) (w : World) (r : Int) (hr : ofF k = r) : Calls Try.prog 46 #[.int .i64 k] w fun e w' => e = .returned (.int .i64 r) ∧ Kept (fun _ => False) w w' := by
  subst hr
  by_cases h1 : k < 0
  · have e : ofF k = 0 := by unfold ofF; rw [if_neg (by omega), if_neg (by omega), if_neg (by omega), if_neg (by omega), if_neg (by omega)]
    rw [e]
    clear e
    go_enter Try.func46, Try.ntmps46
    go_wp2_with fail
    go_ret
    exact ⟨rfl, (Kept.refl _ w).alloc _⟩
  by_cases h2 : 20 ≤ k
  · have e : ofF k = 0 := by unfold ofF; rw [if_neg (by omega), if_neg (by omega), if_neg (by omega), if_neg (by omega), if_neg (by omega)]
    rw [e]
    clear e
    go_enter Try.func46, Try.ntmps46
    go_wp2_with fail
    go_ret
    exact ⟨rfl, (Kept.refl _ w).alloc _⟩
  have hc : k = 0 ∨ k = 1 ∨ k = 2 ∨ k = 3 ∨ k = 4 ∨ k = 5 ∨ k = 6 ∨ k = 7 ∨ k = 8 ∨ k = 9 ∨ k = 10 ∨ k = 11 ∨ k = 12 ∨ k = 13 ∨ k = 14 ∨ k = 15 ∨ k = 16 ∨ k = 17 ∨ k = 18 ∨ k = 19 := by omega
  clear h1 h2
  rcases hc with rfl | rfl | rfl | rfl | rfl | rfl | rfl | rfl | rfl | rfl | rfl | rfl | rfl | rfl | rfl | rfl | rfl | rfl | rfl | rfl
  all_goals
    go_enter Try.func46, Try.ntmps46
    go_wp2_with fail
    go_ret
    exact ⟨rfl, (Kept.refl _ w).alloc _⟩

end Go.Proofs.Ytkicpbnphbcdaaa
