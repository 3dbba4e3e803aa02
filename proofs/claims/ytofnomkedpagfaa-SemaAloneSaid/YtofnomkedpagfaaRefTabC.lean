/-
  The document's table of layer 7, in memory.
  Conditions: none.
-/
import Derived.Test.YtofnomkedpagfaaLineSplit
namespace Go.Proofs.Ytofnomkedpagfaa
open Go.RowKit

/-- The table in memory. -/
def tabCells : Array Value := (specs.map (fun p => Value.string (strS (specText p)))).toArray
theorem refTableC_any (w : World) : Calls Try.prog 40 #[] w fun e w' => e = .returned (.slice (some ⟨w.heap.size, 0, none⟩) 22 22) ∧ w'.heap[w.heap.size]? = some (.cells tabCells 9 (0, 0)) ∧ Kept (fun _ => False) w w' := by
  go_enter Try.func40, Try.ntmps40
  go_wp2_with fail
  go_ret
  exact ⟨rfl, heap_new1 w _, (Kept.refl _ w).alloc _⟩
theorem tab_at : ∀ j, j < 22 → tabCells[j]? = some (.string (strS ((specL ((j + 1 : Nat) : Int)).1 ++ 32 :: (specL ((j + 1 : Nat) : Int)).2))) := by
  intro j hj
  have : j = 0 ∨ j = 1 ∨ j = 2 ∨ j = 3 ∨ j = 4 ∨ j = 5 ∨ j = 6 ∨ j = 7 ∨ j = 8 ∨ j = 9 ∨ j = 10 ∨ j = 11 ∨ j = 12 ∨ j = 13 ∨ j = 14 ∨ j = 15 ∨ j = 16 ∨ j = 17 ∨ j = 18 ∨ j = 19 ∨ j = 20 ∨ j = 21 := by omega
  rcases this with rfl | rfl | rfl | rfl | rfl | rfl | rfl | rfl | rfl | rfl | rfl | rfl | rfl | rfl | rfl | rfl | rfl | rfl | rfl | rfl | rfl | rfl <;> rfl
theorem spec_nosp : ∀ j, j < 22 → (specL ((j + 1 : Nat) : Int)).1.all (fun c => c.toNat != 32) = true ∧ (specL ((j + 1 : Nat) : Int)).1.length ≤ 10 ∧ (specL ((j + 1 : Nat) : Int)).2.length ≤ 3 ∧ (specL ((j + 1 : Nat) : Int)).2.all (fun c => c.toNat == 65 || c.toNat == 66 || c.toNat == 67 || c.toNat == 78 || c.toNat == 84) = true := by decide +kernel


end Go.Proofs.Ytofnomkedpagfaa
