/-
  What the document's Words of layer 7 come to: the table.
  Conditions: none on the strings but that they are strings.
-/
import Derived.Test.YtibgkhfadlgonaaGreatDoorLineStr
import Derived.Test.YtibgkhfadlgonaaGreatDoorGrow
import Derived.Deep.QuietTactic
import Derived.BigQuiet
namespace Go.Proofs.YtibgkhfadlgonaaGreatDoor
open Go.RowKit

/-- A string's cell. -/
def sC (l : Str) : List Value := [.string (strS l)]
theorem sC_one : ∀ x, (sC x).length = 1 := fun _ => rfl
theorem sC_flat (xs ys : List Str) : flat sC (xs ++ ys) = flat sC xs ++ flat sC ys := by simp [flat]
theorem sC_cell (xs : List Str) : ∀ u ∈ flat sC xs, u.oneCell' = true := by
  intro u hu
  simp only [flat, List.mem_flatMap, sC, List.mem_cons, List.not_mem_nil, or_false] at hu
  obtain ⟨_, _, rfl⟩ := hu
  rfl
theorem Tryz.infoStr : (Tryz.prog.info? 9).map (fun i => (i.zero, i.size, i.bytes)) = some (some (.string { data := #[] }), 1, 16) := by kernel_rfl
/-- The lines of the table, as the document's Words has them. -/
def specText (p : Str × Str) : Str := p.1 ++ 32 :: p.2

theorem refTable_any (w : World) : Calls Tryz.prog 21 #[] w fun e w' => e = .returned (.slice (some ⟨w.heap.size, 0, none⟩) 22 22) ∧ Elems w' w'.heap.size (some ⟨w.heap.size, 0, none⟩) 1 sC (specs.map specText) ∧ Kept (fun _ => False) w w' := by
  go_enter Tryz.func21, Tryz.ntmps21
  go_wp2_with fail
  go_ret
  refine ⟨rfl, ?_, (Kept.refl _ w).alloc _⟩
  refine Elems.more (Elems.block sC_one (heap_new1 w _) ?_ (by show 22 ≤ maxLen; decide)) (by simp)
  rfl


end Go.Proofs.YtibgkhfadlgonaaGreatDoor
