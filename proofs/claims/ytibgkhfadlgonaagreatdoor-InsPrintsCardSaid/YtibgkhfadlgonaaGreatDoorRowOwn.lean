/-
  A row of a block that is known whole, read as a list.
  Conditions: none; these are lemmas for the walks.
-/
import Derived.Test.YtibgkhfadlgonaaGreatDoorElems
import Derived.Test.YtibgkhfadlgonaaGreatDoorFlat
namespace Go.Proofs.YtibgkhfadlgonaaGreatDoor
open Go.RowKit

section
variable {α : Type} {f : α → List Value} {n : Nat}
theorem Elems.block (hf : ∀ x, (f x).length = n) {w : World} {g : Nat} {e : TypeId} {xs : List α} {cur : Array Value} (h : w.heap[g]? = some (.cells cur e (0, 0))) (hc : cur = (flat f xs).toArray) (hm : xs.length ≤ maxLen) :
    Elems w (g + 1) (some ⟨g, 0, none⟩) n f xs := by
  subst hc
  refine ⟨hm, fun i x hi => ⟨g, 0, rfl, by omega, fun j v hj => ?_⟩⟩
  have hjn : j < n := by have := (List.getElem?_eq_some_iff.1 hj).1; have := hf x; omega
  rw [Nat.zero_add, cell_at w g _ _ _ h, List.getElem?_toArray, flat_at hf xs i j x hi hjn, hj]
theorem Elems.of_row (hf : ∀ x, (f x).length = n) {w : World} {g c : Nat} {e : TypeId} {xs : List α} (h : Row w g c e n f xs) (hm : xs.length ≤ maxLen) : Elems w (g + 1) (some ⟨g, 0, none⟩) n f xs :=
  ⟨hm, fun i x hi => ⟨g, 0, rfl, by omega, fun j v hj => by rw [Nat.zero_add]; exact h.cell hf hi hj⟩⟩
end

end Go.Proofs.YtibgkhfadlgonaaGreatDoor
