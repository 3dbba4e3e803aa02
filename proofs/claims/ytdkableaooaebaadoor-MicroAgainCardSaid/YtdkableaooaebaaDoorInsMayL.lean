/-
  Whether an instruction may be, as the program tells, plain mathematics; cells of small blocks.
  Conditions: none.
-/
import Derived.Test.YtdkableaooaebaaDoorInsFits
namespace Go.Proofs.YtdkableaooaebaaDoor
open Go.RowKit

/-- Is it an instruction, as the program tells? -/
def mayP (op a b c n : Int) : Bool := decide (1 ≤ op) && decide (op ≤ 22) && fitsAt op.toNat a b c (if hasC op.toNat 84 then 0 else n)

theorem cells5 {w : World} {g : Nat} {t : TypeId} {x0 x1 x2 x3 x4 : Value} (h : w.heap[g]? = some (.cells #[x0, x1, x2, x3, x4] t (0, 0))) :
    w.cell? ⟨g, 0, none⟩ = some x0 ∧ w.cell? ⟨g, 1, none⟩ = some x1 ∧ w.cell? ⟨g, 2, none⟩ = some x2 ∧ w.cell? ⟨g, 3, none⟩ = some x3 ∧ w.cell? ⟨g, 4, none⟩ = some x4 ∧ w.frozen? ⟨g, 4, none⟩ = false :=
  ⟨by rw [cell_at w _ 0 _ _ h]; rfl, by rw [cell_at w _ 1 _ _ h]; rfl, by rw [cell_at w _ 2 _ _ h]; rfl, by rw [cell_at w _ 3 _ _ h]; rfl, by rw [cell_at w _ 4 _ _ h]; rfl, frozen_at w _ 4 _ _ h⟩
theorem cells3 {w : World} {g : Nat} {t : TypeId} {x0 x1 x2 : Value} (h : w.heap[g]? = some (.cells #[x0, x1, x2] t (0, 0))) :
    w.cell? ⟨g, 0, none⟩ = some x0 ∧ w.cell? ⟨g, 1, none⟩ = some x1 ∧ w.cell? ⟨g, 2, none⟩ = some x2 :=
  ⟨by rw [cell_at w _ 0 _ _ h]; rfl, by rw [cell_at w _ 1 _ _ h]; rfl, by rw [cell_at w _ 2 _ _ h]; rfl⟩
theorem Kept.at0 {w w' : World} {b : Nat} {o : Obj} (hk : Kept (fun _ => False) w w') (h : w.heap[b]? = some o) : w'.heap[b]? = some o := (hk.block _ (Array.getElem?_eq_some_iff.1 h).1 (fun f => f)).trans h

end Go.Proofs.YtdkableaooaebaaDoor
