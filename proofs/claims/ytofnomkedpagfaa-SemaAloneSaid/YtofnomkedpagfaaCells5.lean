/-
  Cells of small blocks.
  Conditions: none.
-/
import Derived.Test.YtofnomkedpagfaaKept
namespace Go.Proofs.Ytofnomkedpagfaa
open Go.RowKit

theorem cells5 {w : World} {g : Nat} {t : TypeId} {x0 x1 x2 x3 x4 : Value} (h : w.heap[g]? = some (.cells #[x0, x1, x2, x3, x4] t (0, 0))) :
    w.cell? ⟨g, 0, none⟩ = some x0 ∧ w.cell? ⟨g, 1, none⟩ = some x1 ∧ w.cell? ⟨g, 2, none⟩ = some x2 ∧ w.cell? ⟨g, 3, none⟩ = some x3 ∧ w.cell? ⟨g, 4, none⟩ = some x4 ∧ w.frozen? ⟨g, 4, none⟩ = false :=
  ⟨by rw [cell_at w _ 0 _ _ h]; rfl, by rw [cell_at w _ 1 _ _ h]; rfl, by rw [cell_at w _ 2 _ _ h]; rfl, by rw [cell_at w _ 3 _ _ h]; rfl, by rw [cell_at w _ 4 _ _ h]; rfl, frozen_at w _ 4 _ _ h⟩
theorem cells3 {w : World} {g : Nat} {t : TypeId} {x0 x1 x2 : Value} (h : w.heap[g]? = some (.cells #[x0, x1, x2] t (0, 0))) :
    w.cell? ⟨g, 0, none⟩ = some x0 ∧ w.cell? ⟨g, 1, none⟩ = some x1 ∧ w.cell? ⟨g, 2, none⟩ = some x2 :=
  ⟨by rw [cell_at w _ 0 _ _ h]; rfl, by rw [cell_at w _ 1 _ _ h]; rfl, by rw [cell_at w _ 2 _ _ h]; rfl⟩

theorem heap_new1 (w : World) (o : Obj) : (w.alloc o).heap[w.heap.size]? = some o := by unfold World.alloc; simp only [Array.getElem?_push_size]
theorem Kept.at_ {S : Nat → Prop} {a b : World} (h : Kept S a b) {k : Nat} {o : Obj} (ho : a.heap[k]? = some o) (hk : ¬ S k) : b.heap[k]? = some o :=
  (h.block _ (Array.getElem?_eq_some_iff.1 ho).1 hk).trans ho
theorem Kept.at0 {w w' : World} {b : Nat} {o : Obj} (hk : Kept (fun _ => False) w w') (h : w.heap[b]? = some o) : w'.heap[b]? = some o := hk.at_ h (fun f => f)
theorem Kept.tr0 {a b c : World} (h : Kept (fun _ => False) a b) (k : Kept (fun _ => False) b c) : Kept (fun _ => False) a c := h.trans k (fun _ _ f => f)
/-- A call that tells whether, and turns nothing. -/
def BoolTo (w : World) (b : Bool) (e : Ending) (w' : World) : Prop := e = .returned (.bool b) ∧ Kept (fun _ => False) w w'

end Go.Proofs.Ytofnomkedpagfaa
