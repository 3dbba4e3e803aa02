/-
  A line's cells in memory.
  Conditions: none; these are lemmas on worlds.
-/
import Derived.Test.YtdkableaooaebaaDoorLineStr
namespace Go.Proofs.YtdkableaooaebaaDoor
open Go.RowKit

/-- A line's cells. -/
@[reducible] def lnCells (x : Ln) : Array Value := #[.string (strS x.label), .int .i64 x.op, .int .i64 x.a, .int .i64 x.b, .int .i64 x.c, .int .i64 x.n, .string (strS x.target)]
theorem cells7 {w : World} {g : Nat} {t : TypeId} {x0 x1 x2 x3 x4 x5 x6 : Value} (h : w.heap[g]? = some (.cells #[x0, x1, x2, x3, x4, x5, x6] t (0, 0))) :
    (w.cell? ⟨g, 0, none⟩ = some x0 ∧ w.cell? ⟨g, 1, none⟩ = some x1 ∧ w.cell? ⟨g, 2, none⟩ = some x2 ∧ w.cell? ⟨g, 3, none⟩ = some x3 ∧ w.cell? ⟨g, 4, none⟩ = some x4 ∧ w.cell? ⟨g, 5, none⟩ = some x5 ∧ w.cell? ⟨g, 6, none⟩ = some x6) ∧
    (w.frozen? ⟨g, 0, none⟩ = false ∧ w.frozen? ⟨g, 1, none⟩ = false ∧ w.frozen? ⟨g, 2, none⟩ = false ∧ w.frozen? ⟨g, 3, none⟩ = false ∧ w.frozen? ⟨g, 4, none⟩ = false ∧ w.frozen? ⟨g, 5, none⟩ = false ∧ w.frozen? ⟨g, 6, none⟩ = false) :=
  ⟨⟨by rw [cell_at w _ 0 _ _ h]; rfl, by rw [cell_at w _ 1 _ _ h]; rfl, by rw [cell_at w _ 2 _ _ h]; rfl, by rw [cell_at w _ 3 _ _ h]; rfl, by rw [cell_at w _ 4 _ _ h]; rfl, by rw [cell_at w _ 5 _ _ h]; rfl, by rw [cell_at w _ 6 _ _ h]; rfl⟩,
    frozen_at w _ 0 _ _ h, frozen_at w _ 1 _ _ h, frozen_at w _ 2 _ _ h, frozen_at w _ 3 _ _ h, frozen_at w _ 4 _ _ h, frozen_at w _ 5 _ _ h, frozen_at w _ 6 _ _ h⟩
theorem set_cellB {w : World} {b o : Nat} {cur : Array Value} {t : TypeId} {v : Value} (h : w.heap[b]? = some (.cells cur t (0, 0))) : (w.setCell ⟨b, o, none⟩ v).heap[b]? = some (.cells (cur.setIfInBounds o v) t (0, 0)) := by
  simp [World.setCell, h, Array.getElem?_modify]
@[reducible] def set7 (w : World) (g : Nat) (x0 x1 x2 x3 x4 x5 x6 : Value) : World := ((((((w.setCell ⟨g, 0, none⟩ x0).setCell ⟨g, 1, none⟩ x1).setCell ⟨g, 2, none⟩ x2).setCell ⟨g, 3, none⟩ x3).setCell ⟨g, 4, none⟩ x4).setCell ⟨g, 5, none⟩ x5).setCell ⟨g, 6, none⟩ x6
theorem set7_at {w : World} {g : Nat} {t : TypeId} {y0 y1 y2 y3 y4 y5 y6 x0 x1 x2 x3 x4 x5 x6 : Value} (h : w.heap[g]? = some (.cells #[y0, y1, y2, y3, y4, y5, y6] t (0, 0))) :
    (set7 w g x0 x1 x2 x3 x4 x5 x6).heap[g]? = some (.cells #[x0, x1, x2, x3, x4, x5, x6] t (0, 0)) := by
  unfold set7
  have h0 : (w.setCell ⟨g, 0, none⟩ x0).heap[g]? = some (.cells #[x0, y1, y2, y3, y4, y5, y6] t (0, 0)) := set_cellB h
  have h1 : ((w.setCell ⟨g, 0, none⟩ x0).setCell ⟨g, 1, none⟩ x1).heap[g]? = some (.cells #[x0, x1, y2, y3, y4, y5, y6] t (0, 0)) := set_cellB h0
  generalize ((w.setCell ⟨g, 0, none⟩ x0).setCell ⟨g, 1, none⟩ x1) = w1 at *
  have h2 : (w1.setCell ⟨g, 2, none⟩ x2).heap[g]? = some (.cells #[x0, x1, x2, y3, y4, y5, y6] t (0, 0)) := set_cellB h1
  generalize (w1.setCell ⟨g, 2, none⟩ x2) = w2 at *
  have h3 : (w2.setCell ⟨g, 3, none⟩ x3).heap[g]? = some (.cells #[x0, x1, x2, x3, y4, y5, y6] t (0, 0)) := set_cellB h2
  generalize (w2.setCell ⟨g, 3, none⟩ x3) = w3 at *
  have h4 : (w3.setCell ⟨g, 4, none⟩ x4).heap[g]? = some (.cells #[x0, x1, x2, x3, x4, y5, y6] t (0, 0)) := set_cellB h3
  generalize (w3.setCell ⟨g, 4, none⟩ x4) = w4 at *
  have h5 : (w4.setCell ⟨g, 5, none⟩ x5).heap[g]? = some (.cells #[x0, x1, x2, x3, x4, x5, y6] t (0, 0)) := set_cellB h4
  generalize (w4.setCell ⟨g, 5, none⟩ x5) = w5 at *
  exact set_cellB h5
theorem set7_kept {W w : World} {x0 x1 x2 x3 x4 x5 x6 : Value} {g : Nat} (hg : W.heap.size ≤ g) (h : Kept (fun _ => False) W w) : Kept (fun _ => False) W (set7 w g x0 x1 x2 x3 x4 x5 x6) := by
  have q : ∀ (i : Nat) (w' : World) (v : Value), Kept (fun _ => False) W w' → Kept (fun _ => False) W (w'.setCell ⟨g, i, none⟩ v) := fun i w' v h' => h'.setCell _ _ (fun hl => by have hl' : g < W.heap.size := hl; omega)
  have k0 := q 0 w x0 h
  have k1 := q 1 _ x1 k0
  have k2 := q 2 _ x2 k1
  have k3 := q 3 _ x3 k2
  have k4 := q 4 _ x4 k3
  have k5 := q 5 _ x5 k4
  exact q 6 _ x6 k5

end Go.Proofs.YtdkableaooaebaaDoor
