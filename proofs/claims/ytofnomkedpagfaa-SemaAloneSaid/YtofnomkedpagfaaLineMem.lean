/-
  Strings as lists of bytes.
  Conditions: none on the strings but that they are strings.
  What the document's small of layer 7 comes to.
  Conditions: none on the strings but that they are strings.
  A line's cells in memory.
  Conditions: none; these are lemmas on worlds.
-/
import Derived.Test.YtofnomkedpagfaaLine
import Derived.Test.YtofnomkedpagfaaCells5
import Derived.Laws.Concat
import Derived.LoopTactic
import Derived.WalkKit
import Derived.WalkSpells
import Derived.Deep.RegionWith
import Derived.IntWalk
section
namespace Go.Proofs.Ytofnomkedpagfaa
open Go.RowKit

/-- A string's bytes; the string of bytes. -/
def bytesS (s : ByteArray) : Str := s.data.toList
def strS (l : Str) : ByteArray := ⟨l.toArray⟩
theorem bytesS_str (l : Str) : bytesS (strS l) = l := rfl
theorem strS_bytes (s : ByteArray) : strS (bytesS s) = s := rfl
theorem bytesS_len (s : ByteArray) : (bytesS s).length = s.size := by simp [bytesS]
theorem bytesS_at (s : ByteArray) (k : Nat) (h : k < s.size) : (bytesS s)[k]? = some s[k] := by
  unfold bytesS
  rw [Array.getElem?_toList]
  exact Array.getElem?_eq_getElem (by simpa using h)
theorem bytesS_add (a b : ByteArray) : bytesS (a ++ b) = bytesS a ++ bytesS b := by simp [bytesS]
theorem bytesS_inj {a b : ByteArray} (h : bytesS a = bytesS b) : a = b := by rw [← strS_bytes a, ← strS_bytes b, h]

theorem ret_bool {a b : Bool} (h : a = b) : Ending.returned (.bool a) = .returned (.bool b) := by rw [h]

theorem strS_add (a b : Str) : strS a ++ strS b = strS (a ++ b) := bytesS_inj (by rw [bytesS_add]; rfl)
theorem strS_size (a : Str) : (strS a).size = a.length := by rw [← bytesS_len]; rfl
theorem bytesS_cut (s : ByteArray) (a b : Nat) : bytesS (s.extract a b) = ((bytesS s).drop a).take (b - a) := by
  simp [bytesS, ByteArray.data_extract]

theorem regL_none {l : Str} (h : ∀ k : Nat, k < 16 → l ≠ regT (k : Int)) : regL l = none := by
  unfold regL
  rw [Option.map_eq_none_iff, List.find?_eq_none]
  intro k hk
  rw [List.mem_range] at hk
  simpa using h k hk
theorem str_eq (a : ByteArray) (l : Str) : (a.toList == (strS l).toList) = decide (bytesS a = l) := by
  have h1 : ∀ b : ByteArray, b.toList = bytesS b := fun b => by rw [ByteArray.toList_eq]; rfl
  rw [h1, h1, bytesS_str]
  rw [Bool.eq_iff_iff]; simp

end Go.Proofs.Ytofnomkedpagfaa
end
section
namespace Go.Proofs.Ytofnomkedpagfaa
open Go.RowKit

theorem refSmall_any (v : Int) (w : World) : Calls Try.prog 44 #[.int .i64 v] w fun e w' => e = .returned (.bool (small v)) ∧ w = w' := by
  by_cases h : -999999999999999999 ≤ v
  · by_cases h2 : v ≤ 999999999999999999
    · have e : small v = true := by unfold small; rw [decide_eq_true h, decide_eq_true h2]; rfl
      rw [e]
      clear e
      go_enter Try.func44, Try.ntmps44
      go_wp2_with fail
      go_ret
      exact ⟨rfl, rfl⟩
    · have e : small v = false := by unfold small; rw [decide_eq_true h, decide_eq_false h2]; rfl
      rw [e]
      clear e
      go_enter Try.func44, Try.ntmps44
      go_wp2_with fail
      go_ret
      exact ⟨rfl, rfl⟩
  · have e : small v = false := by unfold small; rw [decide_eq_false h]; rfl
    rw [e]
    clear e
    go_enter Try.func44, Try.ntmps44
    go_wp2_with fail
    go_ret
    exact ⟨rfl, rfl⟩


end Go.Proofs.Ytofnomkedpagfaa
end
section
namespace Go.Proofs.Ytofnomkedpagfaa
open Go.RowKit

/-- A line's cells. -/
@[reducible] def lnCells (x : Ln) : Array Value := #[.string (strS x.label), .int .i64 x.op, .int .i64 x.a, .int .i64 x.b, .int .i64 x.c, .int .i64 x.n, .string (strS x.target)]
theorem cells7 {w : World} {g : Nat} {t : TypeId} {x0 x1 x2 x3 x4 x5 x6 : Value} (h : w.heap[g]? = some (.cells #[x0, x1, x2, x3, x4, x5, x6] t (0, 0))) :
    (w.cell? ⟨g, 0, none⟩ = some x0 ∧ w.cell? ⟨g, 1, none⟩ = some x1 ∧ w.cell? ⟨g, 2, none⟩ = some x2 ∧ w.cell? ⟨g, 3, none⟩ = some x3 ∧ w.cell? ⟨g, 4, none⟩ = some x4 ∧ w.cell? ⟨g, 5, none⟩ = some x5 ∧ w.cell? ⟨g, 6, none⟩ = some x6) ∧
    (w.frozen? ⟨g, 0, none⟩ = false ∧ w.frozen? ⟨g, 1, none⟩ = false ∧ w.frozen? ⟨g, 2, none⟩ = false ∧ w.frozen? ⟨g, 3, none⟩ = false ∧ w.frozen? ⟨g, 4, none⟩ = false ∧ w.frozen? ⟨g, 5, none⟩ = false ∧ w.frozen? ⟨g, 6, none⟩ = false) :=
  ⟨⟨by rw [cell_at w _ 0 _ _ h]; rfl, by rw [cell_at w _ 1 _ _ h]; rfl, by rw [cell_at w _ 2 _ _ h]; rfl, by rw [cell_at w _ 3 _ _ h]; rfl, by rw [cell_at w _ 4 _ _ h]; rfl, by rw [cell_at w _ 5 _ _ h]; rfl, by rw [cell_at w _ 6 _ _ h]; rfl⟩,
    frozen_at w _ 0 _ _ h, frozen_at w _ 1 _ _ h, frozen_at w _ 2 _ _ h, frozen_at w _ 3 _ _ h, frozen_at w _ 4 _ _ h, frozen_at w _ 5 _ _ h, frozen_at w _ 6 _ _ h⟩
theorem set_cellB {w : World} {b o : Nat} {cur : Array Value} {t : TypeId} {v : Value} (h : w.heap[b]? = some (.cells cur t (0, 0))) : (w.setCell ⟨b, o, none⟩ v).heap[b]? = some (.cells (cur.setIfInBounds o v) t (0, 0)) := by
  simp [World.setCell, h, Array.getElem?_modify]
@[reducible] def set7 (w : World) (g : Nat) (x0 x1 x2 x3 x4 x5 x6 : Value) : World := ((((((w.setCell ⟨g, 0, none⟩ x0).setCell ⟨g, 1, none⟩ x1).setCell ⟨g, 2, none⟩ x2).setCell ⟨g, 3, none⟩ x3).setCell ⟨g, 4, none⟩ x4).setCell ⟨g, 5, none⟩ x5).setCell ⟨g, 6, none⟩ x6
theorem set7_at {w : World} {g : Nat} {t : TypeId} {y0 y1 y2 y3 y4 y5 y6 x0 x1 x2 x3 x4 x5 x6 : Value} (h : w.heap[g]? = some (.cells #[y0, y1, y2, y3, y4, y5, y6] t (0, 0))) :
    (set7 w g x0 x1 x2 x3 x4 x5 x6).heap[g]? = some (.cells #[x0, x1, x2, x3, x4, x5, x6] t (0, 0)) := by
  unfold set7
  have h0 : (w.setCell ⟨g, 0, none⟩ x0).heap[g]? = some (.cells #[x0, y1, y2, y3, y4, y5, y6] t (0, 0)) := set_cellB h
  have h1 : ((w.setCell ⟨g, 0, none⟩ x0).setCell ⟨g, 1, none⟩ x1).heap[g]? = some (.cells #[x0, x1, y2, y3, y4, y5, y6] t (0, 0)) := set_cellB h0
  generalize ((w.setCell ⟨g, 0, none⟩ x0).setCell ⟨g, 1, none⟩ x1) = w1 at *
  have h2 : (w1.setCell ⟨g, 2, none⟩ x2).heap[g]? = some (.cells #[x0, x1, x2, y3, y4, y5, y6] t (0, 0)) := set_cellB h1
  generalize (w1.setCell ⟨g, 2, none⟩ x2) = w2 at *
  have h3 : (w2.setCell ⟨g, 3, none⟩ x3).heap[g]? = some (.cells #[x0, x1, x2, x3, y4, y5, y6] t (0, 0)) := set_cellB h2
  generalize (w2.setCell ⟨g, 3, none⟩ x3) = w3 at *
  have h4 : (w3.setCell ⟨g, 4, none⟩ x4).heap[g]? = some (.cells #[x0, x1, x2, x3, x4, y5, y6] t (0, 0)) := set_cellB h3
  generalize (w3.setCell ⟨g, 4, none⟩ x4) = w4 at *
  have h5 : (w4.setCell ⟨g, 5, none⟩ x5).heap[g]? = some (.cells #[x0, x1, x2, x3, x4, x5, y6] t (0, 0)) := set_cellB h4
  generalize (w4.setCell ⟨g, 5, none⟩ x5) = w5 at *
  exact set_cellB h5
theorem set7_kept {W w : World} {x0 x1 x2 x3 x4 x5 x6 : Value} {g : Nat} (hg : W.heap.size ≤ g) (h : Kept (fun _ => False) W w) : Kept (fun _ => False) W (set7 w g x0 x1 x2 x3 x4 x5 x6) := by
  have q : ∀ (i : Nat) (w' : World) (v : Value), Kept (fun _ => False) W w' → Kept (fun _ => False) W (w'.setCell ⟨g, i, none⟩ v) := fun i w' v h' => h'.setCell _ _ (fun hl => by have hl' : g < W.heap.size := hl; omega)
  have k0 := q 0 w x0 h
  have k1 := q 1 _ x1 k0
  have k2 := q 2 _ x2 k1
  have k3 := q 3 _ x3 k2
  have k4 := q 4 _ x4 k3
  have k5 := q 5 _ x5 k4
  exact q 6 _ x6 k5

end Go.Proofs.Ytofnomkedpagfaa
end
