/-
  Slices of structs of the call's own: elements' cells one behind the other; what a cell of an element is, and what a store into one does.
  Conditions: none; these are lemmas for the walks.
-/
import Derived.Test.YtibgkhfadlgonaaGreatDoorKept
import Derived.Laws.OwnMore
namespace Go.Proofs.YtibgkhfadlgonaaGreatDoor
open Go.RowKit

/-- Elements' cells, one behind the other. -/
def flat {α : Type} (f : α → List Value) (xs : List α) : List Value := xs.flatMap f

section
variable {α : Type} {f : α → List Value} {n : Nat}

theorem flat_len (hf : ∀ x, (f x).length = n) (xs : List α) : (flat f xs).length = xs.length * n := by
  induction xs with
  | nil => simp [flat]
  | cons x xs ih =>
    have h := hf x
    simp only [flat, List.flatMap_cons, List.length_append, List.length_cons] at ih ⊢
    rw [ih, h, Nat.add_mul]; omega

theorem flat_at (hf : ∀ x, (f x).length = n) (xs : List α) : ∀ (i j : Nat) (x : α), xs[i]? = some x → j < n → (flat f xs)[i * n + j]? = (f x)[j]? := by
  induction xs with
  | nil => intro i j x h; simp at h
  | cons y xs ih =>
    intro i j x h hj
    have hy := hf y
    match i with
    | 0 =>
      simp only [List.getElem?_cons_zero, Option.some.injEq] at h
      subst h
      simp only [flat, List.flatMap_cons, Nat.zero_mul, Nat.zero_add]
      rw [List.getElem?_append_left (by omega)]
    | i + 1 =>
      simp only [List.getElem?_cons_succ] at h
      have e : (i + 1) * n + j = (f y).length + (i * n + j) := by rw [Nat.add_mul, hy]; omega
      rw [e]
      simp only [flat, List.flatMap_cons]
      rw [List.getElem?_append_right (by omega), Nat.add_sub_cancel_left]
      exact ih i j x h hj

theorem flat_set (hf : ∀ x, (f x).length = n) (xs : List α) : ∀ (i j : Nat) (x x' : α) (v : Value), xs[i]? = some x → j < n → f x' = (f x).set j v → flat f (xs.set i x') = (flat f xs).set (i * n + j) v := by
  induction xs with
  | nil => intro i j x x' v h; simp at h
  | cons y xs ih =>
    intro i j x x' v h hj hx
    have hy := hf y
    match i with
    | 0 =>
      simp only [List.getElem?_cons_zero, Option.some.injEq] at h
      subst h
      simp only [List.set_cons_zero, flat, List.flatMap_cons, Nat.zero_mul, Nat.zero_add]
      rw [List.set_append_left _ _ (by omega), hx]
    | i + 1 =>
      simp only [List.getElem?_cons_succ] at h
      have e : (i + 1) * n + j = (f y).length + (i * n + j) := by rw [Nat.add_mul, hy]; omega
      rw [e]
      simp only [List.set_cons_succ, flat, List.flatMap_cons]
      rw [List.set_append_right _ _ (by omega), Nat.add_sub_cancel_left]
      exact congrArg (f y ++ ·) (ih i j x x' v h hj hx)

/-- The slice at the head of block g, of capacity c, owns the elements xs of type e, n cells each. -/
def Row (w : World) (g c : Nat) (e : TypeId) (n : Nat) (f : α → List Value) (xs : List α) : Prop :=
  w.ownsRow 0 e n (.slice (some ⟨g, 0, none⟩) xs.length c) xs.length (flat f xs)

theorem Row.lt {w : World} {g c : Nat} {e : TypeId} {xs : List α} (h : Row w g c e n f xs) : g < w.heap.size := (World.ownsRow.lt h g rfl).2

theorem Row.cell (hf : ∀ x, (f x).length = n) {w : World} {g c : Nat} {e : TypeId} {xs : List α} (h : Row w g c e n f xs) {i j : Nat} {x : α} {v : Value} (hx : xs[i]? = some x) (hv : (f x)[j]? = some v) : w.cell? ⟨g, i * n + j, none⟩ = some v := by
  have hi : i < xs.length := (List.getElem?_eq_some_iff.1 hx).1
  have hj : j < n := by have := (List.getElem?_eq_some_iff.1 hv).1; have := hf x; omega
  have hlt : i * n + j < xs.length * n := by
    have : (i + 1) * n ≤ xs.length * n := Nat.mul_le_mul_right n hi
    rw [Nat.add_mul] at this; omega
  rw [World.ownsRow.cellAt h (i * n + j) hlt, flat_at hf xs i j x hx hj, hv]

theorem Row.free {w : World} {g c : Nat} {e : TypeId} {xs : List α} (h : Row w g c e n f xs) (o : Nat) : w.frozen? ⟨g, o, none⟩ = false := World.ownsRow.frozenAt h o

theorem Row.kept {S : Nat → Prop} {w w' : World} {g c : Nat} {e : TypeId} {xs : List α} (h : Row w g c e n f xs) (hk : Kept S w w') (hg : ¬ S g) : Row w' g c e n f xs := by
  refine ⟨h.1, ?_⟩
  rcases h.2 with hn | ⟨g', cap, cur, hv, hbg, hgg, rest⟩
  · exact .inl hn
  · simp only [Value.slice.injEq, Option.some.injEq, Addr.mk.injEq, and_true, true_and] at hv
    obtain ⟨rfl, rfl⟩ := hv
    exact .inr ⟨g, c, cur, rfl, hbg, (hk.block g (Array.getElem?_eq_some_iff.1 hgg).1 hg).trans hgg, rest⟩

theorem Row.set (hf : ∀ x, (f x).length = n) {w : World} {g c : Nat} {e : TypeId} {xs : List α} (h : Row w g c e n f xs) {i j : Nat} {x x' : α} {v : Value} (hx : xs[i]? = some x) (hj : j < n) (hx' : f x' = (f x).set j v) :
    Row (w.setCell ⟨g, i * n + j, none⟩ v) g c e n f (xs.set i x') := by
  have h1 := (World.ownsRow.stored h (i * n + j) v).1
  unfold Row
  rw [List.length_set, flat_set hf xs i j x x' v hx hj hx']
  exact h1

/-- A new one, of elements that are alike. -/
theorem Row.made {w : World} {g c m : Nat} {e : TypeId} {xs : List α} (hm : m = xs.length) (h : w.ownsRow 0 e n (.slice (some ⟨g, 0, none⟩) m c) m (flat f xs)) : Row w g c e n f xs := by
  subst hm; exact h
end

end Go.Proofs.YtibgkhfadlgonaaGreatDoor
