/-
  A slice that came in, read as a list: any elements of some cells each.
  Conditions: none; these are lemmas for the walks.
  Slices of structs of the call's own: elements' cells one behind the other; what a cell of an element is, and what a store into one does.
  Conditions: none; these are lemmas for the walks.
  A row of a block that is known whole, read as a list.
  Conditions: none; these are lemmas for the walks.
-/
import Derived.Test.YtofnomkedpagfaaKept
import Derived.WalkKit
import Derived.ProofKit
import Derived.OpenShut
import Derived.Deep.Slices
import Derived.Laws.OwnMore
section
namespace Go.Proofs.Ytofnomkedpagfaa
open Go.RowKit Go.ChangeShapes Go.WideShapes

theorem list_of {α : Type} {P : Nat → α → Prop} : ∀ n, (∀ i, i < n → ∃ x, P i x) → ∃ xs : List α, xs.length = n ∧ ∀ i x, xs[i]? = some x → P i x := by
  intro n
  induction n with
  | zero => intro _; exact ⟨[], rfl, fun i x h => by simp at h⟩
  | succ n ih =>
    intro h
    obtain ⟨xs, hl, hx⟩ := ih (fun i hi => h i (by omega))
    obtain ⟨y, hy⟩ := h n (by omega)
    refine ⟨xs ++ [y], by simp [hl], fun i x hi => ?_⟩
    by_cases h1 : i < xs.length
    · rw [List.getElem?_append_left h1] at hi; exact hx i x hi
    · rw [List.getElem?_append_right (by omega)] at hi
      have h2 : i - xs.length = 0 := by
        have := (List.getElem?_eq_some_iff.1 hi).1
        simp at this; omega
      rw [h2] at hi
      simp at hi
      subst hi
      rw [show i = n from by omega]; exact hy

/-- A slice that reads as the elements xs, of m cells each, in blocks below B. -/
def Elems {α : Type} (w : World) (B : Nat) (s : Option Addr) (m : Nat) (f : α → List Value) (xs : List α) : Prop :=
  xs.length ≤ maxLen ∧ ∀ i x, xs[i]? = some x → ∃ g off, s = some ⟨g, off, none⟩ ∧ g < B ∧ ∀ j v, (f x)[j]? = some v → w.cell? ⟨g, off + i * m + j, none⟩ = some v

theorem Elems.keep {α : Type} {w w' : World} {B m : Nat} {s : Option Addr} {f : α → List Value} {xs : List α} (h : Elems w B s m f xs) (hk : ∀ p : Addr, p.block < B → w'.cell? p = w.cell? p) : Elems w' B s m f xs :=
  ⟨h.1, fun i x hi => by obtain ⟨g, off, e, hb, hc⟩ := h.2 i x hi; exact ⟨g, off, e, hb, fun j v hj => (hk _ hb).trans (hc j v hj)⟩⟩

theorem Elems.kept {α : Type} {S : Nat → Prop} {w w' : World} {B m : Nat} {s : Option Addr} {f : α → List Value} {xs : List α} (h : Elems w B s m f xs) (hk : Kept S w w') (hB : B ≤ w.heap.size) (hS : ∀ k, k < B → ¬ S k) : Elems w' B s m f xs :=
  h.keep fun p hp => hk.cell (by omega) (hS _ hp)

theorem elems_of {α : Type} {H : Type} {enc : TypeId × Value → H} {P : Program} {w : World} {t e : TypeId} {m : Nat} {f : α → List Value} {Q : α → Prop} {s : Option Addr} {len cap : Nat} {d : DataW H} {p : List MemPlace}
    (ht : P.underlying t = some (.slice e)) (hC : P.cellsOf e = m) (hm : 0 < m)
    (hopen : ∀ k cs y, cs.length = m → DataW.trod enc P w 0 (fun _ => true) true k e cs = some y → ∃ x, f x = cs ∧ Q x)
    (h : DataW.Trod enc P w 0 (fun _ => true) true t (.slice s len cap) d p) : ∃ xs, xs.length = len ∧ Elems w w.heap.size s m f xs ∧ ∀ x ∈ xs, Q x := by
  obtain ⟨fuel, hf⟩ := h
  rcases Go.Deep.open_slice ht hf with ⟨hcs, _⟩ | ⟨ad, l, c, mm, n, D, Pl, hcs, _, hl, hmx, hmm, _, hx⟩
  · simp [Value.cells] at hcs
    obtain ⟨rfl, rfl, rfl⟩ := hcs
    exact ⟨[], rfl, ⟨by simp, fun i x hi => by simp at hi⟩, by simp⟩
  · simp [Value.cells] at hcs
    obtain ⟨rfl, rfl, rfl⟩ := hcs
    simp only [ite_true] at hmm
    have hrow : ∀ i, i < len → ∃ x, Q x ∧ ∃ g off, ad = ⟨g, off, none⟩ ∧ g < w.heap.size ∧ ∀ j v, (f x)[j]? = some v → w.cell? ⟨g, off + i * m + j, none⟩ = some v := by
      intro i hi
      obtain ⟨cs', h1, h2⟩ := hx i (by omega)
      rw [hC] at h1
      obtain ⟨_, hlen, hcell⟩ := World.cells?_some h1
      obtain ⟨x, hfx, hq⟩ := hopen _ cs' _ hlen h2
      have hspot : ad.spot = none := by
        obtain ⟨cs0, h3, _⟩ := hx 0 (by omega)
        rw [hC] at h3
        obtain ⟨_, hl0, hc0⟩ := World.cells?_some h3
        have q := hc0 0 (by omega)
        rw [Go.Deep.add_add, List.getElem?_eq_getElem (by omega)] at q
        simpa [Addr.add] using World.cell?_spot q
      obtain ⟨g, off, spot⟩ := ad
      simp only at hspot
      subst hspot
      refine ⟨x, hq, g, off, rfl, ?_, fun j v hj => ?_⟩
      · have q := hcell 0 (by omega)
        rw [List.getElem?_eq_getElem (by omega), Go.Deep.add_add, Addr.add_lit] at q
        exact World.block_lt_of_cell? w _ q
      · rw [hfx] at hj
        have hjl : j < m := by have := (List.getElem?_eq_some_iff.1 hj).1; omega
        have q := hcell j hjl
        rw [Go.Deep.add_add, Addr.add_lit, hj, ← Nat.add_assoc] at q
        exact q
    obtain ⟨xs, hxl, hxs⟩ := list_of len hrow
    refine ⟨xs, hxl, ⟨by omega, fun i x hi => ?_⟩, fun x hxm => ?_⟩
    · obtain ⟨_, g, off, e1, h4, h5⟩ := hxs i x hi
      exact ⟨g, off, by rw [e1], h4, h5⟩
    · obtain ⟨i, hi⟩ := List.getElem?_of_mem hxm
      exact (hxs i x hi).1

theorem Elems.more {α : Type} {w : World} {B C m : Nat} {s : Option Addr} {f : α → List Value} {xs : List α} (h : Elems w B s m f xs) (hBC : B ≤ C) : Elems w C s m f xs :=
  ⟨h.1, fun i x hi => by obtain ⟨g, off, e, hb, hc⟩ := h.2 i x hi; exact ⟨g, off, e, by omega, hc⟩⟩
theorem Elems.nil {α : Type} {w : World} {B m : Nat} {s : Option Addr} {f : α → List Value} : Elems w B s m f [] := ⟨by simp, fun i x hi => by simp at hi⟩
theorem Elems.take {α : Type} {w : World} {B m : Nat} {s : Option Addr} {f : α → List Value} {xs : List α} (h : Elems w B s m f xs) (k : Nat) : Elems w B s m f (xs.take k) :=
  ⟨by have := h.1; rw [List.length_take]; omega, fun i x hi => h.2 i x (by rw [List.getElem?_take] at hi; split at hi; exact hi; cases hi)⟩

end Go.Proofs.Ytofnomkedpagfaa
end
section
namespace Go.Proofs.Ytofnomkedpagfaa
open Go.RowKit

/-- Elements' cells, one behind the other. -/
def flat {α : Type} (f : α → List Value) (xs : List α) : List Value := xs.flatMap f

section
variable {α : Type} {f : α → List Value} {n : Nat}

theorem flat_len (hf : ∀ x, (f x).length = n) (xs : List α) : (flat f xs).length = xs.length * n := by
  induction xs with
  | nil => simp [flat]
  | cons x xs ih =>
    have h := hf x
    simp only [flat, List.flatMap_cons, List.length_append, List.length_cons] at ih ⊢
    rw [ih, h, Nat.add_mul]; omega

theorem flat_at (hf : ∀ x, (f x).length = n) (xs : List α) : ∀ (i j : Nat) (x : α), xs[i]? = some x → j < n → (flat f xs)[i * n + j]? = (f x)[j]? := by
  induction xs with
  | nil => intro i j x h; simp at h
  | cons y xs ih =>
    intro i j x h hj
    have hy := hf y
    match i with
    | 0 =>
      simp only [List.getElem?_cons_zero, Option.some.injEq] at h
      subst h
      simp only [flat, List.flatMap_cons, Nat.zero_mul, Nat.zero_add]
      rw [List.getElem?_append_left (by omega)]
    | i + 1 =>
      simp only [List.getElem?_cons_succ] at h
      have e : (i + 1) * n + j = (f y).length + (i * n + j) := by rw [Nat.add_mul, hy]; omega
      rw [e]
      simp only [flat, List.flatMap_cons]
      rw [List.getElem?_append_right (by omega), Nat.add_sub_cancel_left]
      exact ih i j x h hj

theorem flat_set (hf : ∀ x, (f x).length = n) (xs : List α) : ∀ (i j : Nat) (x x' : α) (v : Value), xs[i]? = some x → j < n → f x' = (f x).set j v → flat f (xs.set i x') = (flat f xs).set (i * n + j) v := by
  induction xs with
  | nil => intro i j x x' v h; simp at h
  | cons y xs ih =>
    intro i j x x' v h hj hx
    have hy := hf y
    match i with
    | 0 =>
      simp only [List.getElem?_cons_zero, Option.some.injEq] at h
      subst h
      simp only [List.set_cons_zero, flat, List.flatMap_cons, Nat.zero_mul, Nat.zero_add]
      rw [List.set_append_left _ _ (by omega), hx]
    | i + 1 =>
      simp only [List.getElem?_cons_succ] at h
      have e : (i + 1) * n + j = (f y).length + (i * n + j) := by rw [Nat.add_mul, hy]; omega
      rw [e]
      simp only [List.set_cons_succ, flat, List.flatMap_cons]
      rw [List.set_append_right _ _ (by omega), Nat.add_sub_cancel_left]
      exact congrArg (f y ++ ·) (ih i j x x' v h hj hx)

/-- The slice at the head of block g, of capacity c, owns the elements xs of type e, n cells each. -/
def Row (w : World) (g c : Nat) (e : TypeId) (n : Nat) (f : α → List Value) (xs : List α) : Prop :=
  w.ownsRow 0 e n (.slice (some ⟨g, 0, none⟩) xs.length c) xs.length (flat f xs)

theorem Row.lt {w : World} {g c : Nat} {e : TypeId} {xs : List α} (h : Row w g c e n f xs) : g < w.heap.size := (World.ownsRow.lt h g rfl).2

theorem Row.cell (hf : ∀ x, (f x).length = n) {w : World} {g c : Nat} {e : TypeId} {xs : List α} (h : Row w g c e n f xs) {i j : Nat} {x : α} {v : Value} (hx : xs[i]? = some x) (hv : (f x)[j]? = some v) : w.cell? ⟨g, i * n + j, none⟩ = some v := by
  have hi : i < xs.length := (List.getElem?_eq_some_iff.1 hx).1
  have hj : j < n := by have := (List.getElem?_eq_some_iff.1 hv).1; have := hf x; omega
  have hlt : i * n + j < xs.length * n := by
    have : (i + 1) * n ≤ xs.length * n := Nat.mul_le_mul_right n hi
    rw [Nat.add_mul] at this; omega
  rw [World.ownsRow.cellAt h (i * n + j) hlt, flat_at hf xs i j x hx hj, hv]

theorem Row.free {w : World} {g c : Nat} {e : TypeId} {xs : List α} (h : Row w g c e n f xs) (o : Nat) : w.frozen? ⟨g, o, none⟩ = false := World.ownsRow.frozenAt h o

theorem Row.kept {S : Nat → Prop} {w w' : World} {g c : Nat} {e : TypeId} {xs : List α} (h : Row w g c e n f xs) (hk : Kept S w w') (hg : ¬ S g) : Row w' g c e n f xs := by
  refine ⟨h.1, ?_⟩
  rcases h.2 with hn | ⟨g', cap, cur, hv, hbg, hgg, rest⟩
  · exact .inl hn
  · simp only [Value.slice.injEq, Option.some.injEq, Addr.mk.injEq, and_true, true_and] at hv
    obtain ⟨rfl, rfl⟩ := hv
    exact .inr ⟨g, c, cur, rfl, hbg, (hk.block g (Array.getElem?_eq_some_iff.1 hgg).1 hg).trans hgg, rest⟩

theorem Row.set (hf : ∀ x, (f x).length = n) {w : World} {g c : Nat} {e : TypeId} {xs : List α} (h : Row w g c e n f xs) {i j : Nat} {x x' : α} {v : Value} (hx : xs[i]? = some x) (hj : j < n) (hx' : f x' = (f x).set j v) :
    Row (w.setCell ⟨g, i * n + j, none⟩ v) g c e n f (xs.set i x') := by
  have h1 := (World.ownsRow.stored h (i * n + j) v).1
  unfold Row
  rw [List.length_set, flat_set hf xs i j x x' v hx hj hx']
  exact h1

/-- A new one, of elements that are alike. -/
theorem Row.made {w : World} {g c m : Nat} {e : TypeId} {xs : List α} (hm : m = xs.length) (h : w.ownsRow 0 e n (.slice (some ⟨g, 0, none⟩) m c) m (flat f xs)) : Row w g c e n f xs := by
  subst hm; exact h
end

end Go.Proofs.Ytofnomkedpagfaa
end
section
namespace Go.Proofs.Ytofnomkedpagfaa
open Go.RowKit

section
variable {α : Type} {f : α → List Value} {n : Nat}
theorem Elems.block (hf : ∀ x, (f x).length = n) {w : World} {g : Nat} {e : TypeId} {xs : List α} {cur : Array Value} (h : w.heap[g]? = some (.cells cur e (0, 0))) (hc : cur = (flat f xs).toArray) (hm : xs.length ≤ maxLen) :
    Elems w (g + 1) (some ⟨g, 0, none⟩) n f xs := by
  subst hc
  refine ⟨hm, fun i x hi => ⟨g, 0, rfl, by omega, fun j v hj => ?_⟩⟩
  have hjn : j < n := by have := (List.getElem?_eq_some_iff.1 hj).1; have := hf x; omega
  rw [Nat.zero_add, cell_at w g _ _ _ h, List.getElem?_toArray, flat_at hf xs i j x hi hjn, hj]
theorem Elems.of_row (hf : ∀ x, (f x).length = n) {w : World} {g c : Nat} {e : TypeId} {xs : List α} (h : Row w g c e n f xs) (hm : xs.length ≤ maxLen) : Elems w (g + 1) (some ⟨g, 0, none⟩) n f xs :=
  ⟨hm, fun i x hi => ⟨g, 0, rfl, by omega, fun j v hj => by rw [Nat.zero_add]; exact h.cell hf hi hj⟩⟩
end

end Go.Proofs.Ytofnomkedpagfaa
end
