/-
  A slice that came in, read as a list: any elements of some cells each.
  Conditions: none; these are lemmas for the walks.
-/
import Derived.Test.YtibgkhfadlgonaaGreatDoorKept
import Derived.WalkKit
import Derived.ProofKit
import Derived.OpenShut
import Derived.Deep.Slices
namespace Go.Proofs.YtibgkhfadlgonaaGreatDoor
open Go.RowKit Go.ChangeShapes Go.WideShapes

theorem list_of {α : Type} {P : Nat → α → Prop} : ∀ n, (∀ i, i < n → ∃ x, P i x) → ∃ xs : List α, xs.length = n ∧ ∀ i x, xs[i]? = some x → P i x := by
  intro n
  induction n with
  | zero => intro _; exact ⟨[], rfl, fun i x h => by simp at h⟩
  | succ n ih =>
    intro h
    obtain ⟨xs, hl, hx⟩ := ih (fun i hi => h i (by omega))
    obtain ⟨y, hy⟩ := h n (by omega)
    refine ⟨xs ++ [y], by simp [hl], fun i x hi => ?_⟩
    by_cases h1 : i < xs.length
    · rw [List.getElem?_append_left h1] at hi; exact hx i x hi
    · rw [List.getElem?_append_right (by omega)] at hi
      have h2 : i - xs.length = 0 := by
        have := (List.getElem?_eq_some_iff.1 hi).1
        simp at this; omega
      rw [h2] at hi
      simp at hi
      subst hi
      rw [show i = n from by omega]; exact hy

/-- A slice that reads as the elements xs, of m cells each, in blocks below B. -/
def Elems {α : Type} (w : World) (B : Nat) (s : Option Addr) (m : Nat) (f : α → List Value) (xs : List α) : Prop :=
  xs.length ≤ maxLen ∧ ∀ i x, xs[i]? = some x → ∃ g off, s = some ⟨g, off, none⟩ ∧ g < B ∧ ∀ j v, (f x)[j]? = some v → w.cell? ⟨g, off + i * m + j, none⟩ = some v

theorem Elems.keep {α : Type} {w w' : World} {B m : Nat} {s : Option Addr} {f : α → List Value} {xs : List α} (h : Elems w B s m f xs) (hk : ∀ p : Addr, p.block < B → w'.cell? p = w.cell? p) : Elems w' B s m f xs :=
  ⟨h.1, fun i x hi => by obtain ⟨g, off, e, hb, hc⟩ := h.2 i x hi; exact ⟨g, off, e, hb, fun j v hj => (hk _ hb).trans (hc j v hj)⟩⟩

theorem Elems.kept {α : Type} {S : Nat → Prop} {w w' : World} {B m : Nat} {s : Option Addr} {f : α → List Value} {xs : List α} (h : Elems w B s m f xs) (hk : Kept S w w') (hB : B ≤ w.heap.size) (hS : ∀ k, k < B → ¬ S k) : Elems w' B s m f xs :=
  h.keep fun p hp => hk.cell (by omega) (hS _ hp)

theorem elems_of {α : Type} {H : Type} {enc : TypeId × Value → H} {P : Program} {w : World} {t e : TypeId} {m : Nat} {f : α → List Value} {Q : α → Prop} {s : Option Addr} {len cap : Nat} {d : DataW H} {p : List MemPlace}
    (ht : P.underlying t = some (.slice e)) (hC : P.cellsOf e = m) (hm : 0 < m)
    (hopen : ∀ k cs y, cs.length = m → DataW.trod enc P w 0 (fun _ => true) true k e cs = some y → ∃ x, f x = cs ∧ Q x)
    (h : DataW.Trod enc P w 0 (fun _ => true) true t (.slice s len cap) d p) : ∃ xs, xs.length = len ∧ Elems w w.heap.size s m f xs ∧ ∀ x ∈ xs, Q x := by
  obtain ⟨fuel, hf⟩ := h
  rcases Go.Deep.open_slice ht hf with ⟨hcs, _⟩ | ⟨ad, l, c, mm, n, D, Pl, hcs, _, hl, hmx, hmm, _, hx⟩
  · simp [Value.cells] at hcs
    obtain ⟨rfl, rfl, rfl⟩ := hcs
    exact ⟨[], rfl, ⟨by simp, fun i x hi => by simp at hi⟩, by simp⟩
  · simp [Value.cells] at hcs
    obtain ⟨rfl, rfl, rfl⟩ := hcs
    simp only [ite_true] at hmm
    have hrow : ∀ i, i < len → ∃ x, Q x ∧ ∃ g off, ad = ⟨g, off, none⟩ ∧ g < w.heap.size ∧ ∀ j v, (f x)[j]? = some v → w.cell? ⟨g, off + i * m + j, none⟩ = some v := by
      intro i hi
      obtain ⟨cs', h1, h2⟩ := hx i (by omega)
      rw [hC] at h1
      obtain ⟨_, hlen, hcell⟩ := World.cells?_some h1
      obtain ⟨x, hfx, hq⟩ := hopen _ cs' _ hlen h2
      have hspot : ad.spot = none := by
        obtain ⟨cs0, h3, _⟩ := hx 0 (by omega)
        rw [hC] at h3
        obtain ⟨_, hl0, hc0⟩ := World.cells?_some h3
        have q := hc0 0 (by omega)
        rw [Go.Deep.add_add, List.getElem?_eq_getElem (by omega)] at q
        simpa [Addr.add] using World.cell?_spot q
      obtain ⟨g, off, spot⟩ := ad
      simp only at hspot
      subst hspot
      refine ⟨x, hq, g, off, rfl, ?_, fun j v hj => ?_⟩
      · have q := hcell 0 (by omega)
        rw [List.getElem?_eq_getElem (by omega), Go.Deep.add_add, Addr.add_lit] at q
        exact World.block_lt_of_cell? w _ q
      · rw [hfx] at hj
        have hjl : j < m := by have := (List.getElem?_eq_some_iff.1 hj).1; omega
        have q := hcell j hjl
        rw [Go.Deep.add_add, Addr.add_lit, hj, ← Nat.add_assoc] at q
        exact q
    obtain ⟨xs, hxl, hxs⟩ := list_of len hrow
    refine ⟨xs, hxl, ⟨by omega, fun i x hi => ?_⟩, fun x hxm => ?_⟩
    · obtain ⟨_, g, off, e1, h4, h5⟩ := hxs i x hi
      exact ⟨g, off, by rw [e1], h4, h5⟩
    · obtain ⟨i, hi⟩ := List.getElem?_of_mem hxm
      exact (hxs i x hi).1

theorem Elems.more {α : Type} {w : World} {B C m : Nat} {s : Option Addr} {f : α → List Value} {xs : List α} (h : Elems w B s m f xs) (hBC : B ≤ C) : Elems w C s m f xs :=
  ⟨h.1, fun i x hi => by obtain ⟨g, off, e, hb, hc⟩ := h.2 i x hi; exact ⟨g, off, e, by omega, hc⟩⟩
theorem Elems.nil {α : Type} {w : World} {B m : Nat} {s : Option Addr} {f : α → List Value} : Elems w B s m f [] := ⟨by simp, fun i x hi => by simp at hi⟩
theorem Elems.take {α : Type} {w : World} {B m : Nat} {s : Option Addr} {f : α → List Value} {xs : List α} (h : Elems w B s m f xs) (k : Nat) : Elems w B s m f (xs.take k) :=
  ⟨by have := h.1; rw [List.length_take]; omega, fun i x hi => h.2 i x (by rw [List.getElem?_take] at hi; split at hi; exact hi; cases hi)⟩

end Go.Proofs.YtibgkhfadlgonaaGreatDoor
