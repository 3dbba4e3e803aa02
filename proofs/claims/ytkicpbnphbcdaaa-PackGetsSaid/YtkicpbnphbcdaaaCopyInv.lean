/-
  The region that draws its order at the head of Copy: two appends onto new empty slices, and a variable that takes both.
  Conditions: none; these are lemmas for the walk.
-/
import Derived.Test.YtkicpbnphbcdaaaCheck
import Derived.Test.YtkicpbnphbcdaaaGrow
import Derived.Test.YtkicpbnphbcdaaaInv
namespace Go.Proofs.Ytkicpbnphbcdaaa
open Go.RowKit

/-- A slice made since W2, apart from the variable in v3. -/
def MadeOff {α : Type} (W : Nat) (w : World) (v3 : Value) (A : Option Addr) (c m : Nat) (f : α → List Value) (ys : List α) : Prop :=
  Made W w A c m f ys ∧ (ys ≠ [] → ∀ g b, A = some ⟨g, 0, none⟩ → v3 = .pointer (some ⟨b, 0, none⟩) → g ≠ b)
theorem MadeOff.kept {α : Type} {W c m : Nat} {w w' : World} {v3 : Value} {A : Option Addr} {f : α → List Value} {ys : List α} (h : MadeOff W w v3 A c m f ys) (hk : Kept (fun _ => False) w w') : MadeOff W w' v3 A c m f ys :=
  ⟨h.1.kept hk (fun _ _ _ _ _ f => f), h.2⟩
/-- The variable is made behind it. -/
theorem MadeOff.var {α : Type} {W c m : Nat} {w w' : World} {v3 : Value} {A : Option Addr} {f : α → List Value} {ys : List α} (h : MadeOff W w v3 A c m f ys) (hk : Kept (fun _ => False) w w') : MadeOff W w' (.pointer (some ⟨w.heap.size, 0, none⟩)) A c m f ys :=
  ⟨h.1.kept hk (fun _ _ _ _ _ f => f), fun hne g b e1 e2 => by
    obtain ⟨g', e3, _, h4⟩ := h.1.new hne
    rw [e1] at e3
    simp only [Option.some.injEq, Addr.mk.injEq, and_true] at e3
    simp only [Value.pointer.injEq, Option.some.injEq, Addr.mk.injEq, and_true] at e2
    omega⟩

/-- What the operations leave. -/
structure CopyFacts (W2 : World) (bx : Nat) (os : Option Addr) (oc : Nat) (obs : List Ob) (ks : Option Addr) (kc : Nat) (pis : List Pi) (w : World) (v3 v5 v6 v7 v8 v9 v10 v11 v12 v13 : Value) : Prop where
  kept : Kept (fun _ => False) W2 w
  e3 : v3 = undef ∨ ∃ b, v3 = .pointer (some ⟨b, 0, none⟩) ∧ W2.heap.size ≤ b ∧ w.heap[b]? = some (.cells #[.slice none 0 0, .slice none 0 0, .slice none 0 0] 26 (0, 0))
  e5 : v5 = undef ∨ ∃ g, v5 = .slice (some ⟨g, 0, none⟩) 0 0
  e6 : v6 = undef ∨ v6 = .pointer (some ⟨bx, 0, none⟩)
  e7 : v7 = undef ∨ v7 = .slice os obs.length oc
  e8 : v8 = undef ∨ ∃ A c, v8 = .slice A obs.length c ∧ MadeOff W2.heap.size w v3 A c 3 Ob.cells obs
  e9 : v9 = undef ∨ ∃ g, v9 = .slice (some ⟨g, 0, none⟩) 0 0
  e10 : v10 = undef ∨ v10 = .pointer (some ⟨bx, 2, none⟩)
  e11 : v11 = undef ∨ v11 = .slice ks pis.length kc
  e12 : v12 = undef ∨ ∃ A c, v12 = .slice A pis.length c ∧ MadeOff W2.heap.size w v3 A c 2 Pi.cells pis
  e13 : v13 = undef ∨ ∃ A c A' c', v13 = .agg #[.slice A obs.length c, .slice none 0 0, .slice A' pis.length c'] ∧ MadeOff W2.heap.size w v3 A c 3 Ob.cells obs ∧ MadeOff W2.heap.size w v3 A' c' 2 Pi.cells pis
/-- What has come up has yielded. -/
structure CopyLinks (l : Array Bool) (v3 v5 v6 v7 v8 v9 v10 v11 v12 v13 : Value) : Prop where
  l0 : l.getD 0 false = true → v5 ≠ undef
  l1 : l.getD 1 false = true → v6 ≠ undef
  l2 : l.getD 2 false = true → v7 ≠ undef
  l3 : l.getD 3 false = true → v8 ≠ undef
  l4 : l.getD 4 false = true → v9 ≠ undef
  l5 : l.getD 5 false = true → v10 ≠ undef
  l6 : l.getD 6 false = true → v11 ≠ undef
  l7 : l.getD 7 false = true → v12 ≠ undef
  l8 : l.getD 8 false = true → v13 ≠ undef
  l9 : l.getD 9 false = true → v3 ≠ undef

section
variable {W2 w w' : World} {bx : Nat} {os : Option Addr} {oc : Nat} {obs : List Ob} {ks : Option Addr} {kc : Nat} {pis : List Pi} {v3 v5 v6 v7 v8 v9 v10 v11 v12 v13 : Value}
theorem CopyFacts.on (F : CopyFacts W2 bx os oc obs ks kc pis w v3 v5 v6 v7 v8 v9 v10 v11 v12 v13) (hk : Kept (fun _ => False) w w') : CopyFacts W2 bx os oc obs ks kc pis w' v3 v5 v6 v7 v8 v9 v10 v11 v12 v13 where
  kept := F.kept.trans hk (fun _ _ f => f)
  e3 := F.e3.imp id fun ⟨b, e, h1, h2⟩ => ⟨b, e, h1, (hk.block b (Array.getElem?_eq_some_iff.1 h2).1 (fun f => f)).trans h2⟩
  e5 := F.e5
  e6 := F.e6
  e7 := F.e7
  e8 := F.e8.imp id fun ⟨A, c, e, h⟩ => ⟨A, c, e, h.kept hk⟩
  e9 := F.e9
  e10 := F.e10
  e11 := F.e11
  e12 := F.e12.imp id fun ⟨A, c, e, h⟩ => ⟨A, c, e, h.kept hk⟩
  e13 := F.e13.imp id fun ⟨A, c, A', c', e, h, h'⟩ => ⟨A, c, A', c', e, h.kept hk, h'.kept hk⟩
theorem CopyFacts.var (F : CopyFacts W2 bx os oc obs ks kc pis w v3 v5 v6 v7 v8 v9 v10 v11 v12 v13) : CopyFacts W2 bx os oc obs ks kc pis (w.alloc (.cells #[.slice none 0 0, .slice none 0 0, .slice none 0 0] 26)) (.pointer (some ⟨w.heap.size, 0, none⟩)) v5 v6 v7 v8 v9 v10 v11 v12 v13 :=
  have hk : Kept (fun _ => False) w (w.alloc (.cells #[.slice none 0 0, .slice none 0 0, .slice none 0 0] 26)) := (Kept.refl _ _).alloc _
  { kept := F.kept.trans hk (fun _ _ f => f)
    e3 := .inr ⟨_, rfl, F.kept.size, heap_alloc_new w _⟩
    e5 := F.e5
    e6 := F.e6
    e7 := F.e7
    e8 := F.e8.imp id fun ⟨A, c, e, h⟩ => ⟨A, c, e, h.var hk⟩
    e9 := F.e9
    e10 := F.e10
    e11 := F.e11
    e12 := F.e12.imp id fun ⟨A, c, e, h⟩ => ⟨A, c, e, h.var hk⟩
    e13 := F.e13.imp id fun ⟨A, c, A', c', e, h, h'⟩ => ⟨A, c, A', c', e, h.var hk, h'.var hk⟩ }
/-- A slice that is made now is apart from a variable that was there. -/
theorem CopyFacts.off {α : Type} {A : Option Addr} {c m : Nat} {f : α → List Value} {ys : List α} (F : CopyFacts W2 bx os oc obs ks kc pis w v3 v5 v6 v7 v8 v9 v10 v11 v12 v13) (hM : Made w.heap.size w' A c m f ys) : MadeOff W2.heap.size w' v3 A c m f ys :=
  ⟨hM.since F.kept.size, fun hne g b e1 e2 => by
    rcases F.e3 with h | ⟨b', h, _, h3⟩
    · rw [e2] at h; cases h
    · rw [e2] at h
      simp only [Value.pointer.injEq, Option.some.injEq, Addr.mk.injEq, and_true] at h
      obtain ⟨g', e4, h5, _⟩ := hM.new hne
      rw [e1] at e4
      simp only [Option.some.injEq, Addr.mk.injEq, and_true] at e4
      have := (Array.getElem?_eq_some_iff.1 h3).1
      omega⟩
end

/-- All of it; or it is done. -/
def CopyInv (W2 : World) (bx : Nat) (ag ret : Value) (os : Option Addr) (oc : Nat) (obs : List Ob) (ks : Option Addr) (kc : Nat) (pis : List Pi) (l : Array Bool) (a : Act) (w : World) : Prop :=
  ∃ v3 v5 v6 v7 v8 v9 v10 v11 v12 v13, a = ⟨#[ag, .pointer (some ⟨bx, 0, none⟩), ret, v3, undef, v5, v6, v7, v8, v9, v10, v11, v12, v13, undef, undef, undef, undef, undef, undef, undef, undef, undef, undef, undef, undef, undef, undef, undef, undef, undef, undef, undef, undef], []⟩ ∧
    ((l.getD 10 false = false ∧ CopyFacts W2 bx os oc obs ks kc pis w v3 v5 v6 v7 v8 v9 v10 v11 v12 v13 ∧ CopyLinks l v3 v5 v6 v7 v8 v9 v10 v11 v12 v13) ∨
     (l.getD 10 false = true ∧ (∀ j, j < 10 → l.getD j false = true) ∧ ∃ b A c A' c', v3 = .pointer (some ⟨b, 0, none⟩) ∧ W2.heap.size ≤ b ∧ Kept (fun _ => False) W2 w ∧
       w.heap[b]? = some (.cells #[.slice A obs.length c, .slice none 0 0, .slice A' pis.length c'] 26 (0, 0)) ∧ MadeOff W2.heap.size w v3 A c 3 Ob.cells obs ∧ MadeOff W2.heap.size w v3 A' c' 2 Pi.cells pis))

theorem set_block {w : World} {b o : Nat} {cur : Array Value} {t : TypeId} {v : Value} (h : w.heap[b]? = some (.cells cur t (0, 0))) : (w.setCell ⟨b, o, none⟩ v).heap[b]? = some (.cells (cur.setIfInBounds o v) t (0, 0)) := by
  simp only [World.setCell, Array.getElem?_modify]
  simp [h]
theorem set_at3 {w : World} {b : Nat} {x0 x1 x2 y0 y1 y2 : Value} {t : TypeId} (h : w.heap[b]? = some (.cells #[x0, x1, x2] t (0, 0))) :
    (((w.setCell ⟨b, 0, none⟩ y0).setCell ⟨b, 1, none⟩ y1).setCell ⟨b, 2, none⟩ y2).heap[b]? = some (.cells #[y0, y1, y2] t (0, 0)) := set_block (set_block (set_block h))
theorem kept_set3 {W w : World} {b : Nat} {y0 y1 y2 : Value} (hb : W.heap.size ≤ b) (h : Kept (fun _ => False) W w) : Kept (fun _ => False) W (((w.setCell ⟨b, 0, none⟩ y0).setCell ⟨b, 1, none⟩ y1).setCell ⟨b, 2, none⟩ y2) :=
  ((h.setCell ⟨b, 0, none⟩ _ (fun hl => by have hl' : b < W.heap.size := hl; omega)).setCell ⟨b, 1, none⟩ _ (fun hl => by have hl' : b < W.heap.size := hl; omega)).setCell ⟨b, 2, none⟩ _ (fun hl => by have hl' : b < W.heap.size := hl; omega)
theorem MadeOff.set3 {α : Type} {W c m : Nat} {w : World} {b : Nat} {A : Option Addr} {f : α → List Value} {ys : List α} {y0 y1 y2 : Value} (h : MadeOff W w (.pointer (some ⟨b, 0, none⟩)) A c m f ys) :
    MadeOff W (((w.setCell ⟨b, 0, none⟩ y0).setCell ⟨b, 1, none⟩ y1).setCell ⟨b, 2, none⟩ y2) (.pointer (some ⟨b, 0, none⟩)) A c m f ys :=
  have hk : Kept (fun k => k = b) w (((w.setCell ⟨b, 0, none⟩ y0).setCell ⟨b, 1, none⟩ y1).setCell ⟨b, 2, none⟩ y2) := (((Kept.refl (fun k => k = b) w).setCell ⟨b, 0, none⟩ _ (fun _ => rfl)).setCell ⟨b, 1, none⟩ _ (fun _ => rfl)).setCell ⟨b, 2, none⟩ _ (fun _ => rfl)
  ⟨h.1.kept hk (fun hne g _ _ e hg => h.2 hne g b e rfl hg), h.2⟩

theorem getD_false {l : Array Bool} {i : Nat} (h : l.getD i true = false) : l.getD i false = false := by
  rw [Array.getD_eq_getD_getElem?] at h ⊢
  cases hq : l[i]? with
  | none => rfl
  | some b => rw [hq] at h; simpa using h
theorem getD_same {l : Array Bool} {i : Nat} (h : i < l.size) (hl : l.getD i true = true) : l.getD i false = true := by
  rw [Array.getD_eq_getD_getElem?, Array.getElem?_eq_getElem h] at hl ⊢
  exact hl

end Go.Proofs.Ytkicpbnphbcdaaa
