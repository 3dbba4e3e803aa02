/-
  What Assemble leaves, an error or not, in one form: two rows, an error, and what Of says of it; stores of whole structs into a row of the call's own.
  Conditions: the rows are at most maxLen.
-/
import Derived.Test.YtlhnbihpefgcbaaGreatDoorAsmLaw
import Derived.Test.YtlhnbihpefgcbaaGreatDoorAsmTold
namespace Go.Proofs.YtlhnbihpefgcbaaGreatDoor
open Go.RowKit

def codeA : Except (Nat × Nat) (List Ln × Labs) → List Ln
  | .ok p => p.1
  | .error _ => []
def labsA : Except (Nat × Nat) (List Ln × Labs) → Labs
  | .ok p => p.2
  | .error _ => []
def numA : Except (Nat × Nat) (List Ln × Labs) → Int
  | .ok _ => 0
  | .error p => p.1
def atA : Except (Nat × Nat) (List Ln × Labs) → Int
  | .ok _ => -1
  | .error p => p.2

/-- What Assemble leaves, in one form. -/
structure Form (w w' : World) (v u er : Value) (c : List Ln) (l : Labs) (a p : Int) : Prop where
  kept : Kept (fun _ => False) w w'
  two : Two w.heap.size w' v u c l
  code : c.length ≤ 1024
  labs : l.length ≤ 200000
  of_ : ∀ w1, Kept (fun _ => False) w' w1 → HndAt w1 → Calls Tryz.prog 15 #[er] w1 fun e w2 => e = .returned (.tuple #[.int .i64 a, .int .i64 p]) ∧ Kept (fun _ => False) w1 w2

theorem asm_form {w w' : World} {LS : List Str} {e : Ending} (hl : LS.length ≤ 200000) (h : AsmPTo w (asmA LS) e w') :
    ∃ sv cv su cu er, e = .returned (.tuple #[.slice sv (codeA (asmA LS)).length cv, .slice su (labsA (asmA LS)).length cu, er]) ∧
      Form w w' (.slice sv (codeA (asmA LS)).length cv) (.slice su (labsA (asmA LS)).length cu) er (codeA (asmA LS)) (labsA (asmA LS)) (numA (asmA LS)) (atA (asmA LS)) := by
  cases hr : asmA LS with
  | error p =>
    obtain ⟨p1, p8⟩ := asm_codes hr
    rw [hr] at h
    obtain ⟨hk, g, _, hs, rfl⟩ := h
    exact ⟨none, 0, none, 0, spotV g, rfl, hk, Two.nil _ _, by show (0 : Nat) ≤ _; omega, by show (0 : Nat) ≤ _; omega, fun w1 hk1 hH => of_spot (hs.kept hk1 (fun f => f)) hH p1 p8⟩
  | ok q =>
    obtain ⟨c, l⟩ := q
    obtain ⟨h1, h2⟩ := asm_len hl hr
    rw [hr] at h
    obtain ⟨hk, v, u, rfl, hT⟩ := h
    obtain ⟨sv, cv, rfl, _⟩ := Made.of_own insC_five hT.code rfl (by unfold maxLen; show c.length ≤ _; omega)
    obtain ⟨su, cu, rfl, _⟩ := Made.of_own labC_two hT.labs rfl (by unfold maxLen; show l.length ≤ _; omega)
    exact ⟨sv, cv, su, cu, .nilIface, rfl, hk, hT, h1, h2, fun w1 _ _ => of_nil w1⟩

section
variable {w w' : World} {B g n cap : Nat} {e : TypeId} {size : Nat} {xs : List Value}
/-- A row of the call's own stays one, whatever is stored into a cell of it. -/
theorem own_store (h : w.ownsRow B e size (.slice (some ⟨g, 0, none⟩) n cap) n xs) (j : Nat) (u : Value) :
    ∃ xs', (w.setCell ⟨g, j, none⟩ u).ownsRow B e size (.slice (some ⟨g, 0, none⟩) n cap) n xs' ∧ Kept (fun k => k = g) w (w.setCell ⟨g, j, none⟩ u) :=
  ⟨_, (World.ownsRow.stored h j u).1, (Kept.refl _ w).setCell _ _ (fun _ => rfl)⟩
theorem own_there (h : w.ownsRow B e size (.slice (some ⟨g, 0, none⟩) n cap) n xs) (j : Nat) (hj : j < n * size) : ∃ u, w.cell? ⟨g, j, none⟩ = some u := by
  rw [World.ownsRow.cellAt h j hj]
  exact ⟨_, List.getElem?_eq_getElem (by rw [h.1]; exact hj)⟩
theorem own_len (h : w.ownsRow B e size (.slice (some ⟨g, 0, none⟩) n cap) n xs) : xs.length = n * size := h.1
end

/-- Rows that were made since the heap was of size B, apart from one another. -/
structure Rows2 (B : Nat) (w : World) (v u : Value) (n m : Nat) : Prop where
  code : ∃ xs, w.ownsRow B 43 5 v n xs
  labs : ∃ ys, w.ownsRow B 35 2 u m ys
  apart : ∀ g, v.ownBlock = some g → u.ownBlock ≠ some g
theorem Two.rows {B : Nat} {w : World} {v u : Value} {c : List Ln} {l : Labs} (h : Two B w v u c l) : Rows2 B w v u c.length l.length := ⟨⟨_, h.code⟩, ⟨_, h.labs⟩, h.apart⟩
theorem Rows2.kept {S : Nat → Prop} {B : Nat} {w w' : World} {v u : Value} {n m : Nat} (h : Rows2 B w v u n m) (hk : Kept S w w') (h1 : ∀ g, v.ownBlock = some g → ¬ S g) (h2 : ∀ g, u.ownBlock = some g → ¬ S g) : Rows2 B w' v u n m := by
  obtain ⟨⟨xs, h3⟩, ⟨ys, h4⟩, h5⟩ := h
  exact ⟨⟨xs, row_kept h3 hk h1⟩, ⟨ys, row_kept h4 hk h2⟩, h5⟩
theorem two_kept {S : Nat → Prop} {B : Nat} {w w' : World} {v u : Value} {c : List Ln} {l : Labs} (h : Two B w v u c l) (hk : Kept S w w') (hS : ∀ g, S g → g < B) : Two B w' v u c l :=
  ⟨row_kept h.code hk (fun g hg hs => by have := (h.code.lt g hg).1; have := hS g hs; omega), row_kept h.labs hk (fun g hg hs => by have := (h.labs.lt g hg).1; have := hS g hs; omega), h.apart⟩

section
variable {B g q n m : Nat} {w : World} {v u : Value}
theorem Rows2.store_code (h : Rows2 B w (.slice (some ⟨g, 0, none⟩) n q) u n m) (j : Nat) (x : Value) : Rows2 B (w.setCell ⟨g, j, none⟩ x) (.slice (some ⟨g, 0, none⟩) n q) u n m ∧ Kept (fun k => k = g) w (w.setCell ⟨g, j, none⟩ x) := by
  obtain ⟨⟨xs, h1⟩, ⟨ys, h2⟩, h3⟩ := h
  obtain ⟨xs', h4, hk⟩ := own_store h1 j x
  exact ⟨⟨⟨xs', h4⟩, ⟨ys, row_kept h2 hk (fun k hu e => h3 k (by rw [e]; rfl) hu)⟩, h3⟩, hk⟩
theorem Rows2.store_labs (h : Rows2 B w v (.slice (some ⟨g, 0, none⟩) m q) n m) (j : Nat) (x : Value) : Rows2 B (w.setCell ⟨g, j, none⟩ x) v (.slice (some ⟨g, 0, none⟩) m q) n m ∧ Kept (fun k => k = g) w (w.setCell ⟨g, j, none⟩ x) := by
  obtain ⟨⟨xs, h1⟩, ⟨ys, h2⟩, h3⟩ := h
  obtain ⟨ys', h4, hk⟩ := own_store h2 j x
  exact ⟨⟨⟨xs, row_kept h1 hk (fun k hu e => h3 k hu (by rw [e]; rfl))⟩, ⟨ys', h4⟩, h3⟩, hk⟩
theorem Rows2.zero_code {S : Nat → Prop} {w0 : World} (h : Rows2 B w (.slice (some ⟨g, 0, none⟩) n q) u n m) (hk : Kept S w0 w) (hg : S g) (a b c d e : Nat) (x : Value) :
    Rows2 B (((((w.setCell ⟨g, a, none⟩ x).setCell ⟨g, b, none⟩ x).setCell ⟨g, c, none⟩ x).setCell ⟨g, d, none⟩ x).setCell ⟨g, e, none⟩ x) (.slice (some ⟨g, 0, none⟩) n q) u n m ∧
      Kept S w0 (((((w.setCell ⟨g, a, none⟩ x).setCell ⟨g, b, none⟩ x).setCell ⟨g, c, none⟩ x).setCell ⟨g, d, none⟩ x).setCell ⟨g, e, none⟩ x) := by
  have s : ∀ w1 j, Rows2 B w1 (.slice (some ⟨g, 0, none⟩) n q) u n m ∧ Kept S w0 w1 → Rows2 B (w1.setCell ⟨g, j, none⟩ x) (.slice (some ⟨g, 0, none⟩) n q) u n m ∧ Kept S w0 (w1.setCell ⟨g, j, none⟩ x) := fun w1 j ⟨h1, h2⟩ =>
    ⟨(h1.store_code j x).1, h2.setCell _ _ (fun _ => hg)⟩
  exact s _ e (s _ d (s _ c (s _ b (s _ a ⟨h, hk⟩))))
theorem Rows2.zero_labs {S : Nat → Prop} {w0 : World} (h : Rows2 B w v (.slice (some ⟨g, 0, none⟩) m q) n m) (hk : Kept S w0 w) (hg : S g) (a b : Nat) (x y : Value) :
    Rows2 B ((w.setCell ⟨g, a, none⟩ x).setCell ⟨g, b, none⟩ y) v (.slice (some ⟨g, 0, none⟩) m q) n m ∧ Kept S w0 ((w.setCell ⟨g, a, none⟩ x).setCell ⟨g, b, none⟩ y) :=
  ⟨((h.store_labs a x).1.store_labs b y).1, (hk.setCell _ _ (fun _ => hg)).setCell _ _ (fun _ => hg)⟩
end

end Go.Proofs.YtlhnbihpefgcbaaGreatDoor
