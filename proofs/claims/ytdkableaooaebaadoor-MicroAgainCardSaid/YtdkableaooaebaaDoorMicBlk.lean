/-
  Where the code lies, and the blocks of the arena and the table.
  Conditions: none.
-/
import Derived.Test.YtdkableaooaebaaDoorMicOn
namespace Go.Proofs.YtdkableaooaebaaDoor
open Go.RowKit

/-- The code lies in blocks that are not of these. -/
def CodeIn (so : Option Addr) (code : List Ix) (T : Nat → Prop) (w : World) : Prop :=
  code.length ≤ maxLen ∧ ∀ i x, code[i]? = some x → ∃ g off, so = some ⟨g, off, none⟩ ∧ g < w.heap.size ∧ ¬ T g ∧ ∀ j v, x.cells[j]? = some v → w.cell? ⟨g, off + i * 5 + j, none⟩ = some v
theorem CodeIn.kept {so : Option Addr} {code : List Ix} {T S U : Nat → Prop} {w w' : World} (h : CodeIn so code T w) (hk : Kept S w w') (hS : ∀ g, g < w.heap.size → S g → T g) (hU : ∀ g, g < w.heap.size → U g → T g) : CodeIn so code U w' :=
  ⟨h.1, fun i x hi => by
    obtain ⟨g, off, e, hg, h0, hx⟩ := h.2 i x hi
    exact ⟨g, off, e, Nat.lt_of_lt_of_le hg hk.size, fun hu => h0 (hU g hg hu), fun j v hj => (hk.cell (p := ⟨g, off + i * 5 + j, none⟩) hg (fun hs => h0 (hS g hg hs))).trans (hx j v hj)⟩⟩

/-- The blocks of the arena and the table. -/
def Base (ab tb tg : Nat) (og : Option Nat) (g : Nat) : Prop := Foot ab og g ∨ g = tb ∨ g = tg

end Go.Proofs.YtdkableaooaebaaDoor
