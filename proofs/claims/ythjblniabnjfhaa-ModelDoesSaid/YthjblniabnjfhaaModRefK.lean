/-
  The document's answer of layer 10: what a call of its tells.
  Conditions: no count is beyond two millions; the waiters lie in memory.
-/
import Derived.Test.YthjblniabnjfhaaModRefW
namespace Go.Proofs.Ythjblniabnjfhaa
open Go.RowKit
set_option linter.unusedSimpArgs false
set_option linter.unusedVariables false

/-- What a call of the document's tells: a thing, and whether; its waiters are those that came in, or lie in new memory. -/
def SaidB (w : World) (s0 : Option Addr) (ws0 : List Wt) (y : Th) (r : Bool) (e : Ending) (w' : World) : Prop := ∃ s' c', e = .returned (.tuple #[y.agg s' c', .bool r]) ∧ ((s' = s0 ∧ y.ws = ws0) ∨ NewW w.heap.size w' s' c' y.ws) ∧ Kept (fun _ => False) w w'
theorem fin_said {x y : Th} {s : Option Addr} {c : Nat} {w WB Wa W5 : World} {r : Bool} (hk : Kept (fun _ => False) w WB) (hA : Kept (fun k => k = w.heap.size) WB Wa) (h5 : Kept (fun k => k = w.heap.size + 1) Wa W5) (hws : y.ws = x.ws) : SaidB w s x.ws y r (.returned (.tuple #[y.agg s c, .bool r])) W5 := by
  have h3 : Kept (fun k => w.heap.size ≤ k) w W5 := ((hk.mono (T := fun k => w.heap.size ≤ k) (fun _ _ f => f.elim)).trans (hA.mono (T := fun k => w.heap.size ≤ k) (fun _ _ e => by omega)) (fun _ _ e => e)).trans h5 (fun _ _ e => by omega)
  exact ⟨s, c, rfl, .inl ⟨rfl, hws⟩, h3.os, h3.tape, h3.output, h3.size, fun k hk2 _ => h3.block k hk2 (by omega)⟩

theorem beq_swap (a b : Int) : (a == b) = (b == a) := by
  by_cases h : a = b
  · subst h; rfl
  · rw [beq_eq_false_iff_ne.2 h, beq_eq_false_iff_ne.2 (Ne.symm h)]
theorem free_ws (x : Th) : (freeM x).ws = x.ws := by unfold freeM; split <;> rfl

end Go.Proofs.Ythjblniabnjfhaa
