/-
  The document's answer of layer 10: the boxes of Do.
  Conditions: no count is beyond two millions; the waiters lie in memory.
-/
import Derived.Test.YthjblniabnjfhaaModRefK
import Derived.Deep.RegionHeld3
import Derived.Deep.Cut
import Derived.Deep.CutRange
import Derived.Deep.DeepCutAuto
import Derived.LoopTactic
namespace Go.Proofs.Ythjblniabnjfhaa
open Go.RowKit
set_option linter.unusedSimpArgs false
set_option linter.unusedVariables false

/-- The boxes that Do lays: the thing, the mark, and what is told. -/
theorem rdo_box (x : Th) (s : Option Addr) (c : Nat) (k v : Int) (w : World) (hE : InW w x s) : ∃ W1 W2 W3, w.alloc (.cells (x.box s c) 27) = W1 ∧ W1.alloc (.cells #[.int .i64 k, .int .i64 v] 29) = W2 ∧ W2.alloc (.cells #[.int .i64 0, .int .i64 0, .int .i64 0, .int .i64 0, .int .i64 0, .int .i64 0, .int .i64 0, .int .i64 0, .int .i64 0, .int .i64 0, .int .i64 0, .int .i64 0, .slice none 0 0, .int .i64 0, .int .i64 0] 27) = W3 ∧
    W1.heap.size = w.heap.size + 1 ∧ W2.heap.size = w.heap.size + 1 + 1 ∧ W3.heap.size = w.heap.size + 3 ∧ BoxT W3 w.heap.size x s c ∧ BoxN W3 (w.heap.size + 1) k v ∧ BoxT W3 (w.heap.size + 1 + 1) zeroTh none 0 ∧ Kept (fun _ => False) w W3 ∧ InW W3 x s := by
  have k1 : Kept (fun _ => False) w (w.alloc (.cells (x.box s c) 27)) := (Kept.refl _ w).alloc _
  obtain ⟨W1, hW1⟩ : ∃ W1, w.alloc (.cells (x.box s c) 27) = W1 := ⟨_, rfl⟩
  have s1 : W1.heap.size = w.heap.size + 1 := by rw [← hW1]; simp
  have b1 := BoxT.new w x s c
  rw [hW1] at k1 b1
  have k2 : Kept (fun _ => False) W1 (W1.alloc (.cells #[.int .i64 k, .int .i64 v] 29)) := (Kept.refl _ W1).alloc _
  obtain ⟨W2, hW2⟩ : ∃ W2, W1.alloc (.cells #[.int .i64 k, .int .i64 v] 29) = W2 := ⟨_, rfl⟩
  have s2 : W2.heap.size = w.heap.size + 1 + 1 := by rw [← hW2]; simp [s1]
  have b2 := BoxN.new W1 k v
  rw [hW2, s1] at b2
  rw [hW2] at k2
  have b3 := BoxT.fresh W2
  have k3 : Kept (fun _ => False) W2 (W2.alloc (.cells #[.int .i64 0, .int .i64 0, .int .i64 0, .int .i64 0, .int .i64 0, .int .i64 0, .int .i64 0, .int .i64 0, .int .i64 0, .int .i64 0, .int .i64 0, .int .i64 0, .slice none 0 0, .int .i64 0, .int .i64 0] 27)) := (Kept.refl _ _).alloc _
  rw [s2] at b3
  exact ⟨W1, W2, _, hW1, hW2, rfl, s1, s2, by simp [s2], (b1.kept0 k2).kept0 k3, b2.kept0 k3, b3, (k1.tr0 k2).tr0 k3, ((hE.kept0 k1).kept0 k2).kept0 k3⟩
theorem fin_do {w w4 W5 : World} {y : Th} {s s0 : Option Addr} {ws0 : List Wt} {c : Nat} {r : Bool} (hk : Kept (fun k => w.heap.size ≤ k) w w4) (hO : (s = s0 ∧ y.ws = ws0) ∨ NewW (w.heap.size + 3) w4 s c y.ws) (h5 : Kept (fun k => k = w.heap.size + 1 + 1) w4 W5) : SaidB w s0 ws0 y r (.returned (.tuple #[y.agg s c, .bool r])) W5 := by
  have h3 : Kept (fun k => w.heap.size ≤ k) w W5 := hk.trans h5 (fun _ _ e => by omega)
  exact ⟨s, c, rfl, hO.imp id (fun h => (h.kept h5 (fun g hg e => by omega)).since (by omega)), h3.os, h3.tape, h3.output, h3.size, fun k hk2 _ => h3.block k hk2 (by omega)⟩

end Go.Proofs.Ythjblniabnjfhaa
