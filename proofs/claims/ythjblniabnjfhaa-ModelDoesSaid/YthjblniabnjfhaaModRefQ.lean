/-
  The document's answer of layer 10: waiters apart from the boxes; without in new memory.
  Conditions: no count is beyond two millions; the waiters lie in memory.
-/
import Derived.Test.YthjblniabnjfhaaModRefK
namespace Go.Proofs.Ythjblniabnjfhaa
open Go.RowKit
set_option linter.unusedSimpArgs false
set_option linter.unusedVariables false

/-- Waiters that stay where they are whatever becomes of the blocks b and b + 1. -/
def Off (b : Nat) (w : World) (s : Option Addr) (ws : List Wt) : Prop := ∀ W, Kept (fun k => k = b ∨ k = b + 1) w W → Elems W W.heap.size s 2 Wt.cells ws
theorem Off.of {b : Nat} {w : World} {s : Option Addr} {ws : List Wt} (h : ElB b w s ws) : Off b w s ws := fun W hk => (h.keptS hk (fun q hq e => by omega)).2.more (h.keptS hk (fun q hq e => by omega)).1
theorem Off.new {b B : Nat} {w : World} {s : Option Addr} {c : Nat} {ws : List Wt} (h : NewW B w s c ws) (hB : b + 2 ≤ B) : Off b w s ws := fun W hk => (h.kept hk (fun g hg e => by omega)).el
theorem Off.kept {b : Nat} {w W : World} {s : Option Addr} {ws : List Wt} (h : Off b w s ws) (hk : Kept (fun k => k = b ∨ k = b + 1) w W) : Off b W s ws := fun W2 h2 => h W2 (hk.trans h2 (fun _ _ e => e))
theorem Off.kept0 {b : Nat} {w W : World} {s : Option Addr} {ws : List Wt} (h : Off b w s ws) (hk : Kept (fun _ => False) w W) : Off b W s ws := h.kept (hk.mono (fun _ _ f => f.elim))
theorem Off.el {b : Nat} {w : World} {s : Option Addr} {ws : List Wt} (h : Off b w s ws) : Elems w w.heap.size s 2 Wt.cells ws := h w (Kept.refl _ w)
theorem fin_off {w w4 Wa W5 : World} {y : Th} {s s0 : Option Addr} {ws0 : List Wt} {c : Nat} {r : Bool} (hk : Kept (fun k => k = w.heap.size ∨ k = w.heap.size + 1) w w4) (hO : (s = s0 ∧ y.ws = ws0) ∨ NewW (w.heap.size + 2) w4 s c y.ws) (hA : Kept (fun k => k = w.heap.size) w4 Wa) (h5 : Kept (fun k => k = w.heap.size + 1) Wa W5) : SaidB w s0 ws0 y r (.returned (.tuple #[y.agg s c, .bool r])) W5 := by
  have h1 : Kept (fun k => k = w.heap.size ∨ k = w.heap.size + 1) w4 W5 := (hA.mono (fun _ _ e => .inl e)).trans (h5.mono (fun _ _ e => .inr e)) (fun _ _ e => e)
  have h3 : Kept (fun k => k = w.heap.size ∨ k = w.heap.size + 1) w W5 := hk.trans h1 (fun _ _ e => e)
  exact ⟨s, c, rfl, hO.imp id (fun h => (h.kept h1 (fun g hg e => by omega)).since (by omega)), h3.os, h3.tape, h3.output, h3.size, fun k hk2 _ => h3.block k hk2 (by omega)⟩
theorem place_neg {t : Int} {ws : List Wt} {b : Bool} (h : waitsM ws t = b) : decide (atI (firstAt t ws) < 0) = !b := by
  rw [waits_first] at h
  subst h
  cases firstAt t ws with
  | none => rfl
  | some k => exact decide_eq_false (by simp only [atI]; omega)

/-- What the document's without comes to, in new memory. -/
theorem without_new (ws ws' : List Wt) (n : Nat) (hn : ws.length = n) (hl : n ≤ 300) (p : Nat) (hw : ws.eraseIdx p = ws') (s : Option Addr) (c : Nat) (w : World) (hE : Elems w w.heap.size s 2 Wt.cells ws) :
    Calls Try.prog 38 #[.slice s n c, .int .i64 (p : Int)] w fun e w' => ∃ s' c', e = .returned (.slice s' ws'.length c') ∧ NewW w.heap.size w' s' c' ws' ∧ Kept (fun _ => False) w w' := by
  subst hw
  exact without_any ws n hn hl p s c w hE

end Go.Proofs.Ythjblniabnjfhaa
