/-
  The region that draws its order in Copy's loop: a thread's calls are appended onto a new empty slice, and that onto the programs.
  Conditions: none; these are lemmas for the walk.
-/
import Derived.Test.YtkicpbnphbcdaaaOwned
import Derived.Test.YtkicpbnphbcdaaaCopyInv
namespace Go.Proofs.Ytkicpbnphbcdaaa
open Go.RowKit

/-- What the operations that have come up leave. wr: the world ahead of them; y: the script so far; g, off: where the row of the given script's programs lies. -/
structure LoopFacts (W2 wr : World) (bx b k g off pc n : Nat) (p : Pr) (y : Sc) (l : Array Bool) (w : World) (v21 v22 v23 v24 v25 v26 v27 v28 v29 v30 v31 v32 : Value) : Prop where
  kept : Kept (fun g => y.row = some g) wr w
  calm : l.getD 10 false = false → Kept (fun _ => False) wr w
  e21 : l.getD 0 false = true → v21 = .pointer (some ⟨b, 1, none⟩)
  e22 : l.getD 1 false = true → v22 = .slice y.ps y.prs.length y.pc
  e23 : l.getD 2 false = true → ∃ g, v23 = .slice (some ⟨g, 0, none⟩) 0 0
  e24 : l.getD 3 false = true → v24 = .pointer (some ⟨bx, 1, none⟩)
  e25 : l.getD 4 false = true → v25 = .slice (some ⟨g, off, none⟩) n pc
  e26 : l.getD 5 false = true → v26 = .int .i64 (k : Int)
  e27 : l.getD 6 false = true → v27 = .pointer (some ⟨g, off + k, none⟩)
  e28 : l.getD 7 false = true → v28 = .slice p.s p.ops.length p.cap
  e29 : l.getD 8 false = true → ∃ A c, v29 = .slice A p.ops.length c ∧ Made wr.heap.size w A c 5 Cl.cells p.ops
  e30 : l.getD 9 false = true → ∃ B A c, v30 = .slice (some ⟨B, 0, none⟩) 1 1 ∧ w.heap[B]? = some (.cells #[.slice A p.ops.length c] 49 (0, 0)) ∧ wr.heap.size ≤ B ∧ Made wr.heap.size w A c 5 Cl.cells p.ops
  e31 : l.getD 10 false = true → ∃ A c s' c', v31 = .slice s' (y.prs.length + 1) c' ∧ w.ownsRow W2.heap.size 49 1 (.slice s' (y.prs.length + 1) c') (y.prs.length + 1) (flat Pr.cells (y.prs ++ [⟨A, c, p.ops⟩])) ∧ Made wr.heap.size w A c 5 Cl.cells p.ops ∧ (p.ops ≠ [] → ∀ g, A = some ⟨g, 0, none⟩ → (Value.slice s' (y.prs.length + 1) c').ownBlock ≠ some g) ∧ ((Value.slice s' (y.prs.length + 1) c').ownBlock = y.row ∨ ∃ g', (Value.slice s' (y.prs.length + 1) c').ownBlock = some g' ∧ wr.heap.size ≤ g')
  e32 : l.getD 11 false = true → v32 = .pointer (some ⟨b, 1, none⟩)

section
variable {W2 wr w w' : World} {bx b k g off pc n : Nat} {p : Pr} {y : Sc} {l : Array Bool} {v21 v22 v23 v24 v25 v26 v27 v28 v29 v30 v31 v32 : Value}
theorem LoopFacts.on (F : LoopFacts W2 wr bx b k g off pc n p y l w v21 v22 v23 v24 v25 v26 v27 v28 v29 v30 v31 v32) (hk : Kept (fun _ => False) w w') : LoopFacts W2 wr bx b k g off pc n p y l w' v21 v22 v23 v24 v25 v26 v27 v28 v29 v30 v31 v32 where
  kept := F.kept.trans hk (fun _ _ f => f.elim)
  calm := fun h => (F.calm h).trans hk (fun _ _ f => f)
  e21 := F.e21
  e22 := F.e22
  e23 := F.e23
  e24 := F.e24
  e25 := F.e25
  e26 := F.e26
  e27 := F.e27
  e28 := F.e28
  e29 := fun h0 => by obtain ⟨A, c, e, h⟩ := F.e29 h0; exact ⟨A, c, e, h.kept hk (fun _ _ _ _ _ f => f)⟩
  e30 := fun h0 => by obtain ⟨B, A, c, e, h, hB, h'⟩ := F.e30 h0; exact ⟨B, A, c, e, (hk.block B (Array.getElem?_eq_some_iff.1 h).1 (fun f => f)).trans h, hB, h'.kept hk (fun _ _ _ _ _ f => f)⟩
  e31 := fun h0 => by obtain ⟨A, c, s', c', e, h1, h2, h3⟩ := F.e31 h0; exact ⟨A, c, s', c', e, own_kept h1 hk (fun _ _ f => f), h2.kept hk (fun _ _ _ _ _ f => f), h3⟩
  e32 := F.e32
end

/-- All of it; or it is done. -/
def LoopInv (W2 wr : World) (bx b k g off pc n : Nat) (p : Pr) (y : Sc) (ag ret u5 u6 u7 u8 u9 u10 u11 u12 u13 : Value) (l : Array Bool) (a : Act) (w : World) : Prop :=
  ∃ u14 u15 u16 u17 u18 u19 u20 v21 v22 v23 v24 v25 v26 v27 v28 v29 v30 v31 v32, a = ⟨#[ag, .pointer (some ⟨bx, 0, none⟩), ret, .pointer (some ⟨b, 0, none⟩), .int .i64 (k : Int), u5, u6, u7, u8, u9, u10, u11, u12, u13, u14, u15, u16, u17, u18, u19, u20, v21, v22, v23, v24, v25, v26, v27, v28, v29, v30, v31, v32, undef], []⟩ ∧
    ((l.getD 12 false = false ∧ LoopFacts W2 wr bx b k g off pc n p y l w v21 v22 v23 v24 v25 v26 v27 v28 v29 v30 v31 v32) ∨
     (l.getD 12 false = true ∧ (∀ j, j < 12 → l.getD j false = true) ∧ ∃ l0 w0, l0.getD 10 false = true ∧ LoopFacts W2 wr bx b k g off pc n p y l0 w0 v21 v22 v23 v24 v25 v26 v27 v28 v29 v30 v31 v32 ∧ w = w0.setCell ⟨b, 1, none⟩ v31))

end Go.Proofs.Ytkicpbnphbcdaaa
