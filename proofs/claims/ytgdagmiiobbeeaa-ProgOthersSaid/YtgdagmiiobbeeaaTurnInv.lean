/-
  The region that draws its order where the threads are laid in another order: two appends, and a store.
  Conditions: none; these are lemmas for the walk.
-/
import Derived.Test.YtgdagmiiobbeeaaScrCap
import Derived.Test.YtgdagmiiobbeeaaCopyInv
namespace Go.Proofs.Ytgdagmiiobbeeaa
open Go.RowKit

/-- What the operations that have come up leave. -/
structure TurnFacts (W3 : World) (bx b k g off pc : Nat) (prs : List Pr) (l : Array Bool) (w : World) (v57 v58 v59 v60 v61 v62 v63 v64 v65 v66 v67 v68 : Value) : Prop where
  kept : Kept (fun _ => False) W3 w
  e57 : l.getD 0 false = true → ∃ g', v57 = .slice (some ⟨g', 0, none⟩) 0 0 ∧ (l.getD 5 false = false → w.ownsRow W3.heap.size 38 1 (.slice (some ⟨g', 0, none⟩) 0 0) 0 [])
  e58 : l.getD 1 false = true → v58 = .pointer (some ⟨bx, 1, none⟩)
  e59 : l.getD 2 false = true → v59 = .slice (some ⟨g, off, none⟩) prs.length pc
  e60 : l.getD 3 false = true → v60 = .int .i64 (k : Int)
  e61 : l.getD 4 false = true → v61 = .slice (some ⟨g, off + k, none⟩) (prs.length - k) (pc - k)
  e62 : l.getD 5 false = true → ∃ s c, v62 = .slice s (prs.length - k) c ∧ (l.getD 10 false = false → w.ownsRow W3.heap.size 38 1 (.slice s (prs.length - k) c) (prs.length - k) (flat Pr.cells (prs.drop k)))
  e63 : l.getD 6 false = true → v63 = .pointer (some ⟨bx, 1, none⟩)
  e64 : l.getD 7 false = true → v64 = .slice (some ⟨g, off, none⟩) prs.length pc
  e65 : l.getD 8 false = true → v65 = .int .i64 (k : Int)
  e66 : l.getD 9 false = true → v66 = .slice (some ⟨g, off, none⟩) k pc
  e67 : l.getD 10 false = true → l.getD 5 false = true ∧ ∃ s c, v67 = .slice s (prs.length - k + k) c ∧ w.ownsRow W3.heap.size 38 1 (.slice s (prs.length - k + k) c) (prs.length - k + k) (flat Pr.cells (prs.drop k ++ prs.take k))
  e68 : l.getD 11 false = true → v68 = .pointer (some ⟨b, 1, none⟩)

section
variable {l : Array Bool} {w w' : World} {v57 v58 v59 v60 v61 v62 v63 v64 v65 v66 v67 v68 : Value}
theorem TurnFacts.on {W3 : World} {bx b k g off pc : Nat} {prs : List Pr} (F : TurnFacts W3 bx b k g off pc prs l w v57 v58 v59 v60 v61 v62 v63 v64 v65 v66 v67 v68) (hk : Kept (fun _ => False) w w') : TurnFacts W3 bx b k g off pc prs l w' v57 v58 v59 v60 v61 v62 v63 v64 v65 v66 v67 v68 where
  kept := F.kept.trans hk (fun _ _ f => f.elim)
  e57 := fun h => by obtain ⟨g', e, h1⟩ := F.e57 h; exact ⟨g', e, fun h5 => own_kept (h1 h5) hk (fun _ _ f => f)⟩
  e58 := F.e58
  e59 := F.e59
  e60 := F.e60
  e61 := F.e61
  e62 := fun h => by obtain ⟨s, c, e, h1⟩ := F.e62 h; exact ⟨s, c, e, fun h5 => own_kept (h1 h5) hk (fun _ _ f => f)⟩
  e63 := F.e63
  e64 := F.e64
  e65 := F.e65
  e66 := F.e66
  e67 := fun h => by obtain ⟨h5, s, c, e, h1⟩ := F.e67 h; exact ⟨h5, s, c, e, own_kept h1 hk (fun _ _ f => f)⟩
  e68 := F.e68
end

/-- All of it; or it is done. -/
def TurnInv (W3 : World) (bx b k g off pc : Nat) (prs : List Pr) (fr : Value → Value → Value → Value → Value → Value → Value → Value → Value → Value → Value → Value → Act) (l : Array Bool) (a : Act) (w : World) : Prop :=
  ∃ v57 v58 v59 v60 v61 v62 v63 v64 v65 v66 v67 v68, a = fr v57 v58 v59 v60 v61 v62 v63 v64 v65 v66 v67 v68 ∧
    ((l.getD 12 false = false ∧ TurnFacts W3 bx b k g off pc prs l w v57 v58 v59 v60 v61 v62 v63 v64 v65 v66 v67 v68) ∨
     (l.getD 12 false = true ∧ (∀ j, j < 12 → l.getD j false = true) ∧ ∃ l0 w0, (∀ j, j < 12 → l0.getD j false = true) ∧ TurnFacts W3 bx b k g off pc prs l0 w0 v57 v58 v59 v60 v61 v62 v63 v64 v65 v66 v67 v68 ∧ w = w0.setCell ⟨b, 1, none⟩ v67))

end Go.Proofs.Ytgdagmiiobbeeaa
