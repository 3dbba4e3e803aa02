/-
  The region that draws its order where one of the threads is appended once more.
  Conditions: none; these are lemmas for the walk.
-/
import Derived.Test.YtgdagmiiobbeeaaScrCap
import Derived.Test.YtgdagmiiobbeeaaCopyInv
namespace Go.Proofs.Ytgdagmiiobbeeaa
open Go.RowKit

/-- What the operations that have come up leave. -/
structure AgainFacts (W3 : World) (base bx b k g off pc n : Nat) (s3 : Option Addr) (c3 : Nat) (qs : List Pr) (p : Pr) (l : Array Bool) (w : World) (v71 v72 v73 v74 v75 v76 v77 v78 v79 v80 : Value) : Prop where
  kept : Kept (fun q => (Value.slice s3 n c3).ownBlock = some q) W3 w
  calm : l.getD 8 false = false → Kept (fun _ => False) W3 w
  e71 : l.getD 0 false = true → v71 = .pointer (some ⟨b, 1, none⟩)
  e72 : l.getD 1 false = true → v72 = .slice s3 n c3
  e73 : l.getD 2 false = true → v73 = .pointer (some ⟨bx, 1, none⟩)
  e74 : l.getD 3 false = true → v74 = .slice (some ⟨g, off, none⟩) n pc
  e75 : l.getD 4 false = true → v75 = .int .i64 (k : Int)
  e76 : l.getD 5 false = true → v76 = .pointer (some ⟨g, off + k, none⟩)
  e77 : l.getD 6 false = true → v77 = .slice p.s p.ops.length p.cap
  e78 : l.getD 7 false = true → ∃ B, v78 = .slice (some ⟨B, 0, none⟩) 1 1 ∧ W3.heap.size ≤ B ∧ w.heap[B]? = some (.cells #[.slice p.s p.ops.length p.cap] 38 (0, 0))
  e79 : l.getD 8 false = true → ∃ s c, v79 = .slice s (n + 1) c ∧ w.ownsRow base 38 1 (.slice s (n + 1) c) (n + 1) (flat Pr.cells (qs ++ [p])) ∧ ((Value.slice s (n + 1) c).ownBlock = (Value.slice s3 n c3).ownBlock ∨ ∃ g', (Value.slice s (n + 1) c).ownBlock = some g' ∧ W3.heap.size ≤ g')
  e80 : l.getD 9 false = true → v80 = .pointer (some ⟨b, 1, none⟩)

section
variable {l : Array Bool} {w w' : World} {v71 v72 v73 v74 v75 v76 v77 v78 v79 v80 : Value}
theorem AgainFacts.on {W3 : World} {base bx b k g off pc n : Nat} {s3 : Option Addr} {c3 : Nat} {qs : List Pr} {p : Pr} (F : AgainFacts W3 base bx b k g off pc n s3 c3 qs p l w v71 v72 v73 v74 v75 v76 v77 v78 v79 v80) (hk : Kept (fun _ => False) w w') : AgainFacts W3 base bx b k g off pc n s3 c3 qs p l w' v71 v72 v73 v74 v75 v76 v77 v78 v79 v80 where
  kept := F.kept.trans hk (fun _ _ f => f.elim)
  calm := fun h => (F.calm h).trans hk (fun _ _ f => f)
  e71 := F.e71
  e72 := F.e72
  e73 := F.e73
  e74 := F.e74
  e75 := F.e75
  e76 := F.e76
  e77 := F.e77
  e78 := fun h => by obtain ⟨B, e, hB, h1⟩ := F.e78 h; exact ⟨B, e, hB, (hk.block B (Array.getElem?_eq_some_iff.1 h1).1 (fun f => f)).trans h1⟩
  e79 := fun h => by obtain ⟨s, c, e, h1, h2⟩ := F.e79 h; exact ⟨s, c, e, own_kept h1 hk (fun _ _ f => f), h2⟩
  e80 := F.e80
end

/-- All of it; or it is done. -/
def AgainInv (W3 : World) (base bx b k g off pc n : Nat) (s3 : Option Addr) (c3 : Nat) (qs : List Pr) (p : Pr) (fr : Value → Value → Value → Value → Value → Value → Value → Value → Value → Value → Act) (l : Array Bool) (a : Act) (w : World) : Prop :=
  ∃ v71 v72 v73 v74 v75 v76 v77 v78 v79 v80, a = fr v71 v72 v73 v74 v75 v76 v77 v78 v79 v80 ∧
    ((l.getD 10 false = false ∧ AgainFacts W3 base bx b k g off pc n s3 c3 qs p l w v71 v72 v73 v74 v75 v76 v77 v78 v79 v80) ∨
     (l.getD 10 false = true ∧ (∀ j, j < 10 → l.getD j false = true) ∧ ∃ l0 w0, (∀ j, j < 10 → l0.getD j false = true) ∧ AgainFacts W3 base bx b k g off pc n s3 c3 qs p l0 w0 v71 v72 v73 v74 v75 v76 v77 v78 v79 v80 ∧ w = w0.setCell ⟨b, 1, none⟩ v79))

end Go.Proofs.Ytgdagmiiobbeeaa
