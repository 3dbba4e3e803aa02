/-
  Things in memory: a thing's block, a mark's block, one that came in.
  Conditions: none; these are lemmas for the walks.
-/
import Derived.Test.YtbodlaiakcoabaaGreatDoorModM
import Derived.Test.YtbodlaiakcoabaaGreatDoorRowOwn
import Derived.Test.YtbodlaiakcoabaaGreatDoorGrow
namespace Go.Proofs.YtbodlaiakcoabaaGreatDoor
open Go.RowKit

theorem heap_new1 (w : World) (o : Obj) : (w.alloc o).heap[w.heap.size]? = some o := by unfold World.alloc; simp only [Array.getElem?_push_size]
theorem Kept.at_ {S : Nat → Prop} {a b : World} (h : Kept S a b) {k : Nat} {o : Obj} (ho : a.heap[k]? = some o) (hk : ¬ S k) : b.heap[k]? = some o :=
  (h.block _ (Array.getElem?_eq_some_iff.1 ho).1 hk).trans ho
theorem Kept.at0 {w w' : World} {b : Nat} {o : Obj} (hk : Kept (fun _ => False) w w') (h : w.heap[b]? = some o) : w'.heap[b]? = some o := hk.at_ h (fun f => f)
theorem Kept.tr0 {a b c : World} (h : Kept (fun _ => False) a b) (k : Kept (fun _ => False) b c) : Kept (fun _ => False) a c := h.trans k (fun _ _ f => f)

/-- A thing's fifteen cells. -/
@[reducible] def Th.box (x : Th) (s : Option Addr) (c : Nat) : Array Value := #[.int .i64 x.kind, .int .i64 x.n, .int .i64 x.owner, .int .i64 x.holds, .int .i64 (x.r 0), .int .i64 (x.r 1), .int .i64 (x.r 2), .int .i64 (x.r 3), .int .i64 (x.r 4), .int .i64 (x.r 5), .int .i64 (x.r 6), .int .i64 (x.r 7), .slice s x.ws.length c, .int .i64 x.offer, .int .i64 x.item]
/-- Block b holds the thing x. -/
def BoxT (w : World) (b : Nat) (x : Th) (s : Option Addr) (c : Nat) : Prop := w.heap[b]? = some (.cells (x.box s c) 42 (0, 0))
/-- Block b holds a mark. -/
def BoxN (w : World) (b : Nat) (k v : Int) : Prop := w.heap[b]? = some (.cells #[.int .i64 k, .int .i64 v] 36 (0, 0))
theorem BoxT.kept {S : Nat → Prop} {w w' : World} {b : Nat} {x : Th} {s : Option Addr} {c : Nat} (h : BoxT w b x s c) (hk : Kept S w w') (hS : ¬ S b) : BoxT w' b x s c := hk.at_ h hS
theorem BoxT.kept0 {w w' : World} {b : Nat} {x : Th} {s : Option Addr} {c : Nat} (h : BoxT w b x s c) (hk : Kept (fun _ => False) w w') : BoxT w' b x s c := hk.at0 h
theorem BoxN.kept0 {w w' : World} {b : Nat} {k v : Int} (h : BoxN w b k v) (hk : Kept (fun _ => False) w w') : BoxN w' b k v := hk.at0 h
theorem BoxT.new (w : World) (x : Th) (s : Option Addr) (c : Nat) : BoxT (w.alloc (.cells (x.box s c) 42)) w.heap.size x s c := heap_new1 w _
theorem BoxN.new (w : World) (k v : Int) : BoxN (w.alloc (.cells #[.int .i64 k, .int .i64 v] 36)) w.heap.size k v := heap_new1 w _
theorem BoxT.lt {w : World} {b : Nat} {x : Th} {s : Option Addr} {c : Nat} (h : BoxT w b x s c) : b < w.heap.size := (Array.getElem?_eq_some_iff.1 h).1
theorem BoxN.lt {w : World} {b : Nat} {k v : Int} (h : BoxN w b k v) : b < w.heap.size := (Array.getElem?_eq_some_iff.1 h).1

/-- What its cells hold. -/
structure CellsT (w : World) (b : Nat) (x : Th) (s : Option Addr) (c : Nat) : Prop where
  c0 : w.cell? ⟨b, 0, none⟩ = some (.int .i64 x.kind)
  c1 : w.cell? ⟨b, 1, none⟩ = some (.int .i64 x.n)
  c2 : w.cell? ⟨b, 2, none⟩ = some (.int .i64 x.owner)
  c3 : w.cell? ⟨b, 3, none⟩ = some (.int .i64 x.holds)
  c4 : w.cell? ⟨b, 4, none⟩ = some (.int .i64 (x.r 0))
  c5 : w.cell? ⟨b, 5, none⟩ = some (.int .i64 (x.r 1))
  c6 : w.cell? ⟨b, 6, none⟩ = some (.int .i64 (x.r 2))
  c7 : w.cell? ⟨b, 7, none⟩ = some (.int .i64 (x.r 3))
  c8 : w.cell? ⟨b, 8, none⟩ = some (.int .i64 (x.r 4))
  c9 : w.cell? ⟨b, 9, none⟩ = some (.int .i64 (x.r 5))
  c10 : w.cell? ⟨b, 10, none⟩ = some (.int .i64 (x.r 6))
  c11 : w.cell? ⟨b, 11, none⟩ = some (.int .i64 (x.r 7))
  c12 : w.cell? ⟨b, 12, none⟩ = some (.slice s x.ws.length c)
  c13 : w.cell? ⟨b, 13, none⟩ = some (.int .i64 x.offer)
  c14 : w.cell? ⟨b, 14, none⟩ = some (.int .i64 x.item)
theorem BoxT.cells {w : World} {b : Nat} {x : Th} {s : Option Addr} {c : Nat} (h : BoxT w b x s c) : CellsT w b x s c := by
  constructor <;> (rw [cell_at w b _ _ _ h]; rfl)
theorem BoxT.free {w : World} {b : Nat} {x : Th} {s : Option Addr} {c : Nat} (h : BoxT w b x s c) (o : Nat) : w.frozen? ⟨b, o, none⟩ = false := frozen_at w b o _ _ h
theorem BoxN.cells {w : World} {b : Nat} {k v : Int} (h : BoxN w b k v) : w.cell? ⟨b, 0, none⟩ = some (.int .i64 k) ∧ w.cell? ⟨b, 1, none⟩ = some (.int .i64 v) :=
  ⟨by rw [cell_at w b _ _ _ h]; rfl, by rw [cell_at w b _ _ _ h]; rfl⟩
/-- What t reads. -/
theorem BoxT.read {w : World} {b : Nat} {x : Th} {s : Option Addr} {c : Nat} (h : BoxT w b x s c) {t : Nat} (ht : t < 8) : w.cell? ⟨b, 4 + t, none⟩ = some (.int .i64 (x.r t)) := by
  rw [cell_at w b _ _ _ h]
  match t, ht with
  | 0, _ => rfl
  | 1, _ => rfl
  | 2, _ => rfl
  | 3, _ => rfl
  | 4, _ => rfl
  | 5, _ => rfl
  | 6, _ => rfl
  | 7, _ => rfl

/-- The waiters of a thing lie in memory. -/
def InW (w : World) (x : Th) (s : Option Addr) : Prop := Elems w w.heap.size s 2 Wt.cells x.ws
theorem InW.kept0 {w w' : World} {x : Th} {s : Option Addr} (h : InW w x s) (hk : Kept (fun _ => False) w w') : InW w' x s :=
  (Elems.kept h hk (Nat.le_refl _) (fun _ _ f => f)).more hk.size
theorem InW.few {w : World} {x : Th} {s : Option Addr} (h : InW w x s) : x.ws.length ≤ maxLen := h.1

end Go.Proofs.YtbodlaiakcoabaaGreatDoor
