/-
  Rows of bytes of the call's own; an append of one byte, and of a slice.
  Conditions: the bounds on lengths that each law names.
-/
import Derived.Test.YtkicpbnphbcdaaaGrow
import Derived.Test.YtkicpbnphbcdaaaOwned
import Derived.Handy
import Derived.LoopTactic
namespace Go.Proofs.Ytkicpbnphbcdaaa
open Go.RowKit

/-- A byte's cell. -/
def bC (b : Nat) : List Value := [.int .u8 b]
theorem bC_one : ∀ x, (bC x).length = 1 := fun _ => rfl
theorem bC_flat (xs ys : List Nat) : flat bC (xs ++ ys) = flat bC xs ++ flat bC ys := by simp [flat]
theorem bC_cell (xs : List Nat) : ∀ u ∈ flat bC xs, u.oneCell' = true := by
  intro u hu
  simp only [flat, List.mem_flatMap, bC, List.mem_cons, List.not_mem_nil, or_false] at hu
  obtain ⟨_, _, rfl⟩ := hu
  rfl

theorem Try.infoByte : (Try.prog.info? 5).map (fun i => (i.zero, i.size, i.bytes)) = some (some (.int .u8 0), 1, 1) := by kernel_rfl

/-- The value v owns these bytes, in a block from base on. -/
def Own (base : Nat) (w : World) (v : Value) (bs : List Nat) : Prop := w.ownsRow base 5 1 v bs.length (flat bC bs)

/-- From v in w to v' in w': v's block alone may have turned; v' is there, or in a new one, and owns these bytes. -/
structure Put (base : Nat) (w : World) (v : Value) (w' : World) (v' : Value) (bs : List Nat) : Prop where
  own : Own base w' v' bs
  kept : Kept (fun k => v.ownBlock = some k) w w'
  off : v'.ownBlock = v.ownBlock ∨ ∃ g, v'.ownBlock = some g ∧ w.heap.size ≤ g

theorem Put.refl {base : Nat} {w : World} {v : Value} {bs : List Nat} (h : Own base w v bs) : Put base w v w v bs := ⟨h, Kept.refl _ _, .inl rfl⟩
theorem Put.trans {base : Nat} {w w1 w2 : World} {v v1 v2 : Value} {bs cs : List Nat} (h : Put base w v w1 v1 bs) (k : Put base w1 v1 w2 v2 cs) : Put base w v w2 v2 cs := by
  refine ⟨k.own, h.kept.trans k.kept (fun i hi e => ?_), ?_⟩
  · rcases h.off with h1 | ⟨g, h1, h2⟩
    · rw [← h1]; exact e
    · rw [h1] at e; simp only [Option.some.injEq] at e; omega
  · rcases k.off with k1 | ⟨g, k1, k2⟩
    · rcases h.off with h1 | ⟨g, h1, h2⟩
      · exact .inl (k1.trans h1)
      · exact .inr ⟨g, k1.trans h1, h2⟩
    · exact .inr ⟨g, k1, Nat.le_trans h.kept.size k2⟩
theorem Own.alloc {base : Nat} {w : World} {v : Value} {bs : List Nat} (h : Own base w v bs) (o : Obj) : Own base (w.alloc o) v bs := World.ownsRow.alloc h o
theorem Put.alloc {base : Nat} {w w' : World} {v v' : Value} {bs : List Nat} (h : Put base w v w' v' bs) (o : Obj) : Put base w v (w'.alloc o) v' bs := ⟨h.own.alloc o, h.kept.alloc o, h.off⟩
/-- A new block first, then a step. -/
theorem Put.after {base : Nat} {w w' : World} {v v' : Value} {bs : List Nat} {o : Obj} (h : Put base (w.alloc o) v w' v' bs) : Put base w v w' v' bs :=
  ⟨h.own, ((Kept.refl (fun _ => False) w).alloc o |>.mono (fun _ _ f => f.elim)).trans h.kept (fun _ _ e => e), h.off.imp id (fun ⟨g, e, hg⟩ => ⟨g, e, by simp at hg; omega⟩)⟩
theorem Own.lt {base : Nat} {w : World} {v : Value} {bs : List Nat} (h : Own base w v bs) {g : Nat} (e : v.ownBlock = some g) : base ≤ g ∧ g < w.heap.size := World.ownsRow.lt h g e
/-- A block that isn't v's stays. -/
theorem Put.block {base : Nat} {w w' : World} {v v' : Value} {bs : List Nat} (h : Put base w v w' v' bs) {b : Nat} (hb : b < w.heap.size) (hv : v.ownBlock ≠ some b) : w'.heap[b]? = w.heap[b]? ∧ v'.ownBlock ≠ some b := by
  refine ⟨h.kept.block b hb hv, ?_⟩
  rcases h.off with h1 | ⟨g, h1, h2⟩
  · rw [h1]; exact hv
  · rw [h1]; intro e; simp only [Option.some.injEq] at e; omega
theorem own_nil (base : Nat) (w : World) : Own base w (.slice none 0 0) [] := World.ownsRow_nil _ _ _ _

/-- It reads as the bytes. -/
theorem Own.elems {base : Nat} {w : World} {v : Value} {bs : List Nat} (h : Own base w v bs) (hm : bs.length ≤ maxLen) : ∃ A c, v = .slice A bs.length c ∧ bs.length ≤ c ∧ Elems w w.heap.size A 1 bC bs := by
  obtain ⟨s, c, e, hM⟩ := Made.of_own bC_one h rfl hm
  exact ⟨s, c, e, hM.cap, hM.elems⟩

section
variable {P : Program} (w : World)
theorem wpList_append_elems {α : Type} {f : α → List Value} {ys : List α} {ops : Array Oper} {rest : List Oper} {o : Oper} {a : Act} {Q : Exit → Act → World → Prop} (hgd : o.guard = none) (s x : Operand) (t : TypeId)
    (ho : o.op = .call { callee := .builtin .append, args := #[s, x], argTypes := #[t, t] })
    (base : Nat) (e : TypeId) (i : TypeInfo) (z : Value) (size bytes : Nat) (ht : P.underlying t = some (.slice e)) (hi : P.info? e = some i) (hz : i.zero = some z)
    (hsize : i.size = size) (hby : i.bytes = bytes) (hzs : z.cells.size = size) (hsz : 0 < size) (hf : ∀ x, (f x).length = size) (h1 : ∀ u ∈ flat f ys, u.oneCell' = true)
    (v : Value) (n : Nat) (xs : List Value) (hs : a.eval s = v) (hown : w.ownsRow base e size v n xs)
    (B : Nat) (A : Option Addr) (c : Nat) (hx : a.eval x = .slice A ys.length c) (hE : Elems w B A size f ys) (h63 : n + ys.length ≤ maxLen) (hbytes : (n + ys.length) * bytes ≤ 140737488355328) (hbase : base ≤ w.heap.size)
    (h : ∀ v' w', w'.ownsRow base e size v' (n + ys.length) (xs ++ flat f ys) → w.grownBy w' v.ownBlock → (v'.ownBlock = v.ownBlock ∨ v'.ownBlock = some w.heap.size) → wpList P ops Q rest (a.put o.dst v') w') : wpList P ops Q (o :: rest) a w := by
  refine wpList_plain hgd fun _ hK => ?_
  obtain ⟨v', w', hrun, h2, h3, h4⟩ := run_append_elems (P := P) w base t o.type e i z size bytes ht hi hz hsize hby hzs hsz hf h1 v n xs hown B A c hE h63 hbytes hbase
  unfold Oper.wp execOp
  simp only [ho, resolve, invoke, builtin, Sem.run_bind, Sem.run_pure, Result.andThen_ok, List.map_toArray, List.map_cons, List.map_nil, hs, hx, hrun]
  exact hK _ _ (h v' w' h2 h3 h4)
end

section
variable (w : World)
/-- An append of one byte. -/
theorem wpList_push {ops : Array Oper} {rest : List Oper} {o : Oper} {a : Act} {Q : Exit → Act → World → Prop} (hgd : o.guard = none) (s x : Operand)
    (ho : o.op = .call { callee := .builtin .append, args := #[s, x], argTypes := #[29, 29] })
    (base : Nat) (v : Value) (bs : List Nat) (c : Int) (c' : Nat) (hs : a.eval s = v) (hx : a.eval x = .slice (some ⟨w.heap.size, 0, none⟩) 1 1) (hc : c = (c' : Int)) (hown : Own base w v bs)
    (hlen : bs.length ≤ 1099511627776) (hbase : base ≤ w.heap.size)
    (h : ∀ v' w', Put base w v w' v' (bs ++ [c']) → wpList Try.prog ops Q rest (a.put o.dst v') w') : wpList Try.prog ops Q (o :: rest) a (w.alloc (.cells #[.int .u8 c] 5)) := by
  subst hc
  obtain ⟨i, hi, hz, hn, hb⟩ := info_parts Try.infoByte
  have hE : Elems (w.alloc (.cells #[.int .u8 (c' : Int)] 5)) (w.heap.size + 1) (some ⟨w.heap.size, 0, none⟩) 1 bC [c'] := Elems.block bC_one (heap_alloc_new w _) rfl (by show 1 ≤ maxLen; decide)
  refine wpList_append_elems _ hgd s x 29 ho base 5 i (.int .u8 0) 1 1 Try.underlying29 hi hz hn hb rfl (by decide) bC_one (bC_cell [c']) v bs.length (flat bC bs) hs (hown.alloc _) (w.heap.size + 1) _ 1 hx hE (by unfold maxLen; simp; omega) (by simp; omega) (by simp; omega) ?_
  intro v' w' h1 h2 h3
  refine h v' w' ⟨?_, ((Kept.refl (fun k => v.ownBlock = some k) w).alloc _).grown h2 (fun k _ e => e), ?_⟩
  · unfold Own
    rw [bC_flat, List.length_append]
    exact h1
  · rcases h3 with h3 | h3
    · exact .inl h3
    · exact .inr ⟨_, h3, by simp⟩
end

end Go.Proofs.Ytkicpbnphbcdaaa
