/-
  A whole thing loaded, and stored, in one step of a walk.
  Conditions: the block holds a thing.
-/
import Derived.Test.YthjblniabnjfhaaModOwn
import Derived.Laws.Tables
import Derived.Deep.MidRow
namespace Go.Proofs.Ythjblniabnjfhaa
open Go.RowKit
set_option linter.unusedVariables false

theorem load_thing {w : World} {b : Nat} {x : Th} {s : Option Addr} {c : Nat} (h : BoxT w b x s c) : (Instr.loadAt 27 (.pointer (some ⟨b, 0, none⟩))).run Try.prog w = .ok (x.agg s c) w := by
  have h1 := run_loadCells_list (P := Try.prog) (w := w) ⟨b, 0, none⟩ (x.box s c).toList (fun j v hj => by
    rw [Addr.add_lit, Nat.zero_add, cell_at w b j _ _ h, ← hj, Array.getElem?_toList])
  have hl : (x.box s c).toList.length = 15 := rfl
  rw [hl] at h1
  have hs : (sizeOf 27).run Try.prog w = .ok 15 w := by kernel_rfl
  have ha : (isAgg 27).run Try.prog w = .ok true w := by kernel_rfl
  simp only [Instr.loadAt, Instr.sureAddr, loadVar, Sem.run_bind, Sem.run_pure, Result.andThen_ok, ha, hs, h1, if_true]
theorem box_one (x : Th) (s : Option Addr) (c : Nat) : ∀ v ∈ (x.box s c).toList, v.oneCell' = true := by
  intro v hv
  simp only [List.mem_cons, List.not_mem_nil, or_false] at hv
  rcases hv with h | h | h | h | h | h | h | h | h | h | h | h | h | h | h <;> subst h <;> rfl
theorem store_thing {w : World} {b : Nat} {z x : Th} {s0 s : Option Addr} {c0 c : Nat} (h : BoxT w b z s0 c0) : ∃ W, (Instr.storeAt 27 (.pointer (some ⟨b, 0, none⟩)) (x.agg s c)).run Try.prog w = .ok () W ∧ BoxT W b x s c ∧ Kept (fun k => k = b) w W := by
  have h1 := run_storeCells_from (P := Try.prog) b 27 (x.box s c).toList 0 (z.box s0 c0) w h rfl (box_one x s c)
  have hs : (sizeOf 27).run Try.prog w = .ok 15 w := by kernel_rfl
  rw [List.take_zero, List.nil_append, Array.toArray_toList] at h1
  refine ⟨w.setRow b (x.box s c), ?_, setRow_heap w b _ _ _ _ h, ⟨rfl, rfl, rfl, Nat.le_of_eq (size_setRow _ _ _).symm, fun k _ hk => setRow_other _ _ _ _ hk⟩⟩
  have e : (x.agg s c).cells = x.box s c := rfl
  simp only [Instr.storeAt, Instr.sureAddr, storeVar, Sem.run_bind, Sem.run_pure, Result.andThen_ok, hs, e]
  rw [if_neg (by rw [show (x.box s c).size = 15 from rfl]; simp)]
  exact h1

section
variable {ops : Array Oper} {rest : List Oper} {o : Oper} {a : Act} {w : World} {Q : Exit → Act → World → Prop} {b c : Nat} {x : Th} {s : Option Addr}
theorem wpList_loadT {p : Operand} (hw : Region.wanted o (yielded ops a.tmps) = true) (ho : o.op = .load 27 p) (hp : a.eval p = .pointer (some ⟨b, 0, none⟩)) (hB : BoxT w b x s c)
    (h : wpList Try.prog ops Q rest (a.put o.dst (x.agg s c)) w) : wpList Try.prog ops Q (o :: rest) a w := by
  unfold wpList
  rw [if_pos hw]
  refine .inl ?_
  unfold Oper.wp execOp
  simp only [ho, hp, Sem.run_bind, Sem.run_pure, Result.andThen_ok, load_thing hB]
  exact h
theorem wpList_storeT {p v : Operand} {z : Th} {s0 : Option Addr} {c0 : Nat} (hw : Region.wanted o (yielded ops a.tmps) = true) (ho : o.op = .store 27 p v) (hp : a.eval p = .pointer (some ⟨b, 0, none⟩)) (hv : a.eval v = x.agg s c) (hB : BoxT w b z s0 c0)
    (h : ∀ W, BoxT W b x s c → Kept (fun k => k = b) w W → wpList Try.prog ops Q rest (a.put o.dst (.tuple #[])) W) : wpList Try.prog ops Q (o :: rest) a w := by
  obtain ⟨W, hrun, hB2, hk⟩ := store_thing (x := x) (s := s) (c := c) hB
  unfold wpList
  rw [if_pos hw]
  refine .inl ?_
  unfold Oper.wp execOp
  simp only [ho, hp, hv, Sem.run_bind, Sem.run_pure, Result.andThen_ok, hrun]
  exact h W hB2 hk
end

theorem op_cells {w : World} {b : Nat} {k o n wt : Int} {br : Bool} (h : w.heap[b]? = some (.cells #[.int .i64 k, .int .i64 o, .int .i64 n, .int .i64 wt, .bool br] 31 (0, 0))) :
    w.cell? ⟨b, 0, none⟩ = some (.int .i64 k) ∧ w.cell? ⟨b, 1, none⟩ = some (.int .i64 o) ∧ w.cell? ⟨b, 2, none⟩ = some (.int .i64 n) ∧ w.cell? ⟨b, 3, none⟩ = some (.int .i64 wt) ∧ w.cell? ⟨b, 4, none⟩ = some (.bool br) :=
  ⟨by rw [cell_at w b _ _ _ h]; rfl, by rw [cell_at w b _ _ _ h]; rfl, by rw [cell_at w b _ _ _ h]; rfl, by rw [cell_at w b _ _ _ h]; rfl, by rw [cell_at w b _ _ _ h]; rfl⟩

/-- A new thing. -/
theorem BoxT.fresh (w : World) : BoxT (w.alloc (.cells #[.int .i64 0, .int .i64 0, .int .i64 0, .int .i64 0, .int .i64 0, .int .i64 0, .int .i64 0, .int .i64 0, .int .i64 0, .int .i64 0, .int .i64 0, .int .i64 0, .slice none 0 0, .int .i64 0, .int .i64 0] 27)) w.heap.size ⟨0, 0, 0, 0, fun _ => 0, [], 0, 0⟩ none 0 := heap_new1 w _
theorem BoxT.past {w : World} {b c : Nat} {x : Th} {s : Option Addr} (h : BoxT w b x s c) (o : Obj) : BoxT (w.alloc o) b x s c := h.kept0 ((Kept.refl _ w).alloc _)

section
variable {B b : Nat} {a w W : World}
theorem belK (h : Below B a w) (hB : B ≤ a.heap.size) (hk : Kept (fun _ => False) w W) : Below B a W :=
  h.trans (hk.below (Nat.le_trans hB h.size) (fun _ f => f.elim))
theorem bel1 (h : Below B a w) (hB : B ≤ a.heap.size) (hk : Kept (fun k => k = b) w W) (hb : B ≤ b) : Below B a W :=
  h.trans (hk.below (Nat.le_trans hB h.size) (fun _ e => by omega))
theorem belF {o : Obj} (h : Below B a w) (hB : B ≤ a.heap.size) (hk : Kept (fun k => k = w.heap.size) (w.alloc o) W) : Below B a W :=
  bel1 (belK h hB ((Kept.refl _ w).alloc o)) hB hk (Nat.le_trans hB h.size)
end

section
variable {w W : World} {b c : Nat} {x : Th} {s : Option Addr} {o : Obj}
/-- What stays where a new block is laid and filled. -/
theorem BoxT.stepF (h : BoxT w b x s c) (hk : Kept (fun k => k = w.heap.size) (w.alloc o) W) : BoxT W b x s c := (h.past o).kept hk (Nat.ne_of_lt h.lt)
theorem BoxN.stepF {k v : Int} (h : BoxN w b k v) (hk : Kept (fun k => k = w.heap.size) (w.alloc o) W) : BoxN W b k v :=
  hk.at_ (h.kept0 ((Kept.refl _ w).alloc o)) (Nat.ne_of_lt h.lt)
theorem InW.stepF (h : InW w x s) (hk : Kept (fun k => k = w.heap.size) (w.alloc o) W) : InW W x s := by
  have h1 : Elems (w.alloc o) w.heap.size s 2 Wt.cells x.ws := Elems.kept h ((Kept.refl (fun _ => False) w).alloc o) (Nat.le_refl _) (fun _ _ f => f)
  exact (Elems.kept h1 hk (by simp) (fun k hk e => by omega)).more (by have := hk.size; simp at this; omega)
theorem NewW.stepF {B : Nat} {ws : List Wt} (h : NewW B w s c ws) (hk : Kept (fun k => k = w.heap.size) (w.alloc o) W) : NewW B W s c ws := by
  have hz : w.heap.size ≤ W.heap.size := by have := hk.size; simp at this; omega
  have h1 : Elems (w.alloc o) w.heap.size s 2 Wt.cells ws := Elems.kept h.el ((Kept.refl (fun _ => False) w).alloc o) (Nat.le_refl _) (fun _ _ f => f)
  refine ⟨(Elems.kept h1 hk (by simp) (fun k hk e => by omega)).more hz, fun hne => ?_⟩
  obtain ⟨g, hs, a, b, f⟩ := h.nw hne
  refine ⟨g, hs, a, by omega, fun o' => ?_⟩
  have k1 : Kept (fun _ => False) w (w.alloc o) := (Kept.refl _ w).alloc o
  exact (hk.frozen (p := ⟨g, o', none⟩) (by simp; omega) (Nat.ne_of_lt b)).trans ((k1.frozen (p := ⟨g, o', none⟩) b (fun f => f)).trans (f o'))
theorem NewW.kept0 {B : Nat} {ws : List Wt} (h : NewW B w s c ws) (hk : Kept (fun _ => False) w W) : NewW B W s c ws := h.kept hk (fun _ _ f => f)
end

theorem load_note {w : World} {b : Nat} {k v : Int} (h : BoxN w b k v) : (Instr.loadAt 29 (.pointer (some ⟨b, 0, none⟩))).run Try.prog w = .ok (.agg #[.int .i64 k, .int .i64 v]) w := by
  have h1 := run_loadCells_list (P := Try.prog) (w := w) ⟨b, 0, none⟩ [.int .i64 k, .int .i64 v] (fun j u hj => by
    rw [Addr.add_lit, Nat.zero_add, cell_at w b j _ _ h, ← hj]
    simp)
  have hl : ([.int .i64 k, .int .i64 v] : List Value).length = 2 := rfl
  rw [hl] at h1
  have hs : (sizeOf 29).run Try.prog w = .ok 2 w := by kernel_rfl
  have ha : (isAgg 29).run Try.prog w = .ok true w := by kernel_rfl
  simp only [Instr.loadAt, Instr.sureAddr, loadVar, Sem.run_bind, Sem.run_pure, Result.andThen_ok, ha, hs, h1, if_true]
theorem wpList_loadN {ops : Array Oper} {rest : List Oper} {o : Oper} {a : Act} {w : World} {Q : Exit → Act → World → Prop} {b : Nat} {k v : Int} {p : Operand} (hw : Region.wanted o (yielded ops a.tmps) = true) (ho : o.op = .load 29 p) (hp : a.eval p = .pointer (some ⟨b, 0, none⟩)) (hB : BoxN w b k v)
    (h : wpList Try.prog ops Q rest (a.put o.dst (.agg #[.int .i64 k, .int .i64 v])) w) : wpList Try.prog ops Q (o :: rest) a w := by
  unfold wpList
  rw [if_pos hw]
  refine .inl ?_
  unfold Oper.wp execOp
  simp only [ho, hp, Sem.run_bind, Sem.run_pure, Result.andThen_ok, load_note hB]
  exact h

/-- Waiters in blocks below B. -/
def ElB (B : Nat) (w : World) (s : Option Addr) (ws : List Wt) : Prop := B ≤ w.heap.size ∧ Elems w B s 2 Wt.cells ws
section
variable {B b c : Nat} {w W : World} {s : Option Addr} {ws : List Wt} {o : Obj} {x : Th} {S : Nat → Prop}
theorem ElB.keptS (h : ElB B w s ws) (hk : Kept S w W) (hS : ∀ q, q < B → ¬ S q) : ElB B W s ws := ⟨Nat.le_trans h.1 hk.size, Elems.kept h.2 hk h.1 hS⟩
theorem ElB.kept0 (h : ElB B w s ws) (hk : Kept (fun _ => False) w W) : ElB B W s ws := h.keptS hk (fun _ _ f => f)
theorem ElB.stepF (h : ElB B w s ws) (hk : Kept (fun k => k = w.heap.size) (w.alloc o) W) : ElB B W s ws :=
  (h.kept0 ((Kept.refl _ w).alloc o)).keptS hk (fun q hq e => by have := h.1; omega)
theorem ElB.inW (h : ElB B w s x.ws) : InW w x s := h.2.more h.1
theorem some_set {p : Addr} {u : Value} (b o : Nat) (h : (w.cell? p).isSome = true) : ((w.setCell ⟨b, o, none⟩ u).cell? p).isSome = true := World.isSome_setCells b [u] o w p h
theorem frozen_set {p : Addr} {u : Value} (b o : Nat) : (w.setCell ⟨b, o, none⟩ u).frozen? p = w.frozen? p := World.frozen?_setCells b [u] o w p
end

section
variable {ops : Array Oper} {o : Oper} {a : Act} {w : World} {K : Act → World → Prop} {Q : Exit → Act → World → Prop} {E : Prop} {b c : Nat} {x : Th} {s : Option Addr}
theorem step_loadT (hgd : o.guard = none) (p : Operand) (ho : o.op = .load 27 p) (hp : a.eval p = .pointer (some ⟨b, 0, none⟩)) (hB : BoxT w b x s c) (h : K (a.put o.dst (x.agg s c)) w) :
    if Region.wanted o (yielded ops a.tmps) = true then Oper.wp Try.prog o a w K Q else E := by
  have hw : Region.wanted o (yielded ops a.tmps) = true := by simp [Region.wanted, hgd]
  rw [if_pos hw]
  unfold Oper.wp execOp
  simp only [ho, hp, Sem.run_bind, Sem.run_pure, Result.andThen_ok, load_thing hB]
  exact h
theorem step_storeT {z : Th} {s0 : Option Addr} {c0 : Nat} (hgd : o.guard = none) (p v : Operand) (ho : o.op = .store 27 p v) (hp : a.eval p = .pointer (some ⟨b, 0, none⟩)) (hv : a.eval v = x.agg s c) (hB : BoxT w b z s0 c0)
    (h : ∀ W, BoxT W b x s c → Kept (fun k => k = b) w W → K (a.put o.dst (.tuple #[])) W) :
    if Region.wanted o (yielded ops a.tmps) = true then Oper.wp Try.prog o a w K Q else E := by
  obtain ⟨W, hrun, hB2, hk⟩ := store_thing (x := x) (s := s) (c := c) hB
  have hw : Region.wanted o (yielded ops a.tmps) = true := by simp [Region.wanted, hgd]
  rw [if_pos hw]
  unfold Oper.wp execOp
  simp only [ho, hp, hv, Sem.run_bind, Sem.run_pure, Result.andThen_ok, hrun]
  exact h W hB2 hk
/-- Where a block was laid ahead of a call, and filled behind it. -/
theorem kept_ahead {w w6 W : World} {ob : Obj} (hk : Kept (fun _ => False) (w.alloc ob) w6) (hS : Kept (fun k => k = w.heap.size) w6 W) : Kept (fun _ => False) w W := by
  have h1 : Kept (fun k => k = w.heap.size) w W := ((((Kept.refl (fun _ => False) w).alloc ob).tr0 hk).mono (T := fun k => k = w.heap.size) (fun _ _ f => f.elim)).trans hS (fun _ _ e => e)
  exact ⟨h1.os, h1.tape, h1.output, h1.size, fun k hk _ => h1.block k hk (Nat.ne_of_lt hk)⟩
theorem kept_behind {w w6 W : World} {ob : Obj} (hk : Kept (fun _ => False) w w6) (hS : Kept (fun k => k = w6.heap.size) (w6.alloc ob) W) : Kept (fun _ => False) w W := by
  have h1 : Kept (fun k => k = w6.heap.size) w W := ((hk.tr0 ((Kept.refl (fun _ => False) w6).alloc ob)).mono (T := fun k => k = w6.heap.size) (fun _ _ f => f.elim)).trans hS (fun _ _ e => e)
  exact ⟨h1.os, h1.tape, h1.output, h1.size, fun k hk2 _ => h1.block k hk2 (by have := hk.size; omega)⟩
theorem new_ahead {w w6 W : World} {ob : Obj} {y : Th} {s : Option Addr} {c : Nat} (hN : NewW (w.alloc ob).heap.size w6 s c y.ws) (hS : Kept (fun k => k = w.heap.size) w6 W) : InW W y s :=
  (hN.kept hS (fun g hg e => by simp at hg; omega)).el
theorem new_behind {B : Nat} {w6 W : World} {ob : Obj} {y : Th} {s : Option Addr} {c : Nat} (hN : NewW B w6 s c y.ws) (hS : Kept (fun k => k = w6.heap.size) (w6.alloc ob) W) : InW W y s := (hN.stepF hS).el
end

theorem Kept.drewL {w W : World} (h : Kept (fun _ => False) w.drew W) : Kept (fun _ => False) w W := ((Kept.refl (fun _ => False) w).drew).tr0 h

end Go.Proofs.Ythjblniabnjfhaa
