/-
  The document's world of layer 9 in memory: cells, threads, frames; a struct of some cells loaded and stored in one step.
  Conditions: none; these are lemmas on worlds for the walks.
-/
import Derived.Test.YtofnomkedpagfaaMach
import Derived.Test.YtofnomkedpagfaaRef
import Derived.Test.YtofnomkedpagfaaAsmMem
import Derived.Test.YtofnomkedpagfaaCells5
import Derived.Deep.MidRow
import Derived.Laws.Tables
namespace Go.Proofs.Ytofnomkedpagfaa
open Go.RowKit
set_option linter.unusedVariables false

/-! ### Several cells stored into a row -/
def setMany : List Value → Nat → List Value → List Value
  | xs, _, [] => xs
  | xs, o, v :: vs => setMany (xs.set o v) (o + 1) vs
theorem setMany_mid : ∀ (vs A B C : List Value), B.length = vs.length → setMany (A ++ B ++ C) A.length vs = A ++ vs ++ C
  | [], A, B, C, h => by
    obtain rfl : B = [] := List.eq_nil_of_length_eq_zero h
    rfl
  | v :: vs, A, [], C, h => by simp at h
  | v :: vs, A, b :: B, C, h => by
    have h1 := setMany_mid vs (A ++ [v]) B C (by simpa using h)
    have e : (A ++ b :: B ++ C).set A.length v = A ++ [v] ++ B ++ C := by simp
    unfold setMany
    rw [e]
    rw [List.length_append] at h1
    exact h1.trans (by simp)
theorem own_setCells {base : Nat} {e : TypeId} {size g n cap : Nat} : ∀ (vs : List Value) (o : Nat) (w : World) (xs : List Value), w.ownsRow base e size (.slice (some ⟨g, 0, none⟩) n cap) n xs → (w.setCells g o vs).ownsRow base e size (.slice (some ⟨g, 0, none⟩) n cap) n (setMany xs o vs)
  | [], o, w, xs, h => h
  | v :: vs, o, w, xs, h => own_setCells vs (o + 1) _ _ (World.ownsRow.stored h o v).1
theorem setCells_keeps (g : Nat) : ∀ (vs : List Value) (o : Nat) (w : World), Kept (fun k => k = g) w (w.setCells g o vs)
  | [], o, w => Kept.refl _ _
  | v :: vs, o, w => ((Kept.refl (fun k => k = g) w).setCell ⟨g, o, none⟩ v (fun _ => rfl)).trans (setCells_keeps g vs (o + 1) _) (fun _ _ e => e)
section
variable {α : Type} {f : α → List Value} {n : Nat} {w : World} {g c : Nat} {e : TypeId} {xs : List α} {j : Nat} {x : α}
theorem flat_mid (hf : ∀ x, (f x).length = n) (hx : xs[j]? = some x) (x' : α) : setMany (flat f xs) (j * n) (f x') = flat f (xs.set j x') := by
  have hj := (List.getElem?_eq_some_iff.1 hx).1
  have hxj := (List.getElem?_eq_some_iff.1 hx).2
  have e1 : xs = xs.take j ++ x :: xs.drop (j + 1) := by rw [← hxj, ← List.drop_eq_getElem_cons hj, List.take_append_drop]
  have hl : (xs.take j).length = j := by rw [List.length_take]; omega
  have e2 : xs.set j x' = xs.take j ++ x' :: xs.drop (j + 1) := by
    conv => lhs; rw [e1]
    rw [List.set_append_right _ _ (by omega), hl, Nat.sub_self, List.set_cons_zero]
  have e3 : ∀ y, flat f (xs.take j ++ y :: xs.drop (j + 1)) = flat f (xs.take j) ++ f y ++ flat f (xs.drop (j + 1)) := fun y => by simp [flat]
  have hl2 : (flat f (xs.take j)).length = j * n := by rw [flat_len hf, hl]
  rw [e2, e3]
  conv => lhs; rw [e1, e3, ← hl2]
  exact setMany_mid _ _ _ _ (by rw [hf, hf])
theorem row_store (hf : ∀ x, (f x).length = n) (h : Row w g c e n f xs) (hx : xs[j]? = some x) (x' : α) : Row (w.setCells g (j * n) (f x')) g c e n f (xs.set j x') := by
  have h1 := own_setCells (f x') (j * n) w _ h
  rw [flat_mid hf hx] at h1
  unfold Row
  rw [List.length_set]
  exact h1
theorem row_range (hf : ∀ x, (f x).length = n) (h : Row w g c e n f xs) (hx : xs[j]? = some x) : w.rangeAt g (j * n) (f x) := fun k v hv => h.cell hf hx hv
theorem row_there (hf : ∀ x, (f x).length = n) (h : Row w g c e n f xs) (hx : xs[j]? = some x) : w.there g (j * n) n := fun k hk => by
  obtain ⟨v, hv⟩ : ∃ v, (f x)[k]? = some v := ⟨_, List.getElem?_eq_getElem (by rw [hf]; exact hk)⟩
  exact ⟨by rw [h.cell hf hx hv]; rfl, h.free _⟩
/-- A struct of these cells. -/
def aggOf (cs : List Value) : Value := .agg cs.toArray
theorem row_one (f : α → List Value) (hf : ∀ x, (f x).length = n) (w : World) (e : TypeId) (x : α) : Row (w.alloc (.cells (f x).toArray e)) w.heap.size 1 e n f [x] := by
  have := World.ownsRow_lit (base := 0) (e := e) (size := n) w (f x).toArray 1 (Nat.zero_le _) (by decide) (by simp [hf])
  unfold Row
  have e1 : flat f [x] = (f x).toArray.toList := by simp [flat]
  rw [e1]
  exact this
end

theorem set_cellM {w : World} {b o : Nat} {cur : Array Value} {t : TypeId} {v : Value} (h : w.heap[b]? = some (.cells cur t (0, 0))) : (w.setCell ⟨b, o, none⟩ v).heap[b]? = some (.cells (cur.setIfInBounds o v) t (0, 0)) := by
  simp [World.setCell, h, Array.getElem?_modify]

/-! ### Frames, instructions and marks in one step -/
theorem und_frame : ∃ d, Try.prog.underlying 72 = some d ∧ d.isRow = true := ⟨_, Try.underlying72, rfl⟩
theorem und_insn : ∃ d, Try.prog.underlying 87 = some d ∧ d.isRow = true := ⟨_, Try.underlying87, rfl⟩
theorem und_note : ∃ d, Try.prog.underlying 77 = some d ∧ d.isRow = true := ⟨_, Try.underlying77, rfl⟩
theorem size_frame : (Try.prog.info? 72).map (·.size) = some 17 := by kernel_rfl
theorem size_insn : (Try.prog.info? 87).map (·.size) = some 5 := by kernel_rfl
theorem size_note : (Try.prog.info? 77).map (·.size) = some 2 := by kernel_rfl
theorem fr_one (f : Fr) : ∀ v ∈ f.cells, v.oneCell' = true := by
  intro v hv
  unfold Fr.cells regsC at hv
  rcases List.mem_cons.1 hv with rfl | hv
  · rfl
  · obtain ⟨k, _, rfl⟩ := List.mem_map.1 hv
    rfl
theorem ix_one (x : Ix) : ∀ v ∈ x.cells, v.oneCell' = true := by
  intro v hv
  unfold Ix.cells at hv
  simp only [List.mem_cons, List.not_mem_nil, or_false] at hv
  rcases hv with h | h | h | h | h <;> subst h <;> rfl
theorem nt_one (x : Nt) : ∀ v ∈ x.cells, v.oneCell' = true := by
  intro v hv
  unfold Nt.cells at hv
  simp only [List.mem_cons, List.not_mem_nil, or_false] at hv
  rcases hv with h | h <;> subst h <;> rfl
section
variable {ops : Array Oper} {rest : List Oper} {o : Oper} {a : Act} {w : World} {Q : Exit → Act → World → Prop} {g c j : Nat}
/-- A load of what lies at an address. -/
theorem wpList_loadFr (hgd : o.guard = none) {p : Operand} (ho : o.op = .load 72 p) {off : Nat} (hp : a.eval p = .pointer (some ⟨g, off, none⟩)) {f : Fr} (hR : w.rangeAt g off f.cells)
    (h : wpList Try.prog ops Q rest (a.put o.dst (aggOf f.cells)) w) : wpList Try.prog ops Q (o :: rest) a w := by
  obtain ⟨d, hu, hd⟩ := und_frame
  exact wpList_load_mid hgd _ p ho g off hp _ d hR hu hd (by rw [Fr.len]; exact size_frame) h
theorem wpList_loadIx (hgd : o.guard = none) {p : Operand} (ho : o.op = .load 87 p) {off : Nat} (hp : a.eval p = .pointer (some ⟨g, off, none⟩)) {x : Ix} (hR : w.rangeAt g off x.cells)
    (h : wpList Try.prog ops Q rest (a.put o.dst x.agg) w) : wpList Try.prog ops Q (o :: rest) a w := by
  obtain ⟨d, hu, hd⟩ := und_insn
  exact wpList_load_mid hgd _ p ho g off hp x.cells d hR hu hd size_insn h
theorem wpList_loadNt (hgd : o.guard = none) {p : Operand} (ho : o.op = .load 77 p) {off : Nat} (hp : a.eval p = .pointer (some ⟨g, off, none⟩)) {x : Nt} (hR : w.rangeAt g off x.cells)
    (h : wpList Try.prog ops Q rest (a.put o.dst (.agg #[.int .i64 x.kind, .int .i64 x.value])) w) : wpList Try.prog ops Q (o :: rest) a w := by
  obtain ⟨d, hu, hd⟩ := und_note
  exact wpList_load_mid hgd _ p ho g off hp x.cells d hR hu hd size_note h
/-- A store of a whole frame into a row of them. -/
theorem wpList_storeFr (hgd : o.guard = none) {p v : Operand} (ho : o.op = .store 72 p v) (hp : a.eval p = .pointer (some ⟨g, j * 17, none⟩)) {f : Fr} (hv : a.eval v = aggOf f.cells) {l : List Fr} {f0 : Fr} (hR : Row w g c 72 17 Fr.cells l) (hj : l[j]? = some f0)
    (h : ∀ W, Row W g c 72 17 Fr.cells (l.set j f) → Kept (fun k => k = g) w W → wpList Try.prog ops Q rest (a.put o.dst undef) W) : wpList Try.prog ops Q (o :: rest) a w := by
  have hl : f.cells.toArray.size = 17 := by rw [List.size_toArray, Fr.len]
  exact wpList_store_mid hgd _ p v ho g (j * 17) f.cells.toArray hp hv (by rw [hl]; exact row_there Fr.len hR hj) (by rw [hl]; exact size_frame) (all_oneCell_toArray (fr_one f))
    (h _ (row_store Fr.len hR hj f) (setCells_keeps g _ _ _))
end

/-! ### The world -/
def intC (z : Int) : List Value := [.int .i64 z]
theorem intC_len (z : Int) : (intC z).length = 1 := rfl
/-- Where a world lies: its own block, its table's and the table's row. -/
structure Wp where
  wb : Nat
  tb : Nat
  tg : Nat
  tc : Nat
  most : Int
  now : Int
/-- Block wb holds a world: cells that lie in block og, threads. -/
structure RW (P : Wp) (og oc : Nat) (zs : List Int) (ps : List Pk) (w : World) : Prop where
  box : w.heap[P.wb]? = some (.cells #[.slice (some ⟨og, 0, none⟩) zs.length oc, .int .i64 P.most, .pointer (some ⟨P.tb, 0, none⟩)] 66 (0, 0))
  row : Row w og oc 2 1 intC zs
  tab : Ref w P.tb P.tg P.tc P.now ps
  ne : og ≠ P.wb ∧ og ≠ P.tb ∧ og ≠ P.tg ∧ P.wb ≠ P.tb ∧ P.wb ≠ P.tg
  most : (zs.length : Int) ≤ P.most ∧ P.most ≤ 4096
/-- Its blocks. -/
def Wp.foot (P : Wp) (og : Nat) (k : Nat) : Prop := k = P.wb ∨ k = og ∨ k = P.tb ∨ k = P.tg
section
variable {P : Wp} {og oc : Nat} {zs : List Int} {ps : List Pk} {w w' : World}
theorem RW.lts (h : RW P og oc zs ps w) : P.wb < w.heap.size ∧ og < w.heap.size ∧ P.tb < w.heap.size ∧ P.tg < w.heap.size :=
  ⟨(Array.getElem?_eq_some_iff.1 h.box).1, h.row.lt, h.tab.lt.1, h.tab.lt.2⟩
theorem RW.foot_lt (h : RW P og oc zs ps w) {k : Nat} (hk : P.foot og k) : k < w.heap.size := by
  obtain ⟨h1, h2, h3, h4⟩ := h.lts
  rcases hk with rfl | rfl | rfl | rfl <;> assumption
theorem RW.kept {S : Nat → Prop} (h : RW P og oc zs ps w) (hk : Kept S w w') (hS : ∀ k, P.foot og k → ¬ S k) : RW P og oc zs ps w' :=
  ⟨(hk.block _ h.lts.1 (hS _ (.inl rfl))).trans h.box, h.row.kept hk (hS _ (.inr (.inl rfl))), h.tab.kept hk (hS _ (.inr (.inr (.inl rfl)))) (hS _ (.inr (.inr (.inr rfl)))), h.ne, h.most⟩
theorem RW.kept0 (h : RW P og oc zs ps w) (hk : Kept (fun _ => False) w w') : RW P og oc zs ps w' := h.kept hk (fun _ _ f => f)
theorem RW.c0 (h : RW P og oc zs ps w) : w.cell? ⟨P.wb, 0, none⟩ = some (.slice (some ⟨og, 0, none⟩) zs.length oc) := by rw [cell_at w P.wb 0 _ _ h.box]; rfl
theorem RW.c1 (h : RW P og oc zs ps w) : w.cell? ⟨P.wb, 1, none⟩ = some (.int .i64 P.most) := by rw [cell_at w P.wb 1 _ _ h.box]; rfl
theorem RW.c2 (h : RW P og oc zs ps w) : w.cell? ⟨P.wb, 2, none⟩ = some (.pointer (some ⟨P.tb, 0, none⟩)) := by rw [cell_at w P.wb 2 _ _ h.box]; rfl
theorem RW.f0 (h : RW P og oc zs ps w) (o : Nat) : w.frozen? ⟨P.wb, o, none⟩ = false := frozen_at w P.wb o _ _ h.box
theorem RW.at (h : RW P og oc zs ps w) {i : Nat} (hi : i < zs.length) : w.cell? ⟨og, i, none⟩ = some (.int .i64 (zs.getD i 0)) := by
  have hx : zs[i]? = some (zs.getD i 0) := by rw [List.getD_eq_getElem?_getD, List.getElem?_eq_getElem hi]; rfl
  have := h.row.cell intC_len hx (j := 0) (v := .int .i64 (zs.getD i 0)) rfl
  simpa using this
theorem RW.free (h : RW P og oc zs ps w) (o : Nat) : w.frozen? ⟨og, o, none⟩ = false := h.row.free o
/-- A cell is stored. -/
theorem RW.set (h : RW P og oc zs ps w) {i : Nat} (hi : i < zs.length) (v : Int) : RW P og oc (zs.set i v) ps (w.setCell ⟨og, i, none⟩ (.int .i64 v)) ∧ Kept (fun k => k = og) w (w.setCell ⟨og, i, none⟩ (.int .i64 v)) := by
  have hk : Kept (fun k => k = og) w (w.setCell ⟨og, i, none⟩ (.int .i64 v)) := (Kept.refl _ w).setCell _ _ (fun _ => rfl)
  obtain ⟨n1, n2, n3, n4, n5⟩ := h.ne
  have hx : zs[i]? = some (zs.getD i 0) := by rw [List.getD_eq_getElem?_getD, List.getElem?_eq_getElem hi]; rfl
  have hr := h.row.set intC_len hx (j := 0) (by decide) (x' := v) (v := .int .i64 v) rfl
  rw [Nat.mul_one, Nat.add_zero] at hr
  refine ⟨⟨?_, hr, h.tab.kept hk (Ne.symm n2) (Ne.symm n3), h.ne, by rw [List.length_set]; exact h.most⟩, hk⟩
  rw [hk.block _ h.lts.1 (Ne.symm n1), List.length_set]
  exact h.box
/-- Threads have turned. -/
theorem RW.turn (h : RW P og oc zs ps w) {ps' : List Pk} (h2 : TurnedRef w P.tb P.tg P.tc P.now ps' w') : RW P og oc zs ps' w' ∧ Kept (fun k => k = P.tg) w w' := by
  obtain ⟨n1, n2, n3, n4, n5⟩ := h.ne
  exact ⟨⟨(h2.2.block _ h.lts.1 n5).trans h.box, h.row.kept h2.2 n3, h2.1, h.ne, h.most⟩, h2.2⟩
end

end Go.Proofs.Ytofnomkedpagfaa
