/-
  An append of a slice that reads as a list: onto a new empty slice, and onto a row of the call's own.
  Conditions: the bounds on lengths that each law names.
-/
import Derived.Test.YtbodlaiakcoabaaGreatDoorRowOwn
import Derived.Maps.AppendAt
import Derived.ArgAppend
import Derived.RegionTactic
import Derived.Handy
namespace Go.Proofs.YtbodlaiakcoabaaGreatDoor
open Go.RowKit

/-- A slice that was made since the heap was of size W, of capacity c; it reads as ys. -/
structure Made {α : Type} (W : Nat) (w : World) (s : Option Addr) (c m : Nat) (f : α → List Value) (ys : List α) : Prop where
  elems : Elems w w.heap.size s m f ys
  cap : ys.length ≤ c
  new : ys ≠ [] → ∃ g, s = some ⟨g, 0, none⟩ ∧ W ≤ g ∧ g < w.heap.size

section
variable {α : Type} {W W' m c : Nat} {w w' : World} {s : Option Addr} {f : α → List Value} {ys : List α} {S : Nat → Prop}
theorem Made.kept (h : Made W w s c m f ys) (hk : Kept S w w') (hS : ys ≠ [] → ∀ g, W ≤ g → g < w.heap.size → s = some ⟨g, 0, none⟩ → ¬ S g) : Made W w' s c m f ys := by
  have hz := hk.size
  refine ⟨⟨h.elems.1, fun i x hi => ?_⟩, h.cap, fun hne => ?_⟩
  · obtain ⟨g, off, e, hb, hc⟩ := h.elems.2 i x hi
    have hne : ys ≠ [] := by rintro rfl; simp at hi
    obtain ⟨g', e', hW, hlt⟩ := h.new hne
    rw [e] at e'
    simp only [Option.some.injEq, Addr.mk.injEq, and_true] at e'
    obtain ⟨rfl, rfl⟩ := e'
    exact ⟨g, 0, e, by omega, fun j v hj => (hk.cell hlt (hS hne g hW hlt e)).trans (hc j v hj)⟩
  · obtain ⟨g', e', hW, hlt⟩ := h.new hne
    exact ⟨g', e', hW, by omega⟩
theorem Made.since (h : Made W w s c m f ys) (hW : W' ≤ W) : Made W' w s c m f ys :=
  ⟨h.elems, h.cap, fun hne => by obtain ⟨g, e, h1, h2⟩ := h.new hne; exact ⟨g, e, by omega, h2⟩⟩
theorem Made.nil (W : Nat) (w : World) (s : Option Addr) (c m : Nat) (f : α → List Value) : Made W w s c m f [] := ⟨Elems.nil, by simp, fun h => absurd rfl h⟩

theorem Elems.cells {B : Nat} (hf : ∀ x, (f x).length = m) (h : Elems w B s m f ys) : ∀ ad, s = some ad → ∀ j u, (flat f ys)[j]? = some u → w.cell? (ad.add j) = some u := by
  intro ad hs j u hu
  have hlen := flat_len hf ys
  have hj : j < ys.length * m := by have := (List.getElem?_eq_some_iff.1 hu).1; omega
  have hm : 0 < m := by rcases Nat.eq_zero_or_pos m with h0 | h0; subst h0; omega; exact h0
  have hi : j / m < ys.length := (Nat.div_lt_iff_lt_mul hm).2 hj
  have hr : j % m < m := Nat.mod_lt _ hm
  obtain ⟨x, hx⟩ : ∃ x, ys[j / m]? = some x := ⟨_, List.getElem?_eq_getElem hi⟩
  have he : j / m * m + j % m = j := by rw [Nat.mul_comm]; exact Nat.div_add_mod j m
  have hfa := flat_at hf ys (j / m) (j % m) x hx hr
  rw [he, hu] at hfa
  obtain ⟨g, off, e, _, hc⟩ := h.2 (j / m) x hx
  rw [hs] at e
  simp only [Option.some.injEq] at e
  subst e
  have := hc (j % m) u hfa.symm
  rw [Addr.add_lit, ← this, Nat.add_assoc, he]

theorem ownsRow_base {base : Nat} {e : TypeId} {size : Nat} {v : Value} {n : Nat} {xs : List Value} (h : w.ownsRow base e size v n xs) : w.ownsRow 0 e size v n xs := by
  refine ⟨h.1, ?_⟩
  rcases h.2 with h2 | ⟨g, cap, cur, h3, _, h4⟩
  · exact .inl h2
  · exact .inr ⟨g, cap, cur, h3, Nat.zero_le _, h4⟩

theorem Made.of_own {base : Nat} {e : TypeId} {size n : Nat} {v : Value} (hf : ∀ x, (f x).length = size) (h : w.ownsRow base e size v n (flat f ys)) (hn : n = ys.length) (hm : ys.length ≤ maxLen) :
    ∃ s c, v = .slice s ys.length c ∧ Made base w s c size f ys := by
  subst hn
  rcases h.2 with ⟨rfl, h0⟩ | ⟨g, cap, cur, rfl, hb, hg, hc, _⟩
  · obtain rfl : ys = [] := List.eq_nil_of_length_eq_zero h0
    exact ⟨none, 0, rfl, Made.nil _ _ _ _ _ _⟩
  · have hlt : g < w.heap.size := (Array.getElem?_eq_some_iff.1 hg).1
    have hR : Row w g cap e size f ys := ownsRow_base h
    exact ⟨_, cap, rfl, (Elems.of_row hf hR hm).more (by omega), hc, fun _ => ⟨g, rfl, hb, hlt⟩⟩
end

section
variable {α : Type} {P : Program} (w : World) {f : α → List Value} {ys : List α}

/-- Onto a new empty slice. -/
theorem run_append_new (t ty e : TypeId) (i : TypeInfo) (z : Value) (size bytes : Nat) (ht : P.underlying t = some (.slice e)) (hi : P.info? e = some i) (hz : i.zero = some z)
    (hsize : i.size = size) (hby : i.bytes = bytes) (hzs : z.cells.size = size) (hsz : 0 < size) (hf : ∀ x, (f x).length = size) (g : Nat)
    (B : Nat) (A : Option Addr) (c : Nat) (hE : Elems w B A size f ys) (hbytes : ys.length * bytes ≤ 140737488355328) :
    ∃ A' c' w', (Builtin.append_ #[t, t] ty #[.slice (some ⟨g, 0, none⟩) 0 0, .slice A ys.length c]).run P w = .ok (.slice A' ys.length c') w' ∧ Made w.heap.size w' A' c' size f ys ∧ w.grownBy w' none := by
  have hg0 : w.grownBy w none := ⟨rfl, rfl, rfl, Nat.le_refl _, fun _ _ _ => rfl⟩
  by_cases h0 : ys = []
  · subst h0
    refine ⟨some ⟨g, 0, none⟩, 0, w, ?_, Made.nil _ _ _ _ _ _, hg0⟩
    cases A with
    | none => simp [Builtin.append_, run_underlying ht, sizeOf, typeInfo, hi, Builtin.lenOf, Builtin.firstCells, storeCells]
    | some ad => exact run_append_room_cells (P := P) w t ty e i ht hi g 0 0 0 ad 0 c [] (by simp) (by simp) (by simp) (by omega) (by simp) (by simp)
  · have hpos : 0 < ys.length := List.length_pos_iff.2 h0
    obtain ⟨x, hx⟩ : ∃ x, ys[0]? = some x := ⟨_, List.getElem?_eq_getElem hpos⟩
    obtain ⟨g1, off, rfl, _, _⟩ := hE.2 0 x hx
    obtain ⟨v', w', hrun, hown, hgrow⟩ := run_append_arg_grows (P := P) w t ty e i z size bytes ht hi hz hsize hby hzs hsz ⟨g, 0, none⟩ 0 0 [] (by simp) (by simp) ⟨g1, off, none⟩ ys.length c (flat f ys) (flat_len hf ys) (hE.cells hf _ rfl) (by omega) (by have := hE.1; omega) (by rw [Nat.zero_add]; exact hbytes)
    rw [List.nil_append, Nat.zero_add] at hown
    obtain ⟨s, c', rfl, hM⟩ := Made.of_own hf hown rfl hE.1
    exact ⟨s, c', w', hrun, hM, hgrow⟩

theorem step_append_new {ops : Array Oper} {o : Oper} {a : Act} {K : Act → World → Prop} {Q : Exit → Act → World → Prop} {E : Prop} (hgd : o.guard = none) (s x : Operand) (t : TypeId)
    (ho : o.op = .call { callee := .builtin .append, args := #[s, x], argTypes := #[t, t] })
    (e : TypeId) (i : TypeInfo) (z : Value) (size bytes : Nat) (ht : P.underlying t = some (.slice e)) (hi : P.info? e = some i) (hz : i.zero = some z)
    (hsize : i.size = size) (hby : i.bytes = bytes) (hzs : z.cells.size = size) (hsz : 0 < size) (hf : ∀ x, (f x).length = size) (g : Nat) (hs : a.eval s = .slice (some ⟨g, 0, none⟩) 0 0)
    (B : Nat) (A : Option Addr) (c : Nat) (hx : a.eval x = .slice A ys.length c) (hE : Elems w B A size f ys) (hbytes : ys.length * bytes ≤ 140737488355328)
    (h : ∀ A' c' w', Made w.heap.size w' A' c' size f ys → w.grownBy w' none → K (a.put o.dst (.slice A' ys.length c')) w') :
    if Region.wanted o (yielded ops a.tmps) = true then Oper.wp P o a w K Q else E := by
  have hw : Region.wanted o (yielded ops a.tmps) = true := by simp [Region.wanted, hgd]
  rw [if_pos hw]
  obtain ⟨A', c', w', hrun, h2, h3⟩ := run_append_new (P := P) w t o.type e i z size bytes ht hi hz hsize hby hzs hsz hf g B A c hE hbytes
  unfold Oper.wp execOp
  simp only [ho, resolve, invoke, builtin, Sem.run_bind, Sem.run_pure, Result.andThen_ok, List.map_toArray, List.map_cons, List.map_nil, hs, hx, hrun]
  exact h A' c' w' h2 h3

/-- Onto a row of the call's own. -/
theorem run_append_elems (base : Nat) (t ty e : TypeId) (i : TypeInfo) (z : Value) (size bytes : Nat) (ht : P.underlying t = some (.slice e)) (hi : P.info? e = some i) (hz : i.zero = some z)
    (hsize : i.size = size) (hby : i.bytes = bytes) (hzs : z.cells.size = size) (hsz : 0 < size) (hf : ∀ x, (f x).length = size) (h1 : ∀ u ∈ flat f ys, u.oneCell' = true)
    (v : Value) (n : Nat) (xs : List Value) (hown : w.ownsRow base e size v n xs)
    (B : Nat) (A : Option Addr) (c : Nat) (hE : Elems w B A size f ys) (h63 : n + ys.length ≤ maxLen) (hbytes : (n + ys.length) * bytes ≤ 140737488355328) (hbase : base ≤ w.heap.size) :
    ∃ v' w', (Builtin.append_ #[t, t] ty #[v, .slice A ys.length c]).run P w = .ok v' w' ∧ w'.ownsRow base e size v' (n + ys.length) (xs ++ flat f ys) ∧ w.grownBy w' v.ownBlock ∧ (v'.ownBlock = v.ownBlock ∨ v'.ownBlock = some w.heap.size) := by
  rcases A with _ | ad
  · obtain rfl : ys = [] := by
      rcases Nat.eq_zero_or_pos ys.length with h | h
      · exact List.eq_nil_of_length_eq_zero h
      · obtain ⟨x, hx⟩ : ∃ x, ys[0]? = some x := ⟨_, List.getElem?_eq_getElem h⟩
        obtain ⟨g, off, e, _⟩ := hE.2 0 x hx; cases e
    refine ⟨v, w, ?_, by simpa [flat] using hown, ⟨rfl, rfl, rfl, Nat.le_refl _, fun _ _ _ => rfl⟩, .inl rfl⟩
    rcases hown.2 with ⟨rfl, rfl⟩ | ⟨g, cap, cur, rfl, _, _, hnc, _⟩
    · simp [Builtin.append_, run_underlying ht, sizeOf, typeInfo, hi, Builtin.lenOf, Builtin.firstCells]
    · simp [Builtin.append_, run_underlying ht, sizeOf, typeInfo, hi, Builtin.lenOf, Builtin.firstCells, hnc, storeCells]
  · obtain ⟨v', w', hrun, h2, h3, _, h5⟩ := run_append_own_at (P := P) w base t ty e i z size bytes ht hi hz hsize hby hzs hsz v n xs hown ad ys.length c (flat f ys) (flat_len hf ys) (hE.cells hf ad rfl) h1 h63 hbytes hbase
    exact ⟨v', w', hrun, h2, h3, h5⟩

theorem step_append_elems {ops : Array Oper} {o : Oper} {a : Act} {K : Act → World → Prop} {Q : Exit → Act → World → Prop} {E : Prop} (hgd : o.guard = none) (s x : Operand) (t : TypeId)
    (ho : o.op = .call { callee := .builtin .append, args := #[s, x], argTypes := #[t, t] })
    (base : Nat) (e : TypeId) (i : TypeInfo) (z : Value) (size bytes : Nat) (ht : P.underlying t = some (.slice e)) (hi : P.info? e = some i) (hz : i.zero = some z)
    (hsize : i.size = size) (hby : i.bytes = bytes) (hzs : z.cells.size = size) (hsz : 0 < size) (hf : ∀ x, (f x).length = size) (h1 : ∀ u ∈ flat f ys, u.oneCell' = true)
    (v : Value) (n : Nat) (xs : List Value) (hs : a.eval s = v) (hown : w.ownsRow base e size v n xs)
    (B : Nat) (A : Option Addr) (c : Nat) (hx : a.eval x = .slice A ys.length c) (hE : Elems w B A size f ys) (h63 : n + ys.length ≤ maxLen) (hbytes : (n + ys.length) * bytes ≤ 140737488355328) (hbase : base ≤ w.heap.size)
    (h : ∀ v' w', w'.ownsRow base e size v' (n + ys.length) (xs ++ flat f ys) → w.grownBy w' v.ownBlock → (v'.ownBlock = v.ownBlock ∨ v'.ownBlock = some w.heap.size) → K (a.put o.dst v') w') :
    if Region.wanted o (yielded ops a.tmps) = true then Oper.wp P o a w K Q else E := by
  have hw : Region.wanted o (yielded ops a.tmps) = true := by simp [Region.wanted, hgd]
  rw [if_pos hw]
  obtain ⟨v', w', hrun, h2, h3, h4⟩ := run_append_elems (P := P) w base t o.type e i z size bytes ht hi hz hsize hby hzs hsz hf h1 v n xs hown B A c hE h63 hbytes hbase
  unfold Oper.wp execOp
  simp only [ho, resolve, invoke, builtin, Sem.run_bind, Sem.run_pure, Result.andThen_ok, List.map_toArray, List.map_cons, List.map_nil, hs, hx, hrun]
  exact h v' w' h2 h3 h4
end

section
variable {P : Program} (w : World)
theorem wpList_append_elems {α : Type} {f : α → List Value} {ys : List α} {ops : Array Oper} {rest : List Oper} {o : Oper} {a : Act} {Q : Exit → Act → World → Prop} (hgd : o.guard = none) (s x : Operand) (t : TypeId)
    (ho : o.op = .call { callee := .builtin .append, args := #[s, x], argTypes := #[t, t] })
    (base : Nat) (e : TypeId) (i : TypeInfo) (z : Value) (size bytes : Nat) (ht : P.underlying t = some (.slice e)) (hi : P.info? e = some i) (hz : i.zero = some z)
    (hsize : i.size = size) (hby : i.bytes = bytes) (hzs : z.cells.size = size) (hsz : 0 < size) (hf : ∀ x, (f x).length = size) (h1 : ∀ u ∈ flat f ys, u.oneCell' = true)
    (v : Value) (n : Nat) (xs : List Value) (hs : a.eval s = v) (hown : w.ownsRow base e size v n xs)
    (B : Nat) (A : Option Addr) (c : Nat) (hx : a.eval x = .slice A ys.length c) (hE : Elems w B A size f ys) (h63 : n + ys.length ≤ maxLen) (hbytes : (n + ys.length) * bytes ≤ 140737488355328) (hbase : base ≤ w.heap.size)
    (h : ∀ v' w', w'.ownsRow base e size v' (n + ys.length) (xs ++ flat f ys) → w.grownBy w' v.ownBlock → (v'.ownBlock = v.ownBlock ∨ v'.ownBlock = some w.heap.size) → wpList P ops Q rest (a.put o.dst v') w') : wpList P ops Q (o :: rest) a w := by
  refine wpList_plain hgd fun _ hK => ?_
  obtain ⟨v', w', hrun, h2, h3, h4⟩ := run_append_elems (P := P) w base t o.type e i z size bytes ht hi hz hsize hby hzs hsz hf h1 v n xs hown B A c hE h63 hbytes hbase
  unfold Oper.wp execOp
  simp only [ho, resolve, invoke, builtin, Sem.run_bind, Sem.run_pure, Result.andThen_ok, List.map_toArray, List.map_cons, List.map_nil, hs, hx, hrun]
  exact hK _ _ (h v' w' h2 h3 h4)
end

end Go.Proofs.YtbodlaiakcoabaaGreatDoor
