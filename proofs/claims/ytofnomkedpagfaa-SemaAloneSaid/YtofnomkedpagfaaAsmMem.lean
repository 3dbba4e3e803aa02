/-
  What the document's find of layer 8 comes to; labels in memory.
  Conditions: the labels are at most maxLen.
  An append of a slice that reads as a list: onto a new empty slice, and onto a row of the call's own.
  Conditions: the bounds on lengths that each law names.
  Code and labels in memory, two rows of the call's own; what the loops of layer 8's document have done so far.
  Conditions: none.
-/
import Derived.Test.YtofnomkedpagfaaLineMem
import Derived.Test.YtofnomkedpagfaaRowOwn
import Derived.Test.YtofnomkedpagfaaAsmLines
import Derived.Maps.AppendAt
import Derived.ArgAppend
import Derived.RegionTactic
import Derived.Handy
section
namespace Go.Proofs.Ytofnomkedpagfaa
open Go.RowKit

/-- A label's cells. -/
def labC (p : Str × Nat) : List Value := [.string (strS p.1), .int .i64 p.2]
theorem labC_two : ∀ x, (labC x).length = 2 := fun _ => rfl
theorem labC_flat (xs ys : Labs) : flat labC (xs ++ ys) = flat labC xs ++ flat labC ys := by simp [flat]
theorem labC_cell (xs : Labs) : ∀ u ∈ flat labC xs, u.oneCell' = true := by
  intro u hu
  simp only [flat, List.mem_flatMap, labC, List.mem_cons, List.not_mem_nil, or_false] at hu
  obtain ⟨x, _, h | h⟩ := hu <;> subst h <;> rfl
/-- A name's place, or -1. -/
def placeA (l : Labs) (n : Str) : Int := match findA l n with
  | some k => (k : Int)
  | none => -1
theorem find_at {l : Labs} {n : Str} {i : Nat} {p : Str × Nat} (h : l[i]? = some p) (hp : p.1 = n) (hno : ∀ j q, j < i → l[j]? = some q → q.1 ≠ n) : placeA l n = p.2 := by
  have : l.find? (fun p => decide (p.1 = n)) = some p := by
    rw [List.find?_eq_some_iff_getElem]
    obtain ⟨h1, h2⟩ := List.getElem?_eq_some_iff.1 h
    refine ⟨by simpa using hp, i, h1, h2, fun j hj => ?_⟩
    have := hno j l[j] hj (List.getElem?_eq_getElem (by omega))
    simpa using this
  unfold placeA findA
  rw [this]
  rfl
theorem find_no {l : Labs} {n : Str} (hno : ∀ j q, j < l.length → l[j]? = some q → q.1 ≠ n) : placeA l n = -1 := by
  have : l.find? (fun p => decide (p.1 = n)) = none := by
    rw [List.find?_eq_none]
    intro q hq
    obtain ⟨j, hj⟩ := List.getElem?_of_mem hq
    have := hno j q (List.getElem?_eq_some_iff.1 hj).1 hj
    simpa using this
  unfold placeA findA
  rw [this]
  rfl

set_option maxHeartbeats 2000000 in
theorem refFind_any (l : Labs) (sl : Option Addr) (cap B : Nat) (name : ByteArray) (w : World) (hE : Elems w B sl 2 labC l) {n : Nat} (hn : l.length = n) :
    Calls Try.prog 33 #[.slice sl n cap, .string name] w fun e w' => e = .returned (.int .i64 (placeA l (bytesS name))) ∧ w' = w := by
  have HE := Lib.hid hE
  have HM : Hid (n ≤ maxLen) := Lib.hid (by rw [← hn]; exact hE.1)
  have hn63 : (n : Int) ≤ 9223372036854775807 := by have := HM.out; unfold maxLen at this; omega
  have HN := Lib.hid hn
  clear hE hn
  go_enter Try.func33, Try.ntmps33
  go_wp2_with fail
  go_loop [5] (fun i => ∃ k : Nat, i = .int .i64 k ∧ k ≤ n ∧ ∀ j q, j < k → l[j]? = some q → q.1 ≠ bytesS name) (fun i => n - (intOf i).toNat)
  case atStart => exact ⟨0, rfl, by omega, fun j q h => by omega⟩
  case round =>
    obtain ⟨k, rfl, hk, hno⟩ := hrel
    have HNO := Lib.hid hno
    clear hno
    by_cases hkn : k < n
    case neg =>
      obtain rfl : k = n := by omega
      have HR : Hid (placeA l (bytesS name) = -1) := Lib.hid (find_no (fun j q h => HNO.out j q (by rw [← HN.out]; exact h)))
      go_wp2_with fail
      go_ret
      exact ⟨by rw [HR.out]; rfl, rfl⟩
    obtain ⟨p, hp⟩ : ∃ p, l[k]? = some p := ⟨_, List.getElem?_eq_getElem (by rw [HN.out]; exact hkn)⟩
    obtain ⟨g, off, rfl, hg, hc⟩ := HE.out.2 k p hp
    have x0 : w.cell? ⟨g, off + k * 2, none⟩ = some (.string (strS p.1)) := hc 0 _ rfl
    have x1 : w.cell? ⟨g, off + k * 2 + 1, none⟩ = some (.int .i64 p.2) := hc 1 _ rfl
    have hst := str_eq (strS p.1) (bytesS name)
    rw [strS_bytes, bytesS_str] at hst
    have HP := Lib.hid hp
    clear hc hp
    by_cases hq : p.1 = bytesS name
    · rw [decide_eq_true hq] at hst
      have HR : Hid (placeA l (bytesS name) = p.2) := Lib.hid (find_at HP.out hq HNO.out)
      clear hq
      go_wp2_with fail
      go_ret
      exact ⟨by rw [HR.out]; rfl, rfl⟩
    · rw [decide_eq_false hq] at hst
      have HR : Hid (∀ j q, j < k + 1 → l[j]? = some q → q.1 ≠ bytesS name) := Lib.hid (fun j q h1 h2 => by
        rcases Nat.lt_or_ge j k with h | h
        · exact HNO.out j q h h2
        · obtain rfl : j = k := by omega
          rw [HP.out] at h2
          obtain rfl := Option.some.inj h2
          exact hq)
      clear hq
      go_wp2_with fail
      go_round
      case rel => exact ⟨k + 1, by go_num, by omega, HR.out⟩
      case measure => simp [intOf]; omega

end Go.Proofs.Ytofnomkedpagfaa
end
section
namespace Go.Proofs.Ytofnomkedpagfaa
open Go.RowKit

/-- A slice that was made since the heap was of size W, of capacity c; it reads as ys. -/
structure Made {α : Type} (W : Nat) (w : World) (s : Option Addr) (c m : Nat) (f : α → List Value) (ys : List α) : Prop where
  elems : Elems w w.heap.size s m f ys
  cap : ys.length ≤ c
  new : ys ≠ [] → ∃ g, s = some ⟨g, 0, none⟩ ∧ W ≤ g ∧ g < w.heap.size

section
variable {α : Type} {W W' m c : Nat} {w w' : World} {s : Option Addr} {f : α → List Value} {ys : List α} {S : Nat → Prop}
theorem Made.kept (h : Made W w s c m f ys) (hk : Kept S w w') (hS : ys ≠ [] → ∀ g, W ≤ g → g < w.heap.size → s = some ⟨g, 0, none⟩ → ¬ S g) : Made W w' s c m f ys := by
  have hz := hk.size
  refine ⟨⟨h.elems.1, fun i x hi => ?_⟩, h.cap, fun hne => ?_⟩
  · obtain ⟨g, off, e, hb, hc⟩ := h.elems.2 i x hi
    have hne : ys ≠ [] := by rintro rfl; simp at hi
    obtain ⟨g', e', hW, hlt⟩ := h.new hne
    rw [e] at e'
    simp only [Option.some.injEq, Addr.mk.injEq, and_true] at e'
    obtain ⟨rfl, rfl⟩ := e'
    exact ⟨g, 0, e, by omega, fun j v hj => (hk.cell hlt (hS hne g hW hlt e)).trans (hc j v hj)⟩
  · obtain ⟨g', e', hW, hlt⟩ := h.new hne
    exact ⟨g', e', hW, by omega⟩
theorem Made.since (h : Made W w s c m f ys) (hW : W' ≤ W) : Made W' w s c m f ys :=
  ⟨h.elems, h.cap, fun hne => by obtain ⟨g, e, h1, h2⟩ := h.new hne; exact ⟨g, e, by omega, h2⟩⟩
theorem Made.nil (W : Nat) (w : World) (s : Option Addr) (c m : Nat) (f : α → List Value) : Made W w s c m f [] := ⟨Elems.nil, by simp, fun h => absurd rfl h⟩

theorem Elems.cells {B : Nat} (hf : ∀ x, (f x).length = m) (h : Elems w B s m f ys) : ∀ ad, s = some ad → ∀ j u, (flat f ys)[j]? = some u → w.cell? (ad.add j) = some u := by
  intro ad hs j u hu
  have hlen := flat_len hf ys
  have hj : j < ys.length * m := by have := (List.getElem?_eq_some_iff.1 hu).1; omega
  have hm : 0 < m := by rcases Nat.eq_zero_or_pos m with h0 | h0; subst h0; omega; exact h0
  have hi : j / m < ys.length := (Nat.div_lt_iff_lt_mul hm).2 hj
  have hr : j % m < m := Nat.mod_lt _ hm
  obtain ⟨x, hx⟩ : ∃ x, ys[j / m]? = some x := ⟨_, List.getElem?_eq_getElem hi⟩
  have he : j / m * m + j % m = j := by rw [Nat.mul_comm]; exact Nat.div_add_mod j m
  have hfa := flat_at hf ys (j / m) (j % m) x hx hr
  rw [he, hu] at hfa
  obtain ⟨g, off, e, _, hc⟩ := h.2 (j / m) x hx
  rw [hs] at e
  simp only [Option.some.injEq] at e
  subst e
  have := hc (j % m) u hfa.symm
  rw [Addr.add_lit, ← this, Nat.add_assoc, he]

theorem ownsRow_base {base : Nat} {e : TypeId} {size : Nat} {v : Value} {n : Nat} {xs : List Value} (h : w.ownsRow base e size v n xs) : w.ownsRow 0 e size v n xs := by
  refine ⟨h.1, ?_⟩
  rcases h.2 with h2 | ⟨g, cap, cur, h3, _, h4⟩
  · exact .inl h2
  · exact .inr ⟨g, cap, cur, h3, Nat.zero_le _, h4⟩

theorem Made.of_own {base : Nat} {e : TypeId} {size n : Nat} {v : Value} (hf : ∀ x, (f x).length = size) (h : w.ownsRow base e size v n (flat f ys)) (hn : n = ys.length) (hm : ys.length ≤ maxLen) :
    ∃ s c, v = .slice s ys.length c ∧ Made base w s c size f ys := by
  subst hn
  rcases h.2 with ⟨rfl, h0⟩ | ⟨g, cap, cur, rfl, hb, hg, hc, _⟩
  · obtain rfl : ys = [] := List.eq_nil_of_length_eq_zero h0
    exact ⟨none, 0, rfl, Made.nil _ _ _ _ _ _⟩
  · have hlt : g < w.heap.size := (Array.getElem?_eq_some_iff.1 hg).1
    have hR : Row w g cap e size f ys := ownsRow_base h
    exact ⟨_, cap, rfl, (Elems.of_row hf hR hm).more (by omega), hc, fun _ => ⟨g, rfl, hb, hlt⟩⟩
end

section
variable {α : Type} {P : Program} (w : World) {f : α → List Value} {ys : List α}

/-- Onto a new empty slice. -/
theorem run_append_new (t ty e : TypeId) (i : TypeInfo) (z : Value) (size bytes : Nat) (ht : P.underlying t = some (.slice e)) (hi : P.info? e = some i) (hz : i.zero = some z)
    (hsize : i.size = size) (hby : i.bytes = bytes) (hzs : z.cells.size = size) (hsz : 0 < size) (hf : ∀ x, (f x).length = size) (g : Nat)
    (B : Nat) (A : Option Addr) (c : Nat) (hE : Elems w B A size f ys) (hbytes : ys.length * bytes ≤ 140737488355328) :
    ∃ A' c' w', (Builtin.append_ #[t, t] ty #[.slice (some ⟨g, 0, none⟩) 0 0, .slice A ys.length c]).run P w = .ok (.slice A' ys.length c') w' ∧ Made w.heap.size w' A' c' size f ys ∧ w.grownBy w' none := by
  have hg0 : w.grownBy w none := ⟨rfl, rfl, rfl, Nat.le_refl _, fun _ _ _ => rfl⟩
  by_cases h0 : ys = []
  · subst h0
    refine ⟨some ⟨g, 0, none⟩, 0, w, ?_, Made.nil _ _ _ _ _ _, hg0⟩
    cases A with
    | none => simp [Builtin.append_, run_underlying ht, sizeOf, typeInfo, hi, Builtin.lenOf, Builtin.firstCells, storeCells]
    | some ad => exact run_append_room_cells (P := P) w t ty e i ht hi g 0 0 0 ad 0 c [] (by simp) (by simp) (by simp) (by omega) (by simp) (by simp)
  · have hpos : 0 < ys.length := List.length_pos_iff.2 h0
    obtain ⟨x, hx⟩ : ∃ x, ys[0]? = some x := ⟨_, List.getElem?_eq_getElem hpos⟩
    obtain ⟨g1, off, rfl, _, _⟩ := hE.2 0 x hx
    obtain ⟨v', w', hrun, hown, hgrow⟩ := run_append_arg_grows (P := P) w t ty e i z size bytes ht hi hz hsize hby hzs hsz ⟨g, 0, none⟩ 0 0 [] (by simp) (by simp) ⟨g1, off, none⟩ ys.length c (flat f ys) (flat_len hf ys) (hE.cells hf _ rfl) (by omega) (by have := hE.1; omega) (by rw [Nat.zero_add]; exact hbytes)
    rw [List.nil_append, Nat.zero_add] at hown
    obtain ⟨s, c', rfl, hM⟩ := Made.of_own hf hown rfl hE.1
    exact ⟨s, c', w', hrun, hM, hgrow⟩

theorem step_append_new {ops : Array Oper} {o : Oper} {a : Act} {K : Act → World → Prop} {Q : Exit → Act → World → Prop} {E : Prop} (hgd : o.guard = none) (s x : Operand) (t : TypeId)
    (ho : o.op = .call { callee := .builtin .append, args := #[s, x], argTypes := #[t, t] })
    (e : TypeId) (i : TypeInfo) (z : Value) (size bytes : Nat) (ht : P.underlying t = some (.slice e)) (hi : P.info? e = some i) (hz : i.zero = some z)
    (hsize : i.size = size) (hby : i.bytes = bytes) (hzs : z.cells.size = size) (hsz : 0 < size) (hf : ∀ x, (f x).length = size) (g : Nat) (hs : a.eval s = .slice (some ⟨g, 0, none⟩) 0 0)
    (B : Nat) (A : Option Addr) (c : Nat) (hx : a.eval x = .slice A ys.length c) (hE : Elems w B A size f ys) (hbytes : ys.length * bytes ≤ 140737488355328)
    (h : ∀ A' c' w', Made w.heap.size w' A' c' size f ys → w.grownBy w' none → K (a.put o.dst (.slice A' ys.length c')) w') :
    if Region.wanted o (yielded ops a.tmps) = true then Oper.wp P o a w K Q else E := by
  have hw : Region.wanted o (yielded ops a.tmps) = true := by simp [Region.wanted, hgd]
  rw [if_pos hw]
  obtain ⟨A', c', w', hrun, h2, h3⟩ := run_append_new (P := P) w t o.type e i z size bytes ht hi hz hsize hby hzs hsz hf g B A c hE hbytes
  unfold Oper.wp execOp
  simp only [ho, resolve, invoke, builtin, Sem.run_bind, Sem.run_pure, Result.andThen_ok, List.map_toArray, List.map_cons, List.map_nil, hs, hx, hrun]
  exact h A' c' w' h2 h3

/-- Onto a row of the call's own. -/
theorem run_append_elems (base : Nat) (t ty e : TypeId) (i : TypeInfo) (z : Value) (size bytes : Nat) (ht : P.underlying t = some (.slice e)) (hi : P.info? e = some i) (hz : i.zero = some z)
    (hsize : i.size = size) (hby : i.bytes = bytes) (hzs : z.cells.size = size) (hsz : 0 < size) (hf : ∀ x, (f x).length = size) (h1 : ∀ u ∈ flat f ys, u.oneCell' = true)
    (v : Value) (n : Nat) (xs : List Value) (hown : w.ownsRow base e size v n xs)
    (B : Nat) (A : Option Addr) (c : Nat) (hE : Elems w B A size f ys) (h63 : n + ys.length ≤ maxLen) (hbytes : (n + ys.length) * bytes ≤ 140737488355328) (hbase : base ≤ w.heap.size) :
    ∃ v' w', (Builtin.append_ #[t, t] ty #[v, .slice A ys.length c]).run P w = .ok v' w' ∧ w'.ownsRow base e size v' (n + ys.length) (xs ++ flat f ys) ∧ w.grownBy w' v.ownBlock ∧ (v'.ownBlock = v.ownBlock ∨ v'.ownBlock = some w.heap.size) := by
  rcases A with _ | ad
  · obtain rfl : ys = [] := by
      rcases Nat.eq_zero_or_pos ys.length with h | h
      · exact List.eq_nil_of_length_eq_zero h
      · obtain ⟨x, hx⟩ : ∃ x, ys[0]? = some x := ⟨_, List.getElem?_eq_getElem h⟩
        obtain ⟨g, off, e, _⟩ := hE.2 0 x hx; cases e
    refine ⟨v, w, ?_, by simpa [flat] using hown, ⟨rfl, rfl, rfl, Nat.le_refl _, fun _ _ _ => rfl⟩, .inl rfl⟩
    rcases hown.2 with ⟨rfl, rfl⟩ | ⟨g, cap, cur, rfl, _, _, hnc, _⟩
    · simp [Builtin.append_, run_underlying ht, sizeOf, typeInfo, hi, Builtin.lenOf, Builtin.firstCells]
    · simp [Builtin.append_, run_underlying ht, sizeOf, typeInfo, hi, Builtin.lenOf, Builtin.firstCells, hnc, storeCells]
  · obtain ⟨v', w', hrun, h2, h3, _, h5⟩ := run_append_own_at (P := P) w base t ty e i z size bytes ht hi hz hsize hby hzs hsz v n xs hown ad ys.length c (flat f ys) (flat_len hf ys) (hE.cells hf ad rfl) h1 h63 hbytes hbase
    exact ⟨v', w', hrun, h2, h3, h5⟩

theorem step_append_elems {ops : Array Oper} {o : Oper} {a : Act} {K : Act → World → Prop} {Q : Exit → Act → World → Prop} {E : Prop} (hgd : o.guard = none) (s x : Operand) (t : TypeId)
    (ho : o.op = .call { callee := .builtin .append, args := #[s, x], argTypes := #[t, t] })
    (base : Nat) (e : TypeId) (i : TypeInfo) (z : Value) (size bytes : Nat) (ht : P.underlying t = some (.slice e)) (hi : P.info? e = some i) (hz : i.zero = some z)
    (hsize : i.size = size) (hby : i.bytes = bytes) (hzs : z.cells.size = size) (hsz : 0 < size) (hf : ∀ x, (f x).length = size) (h1 : ∀ u ∈ flat f ys, u.oneCell' = true)
    (v : Value) (n : Nat) (xs : List Value) (hs : a.eval s = v) (hown : w.ownsRow base e size v n xs)
    (B : Nat) (A : Option Addr) (c : Nat) (hx : a.eval x = .slice A ys.length c) (hE : Elems w B A size f ys) (h63 : n + ys.length ≤ maxLen) (hbytes : (n + ys.length) * bytes ≤ 140737488355328) (hbase : base ≤ w.heap.size)
    (h : ∀ v' w', w'.ownsRow base e size v' (n + ys.length) (xs ++ flat f ys) → w.grownBy w' v.ownBlock → (v'.ownBlock = v.ownBlock ∨ v'.ownBlock = some w.heap.size) → K (a.put o.dst v') w') :
    if Region.wanted o (yielded ops a.tmps) = true then Oper.wp P o a w K Q else E := by
  have hw : Region.wanted o (yielded ops a.tmps) = true := by simp [Region.wanted, hgd]
  rw [if_pos hw]
  obtain ⟨v', w', hrun, h2, h3, h4⟩ := run_append_elems (P := P) w base t o.type e i z size bytes ht hi hz hsize hby hzs hsz hf h1 v n xs hown B A c hE h63 hbytes hbase
  unfold Oper.wp execOp
  simp only [ho, resolve, invoke, builtin, Sem.run_bind, Sem.run_pure, Result.andThen_ok, List.map_toArray, List.map_cons, List.map_nil, hs, hx, hrun]
  exact h v' w' h2 h3 h4
end

section
variable {P : Program} (w : World)
theorem wpList_append_elems {α : Type} {f : α → List Value} {ys : List α} {ops : Array Oper} {rest : List Oper} {o : Oper} {a : Act} {Q : Exit → Act → World → Prop} (hgd : o.guard = none) (s x : Operand) (t : TypeId)
    (ho : o.op = .call { callee := .builtin .append, args := #[s, x], argTypes := #[t, t] })
    (base : Nat) (e : TypeId) (i : TypeInfo) (z : Value) (size bytes : Nat) (ht : P.underlying t = some (.slice e)) (hi : P.info? e = some i) (hz : i.zero = some z)
    (hsize : i.size = size) (hby : i.bytes = bytes) (hzs : z.cells.size = size) (hsz : 0 < size) (hf : ∀ x, (f x).length = size) (h1 : ∀ u ∈ flat f ys, u.oneCell' = true)
    (v : Value) (n : Nat) (xs : List Value) (hs : a.eval s = v) (hown : w.ownsRow base e size v n xs)
    (B : Nat) (A : Option Addr) (c : Nat) (hx : a.eval x = .slice A ys.length c) (hE : Elems w B A size f ys) (h63 : n + ys.length ≤ maxLen) (hbytes : (n + ys.length) * bytes ≤ 140737488355328) (hbase : base ≤ w.heap.size)
    (h : ∀ v' w', w'.ownsRow base e size v' (n + ys.length) (xs ++ flat f ys) → w.grownBy w' v.ownBlock → (v'.ownBlock = v.ownBlock ∨ v'.ownBlock = some w.heap.size) → wpList P ops Q rest (a.put o.dst v') w') : wpList P ops Q (o :: rest) a w := by
  refine wpList_plain hgd fun _ hK => ?_
  obtain ⟨v', w', hrun, h2, h3, h4⟩ := run_append_elems (P := P) w base t o.type e i z size bytes ht hi hz hsize hby hzs hsz hf h1 v n xs hown B A c hE h63 hbytes hbase
  unfold Oper.wp execOp
  simp only [ho, resolve, invoke, builtin, Sem.run_bind, Sem.run_pure, Result.andThen_ok, List.map_toArray, List.map_cons, List.map_nil, hs, hx, hrun]
  exact hK _ _ (h v' w' h2 h3 h4)
end

end Go.Proofs.Ytofnomkedpagfaa
end
section
namespace Go.Proofs.Ytofnomkedpagfaa
open Go.RowKit

/-- An instruction's cells. -/
def insC (x : Ln) : List Value := [.int .i64 x.op, .int .i64 x.a, .int .i64 x.b, .int .i64 x.c, .int .i64 x.n]
theorem insC_five : ∀ x, (insC x).length = 5 := fun _ => rfl
theorem insC_flat (xs ys : List Ln) : flat insC (xs ++ ys) = flat insC xs ++ flat insC ys := by simp [flat]
theorem insC_cell (xs : List Ln) : ∀ u ∈ flat insC xs, u.oneCell' = true := by
  intro u hu
  simp only [flat, List.mem_flatMap, insC, List.mem_cons, List.not_mem_nil, or_false] at hu
  obtain ⟨x, _, h | h | h | h | h⟩ := hu <;> subst h <;> rfl
theorem insC_target (x : Ln) (t : Str) : insC { x with target := t } = insC x := rfl

/-- Two rows of the call's own, apart: instructions and labels. -/
structure Two (B : Nat) (w : World) (v u : Value) (c : List Ln) (l : Labs) : Prop where
  code : w.ownsRow B 87 5 v c.length (flat insC c)
  labs : w.ownsRow B 93 2 u l.length (flat labC l)
  apart : ∀ g, v.ownBlock = some g → u.ownBlock ≠ some g
section
variable {B : Nat} {w w' : World} {v u v' u' : Value} {c c' : List Ln} {l l' : Labs}
theorem Two.nil (B : Nat) (w : World) : Two B w (.slice none 0 0) (.slice none 0 0) [] [] := ⟨World.ownsRow_nil _ _ _ _, World.ownsRow_nil _ _ _ _, fun g h => by cases h⟩
theorem Two.grown (h : Two B w v u c l) (hg : w.grownBy w' none) : Two B w' v u c l :=
  ⟨h.code.kept hg (by cases v.ownBlock <;> simp), h.labs.kept hg (by cases u.ownBlock <;> simp), h.apart⟩
theorem Kept.grows (hk : Kept (fun _ => False) w w') : w.grownBy w' none := ⟨hk.os, hk.tape, hk.output, hk.size, fun k hk' _ => hk.block k hk' (fun f => f)⟩
theorem Two.kept (h : Two B w v u c l) (hk : Kept (fun _ => False) w w') : Two B w' v u c l := h.grown hk.grows
/-- Behind an append to the code. -/
theorem Two.code_more (h : Two B w v u c l) (h1 : w'.ownsRow B 87 5 v' c'.length (flat insC c')) (hg : w.grownBy w' v.ownBlock) (ho : v'.ownBlock = v.ownBlock ∨ v'.ownBlock = some w.heap.size) : Two B w' v' u c' l := by
  refine ⟨h1, h.labs.kept hg ?_, fun g hgv hgu => ?_⟩
  · cases e : u.ownBlock with
    | none => exact .inl rfl
    | some k => exact .inr (fun e2 => h.apart k e2.symm e)
  · rcases ho with ho | ho
    · exact h.apart g (by rw [← ho]; exact hgv) hgu
    · rw [ho] at hgv
      have := (h.labs.lt g hgu).2
      obtain rfl := Option.some.inj hgv
      omega
/-- Behind an append to the labels. -/
theorem Two.labs_more (h : Two B w v u c l) (h1 : w'.ownsRow B 93 2 u' l'.length (flat labC l')) (hg : w.grownBy w' u.ownBlock) (ho : u'.ownBlock = u.ownBlock ∨ u'.ownBlock = some w.heap.size) : Two B w' v u' c l' := by
  refine ⟨h.code.kept hg ?_, h1, fun g hgv hgu => ?_⟩
  · cases e : v.ownBlock with
    | none => exact .inl rfl
    | some k => exact .inr (fun e2 => h.apart k e e2.symm)
  · rcases ho with ho | ho
    · exact h.apart g hgv (by rw [← ho]; exact hgu)
    · rw [ho] at hgu
      have := (h.code.lt g hgv).2
      obtain rfl := Option.some.inj hgu
      omega
end

/-- What Assemble leaves. -/
def AsmTo (w : World) (r : Except (Nat × Nat) (List Ln × Labs)) (e : Ending) (w' : World) : Prop :=
  Kept (fun _ => False) w w' ∧ match r with
    | .error p => e = .returned (.tuple #[.slice none 0 0, .slice none 0 0, .int .i64 p.1, .int .i64 p.2])
    | .ok p => ∃ v u, e = .returned (.tuple #[v, u, .int .i64 0, .int .i64 (-1)]) ∧ Two w.heap.size w' v u p.1 p.2

/-! ### What the loops have done -/
/-- The lines' instructions. -/
def opsL (ls : List Str) : List Ln := ls.filterMap (fun s => (parseL s).bind (fun x => if 0 < x.op then some x else none))
theorem one_ops : ∀ (ls : List Str) (i : Nat) (c : List Ln) (l : Labs) (c' : List Ln) (l' : Labs), oneA i ls c l = .ok (c', l') → c' = c ++ opsL ls ∧ ∀ s ∈ ls, ∃ x, parseL s = some x
  | [], i, c, l, c', l', h => by
    unfold oneA at h
    injection h with h; injection h with h1 h2; subst h1
    exact ⟨by simp [opsL], fun s hs => by cases hs⟩
  | s :: r, i, c, l, c', l', h => by
    rw [one_cons] at h
    cases e : parseL s with
    | none => rw [e] at h; cases h
    | some x =>
      rw [e] at h
      dsimp only at h
      split at h
      · cases h
      split at h
      · cases h
      obtain ⟨h1, h2⟩ := one_ops r _ _ _ _ _ h
      refine ⟨?_, fun t ht => ?_⟩
      · rw [h1]
        by_cases hx : 0 < x.op
        · rw [if_pos hx]; simp [opsL, e, hx]
        · rw [if_neg hx]; simp [opsL, e, hx]
      · rcases List.mem_cons.1 ht with rfl | ht
        · exact ⟨x, e⟩
        · exact h2 t ht
/-- The code, when so many lines are through: what they hold has its places. -/
def midA (ls : List Str) (l : Labs) (i : Nat) : List Ln := (opsL (ls.take i)).map (fixA l) ++ opsL (ls.drop i)
theorem mid_zero (ls : List Str) (l : Labs) : midA ls l 0 = opsL ls := by simp [midA, opsL]
theorem mid_end (ls : List Str) (l : Labs) : midA ls l ls.length = (opsL ls).map (fixA l) := by simp [midA, opsL]
theorem ops_snoc {ls : List Str} {i : Nat} {s : Str} {x : Ln} (h : ls[i]? = some s) (hx : parseL s = some x) : opsL (ls.take (i + 1)) = opsL (ls.take i) ++ if 0 < x.op then [x] else [] := by
  have hi := (List.getElem?_eq_some_iff.1 h).1
  rw [List.take_succ_eq_append_getElem hi, (List.getElem?_eq_some_iff.1 h).2]
  unfold opsL
  rw [List.filterMap_append]
  by_cases h0 : 0 < x.op <;> simp [hx, h0]
theorem ops_drop {ls : List Str} {i : Nat} {s : Str} {x : Ln} (h : ls[i]? = some s) (hx : parseL s = some x) : opsL (ls.drop i) = (if 0 < x.op then [x] else []) ++ opsL (ls.drop (i + 1)) := by
  have hi := (List.getElem?_eq_some_iff.1 h).1
  rw [List.drop_eq_getElem_cons hi, (List.getElem?_eq_some_iff.1 h).2]
  unfold opsL
  by_cases h0 : 0 < x.op <;> simp [hx, h0]
/-- A line that is no instruction: the code stays. -/
theorem mid_skip {ls : List Str} {l : Labs} {i : Nat} {s : Str} {x : Ln} (h : ls[i]? = some s) (hx : parseL s = some x) (h0 : ¬ 0 < x.op) : midA ls l (i + 1) = midA ls l i := by
  unfold midA
  rw [ops_snoc h hx, ops_drop h hx, if_neg h0]
  simp
/-- One that is: it gets its place. -/
theorem mid_next {ls : List Str} {l : Labs} {i : Nat} {s : Str} {x : Ln} (h : ls[i]? = some s) (hx : parseL s = some x) (h0 : 0 < x.op) :
    (midA ls l i)[(opsL (ls.take i)).length]? = some x ∧ midA ls l (i + 1) = (midA ls l i).set (opsL (ls.take i)).length (fixA l x) := by
  have e1 : midA ls l i = (opsL (ls.take i)).map (fixA l) ++ x :: opsL (ls.drop (i + 1)) := by
    unfold midA
    rw [ops_drop h hx, if_pos h0]
    rfl
  have e2 : midA ls l (i + 1) = (opsL (ls.take i)).map (fixA l) ++ fixA l x :: opsL (ls.drop (i + 1)) := by
    unfold midA
    rw [ops_snoc h hx, if_pos h0]
    simp
  rw [e1, e2]
  refine ⟨by rw [List.getElem?_append_right (by simp)]; simp, ?_⟩
  rw [List.set_append_right _ _ (by simp)]
  simp
theorem fix_cells {l : Labs} {x : Ln} {k : Nat} (ht : x.target ≠ []) (hk : findA l x.target = some k) : insC (fixA l x) = (insC x).set 4 (.int .i64 k) := by
  unfold fixA
  rw [if_pos ht, hk]
  rfl
theorem fix_same {l : Labs} {x : Ln} (ht : x.target = []) : fixA l x = x := by unfold fixA; rw [if_neg (by simp [ht])]

end Go.Proofs.Ytofnomkedpagfaa
end
