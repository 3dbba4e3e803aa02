/-
  Events appended to a slice of the call's own.
  Conditions: none.
  'append(append([]api.Event{}, l...), e)' in a drawn region, step by step.
  Conditions: none.
  A drawn region whose appends consume what stood ahead of them, by a condition that each operation keeps; frames by their slots.
  Conditions: none; these are lemmas for the walks.
  Events appended to a row of the call's own, in an ordered region; such a row read as a list; what Run tells, in one form.
  Conditions: none; these are lemmas for the walks.
-/
import Derived.Test.YtbodlaiakcoabaaGreatDoorRepPend
import Derived.Test.YtbodlaiakcoabaaGreatDoorRepNext
import Derived.Test.YtbodlaiakcoabaaGreatDoorRepLaid
import Derived.Test.YtbodlaiakcoabaaGreatDoorRepInv
section
namespace Go.Proofs.YtbodlaiakcoabaaGreatDoor
open Go.RowKit
set_option linter.unusedSimpArgs false
set_option linter.unusedVariables false
set_option maxRecDepth 100000

theorem Ev.seven (e : Ev) : e.cells.length = 7 := rfl
theorem ev_cell1 (xs : List Ev) : ∀ u ∈ flat Ev.cells xs, u.oneCell' = true := by
  intro u hu
  simp only [flat, List.mem_flatMap, Ev.cells, List.mem_cons, List.not_mem_nil, or_false] at hu
  obtain ⟨x, _, h | h | h | h | h | h | h⟩ := hu <;> subst h <;> rfl
theorem box3_cells {w4 : World} {g : Nat} {T : TypeId} {a b c : Value} (h : w4.heap[g]? = some (.cells #[a, b, c] T (0, 0))) : w4.cell? ⟨g, 0, none⟩ = some a ∧ w4.cell? ⟨g, 1, none⟩ = some b ∧ w4.cell? ⟨g, 2, none⟩ = some c :=
  ⟨by rw [cell_at w4 _ 0 _ _ h]; rfl, by rw [cell_at w4 _ 1 _ _ h]; rfl, by rw [cell_at w4 _ 2 _ _ h]; rfl⟩
@[reducible] def zeroEv : Value := .agg #[.int .i64 0, .int .i64 0, .int .i64 0, .int .i64 0, .int .i64 0, .int .i64 0, .int .i64 0]
theorem info_ev : (Tryz.prog.info? 38).map (fun i => (i.zero, i.size, i.bytes)) = some (some zeroEv, 7, 56) := by kernel_rfl
/-- Run at a history that may not be. -/
theorem run_not {k : Nat} (x : Sc) (L : List Ev) (s : Option Addr) (cap : Nat) (w : World) (h : Lies w w.heap.size x) (hE : Elems w w.heap.size s 7 Ev.cells L) (h64 : ∀ ev ∈ L, Ev64 ev) (n : Nat) (hln : L.length = n) (hn : n ≤ 20000) (hl : largeF x = false) (hg : goodF x = true)
    (hgo : goM (startM x.obs (x.prs.map Pr.ops)) 0 L = .inl k) :
    Calls Tryz.prog 11 #[x.agg, .slice s n cap] w fun e w' => ∃ g, e = .returned (.tuple #[.slice none 0 0, Er.spotV g]) ∧ Er.SpotAt w' g (7, k) ∧ Kept (fun _ => False) w w' := by
  subst hln
  refine (run_any x L s cap w h hE h64 hn hl hg).mono ?_
  rintro e w' ⟨hk, hR⟩
  rw [hgo] at hR
  rcases hR with ⟨k, h0, g, rfl, hsp⟩ | ⟨σ, h0, _⟩
  · simp only [Sum.inl.injEq] at h0
    subst h0
    exact ⟨g, rfl, hsp, hk⟩
  · cases h0
/-- Run at any history: two values. -/
theorem run_weak (x : Sc) (L : List Ev) (s : Option Addr) (cap : Nat) (w : World) (h : Lies w w.heap.size x) (hE : Elems w w.heap.size s 7 Ev.cells L) (h64 : ∀ ev ∈ L, Ev64 ev) (n : Nat) (hln : L.length = n) (hn : n ≤ 20000) (hl : largeF x = false) (hg : goodF x = true) :
    Calls Tryz.prog 11 #[x.agg, .slice s n cap] w fun e w' => ∃ a b, e = .returned (.tuple #[a, b]) ∧ Kept (fun _ => False) w w' := by
  subst hln
  refine (run_any x L s cap w h hE h64 hn hl hg).mono ?_
  rintro e w' ⟨hk, hR⟩
  rcases hR with ⟨k, h0, g, rfl, hsp⟩ | ⟨σ, h0, g, c, tts, rfl, _⟩
  · exact ⟨_, _, rfl, hk⟩
  · exact ⟨_, _, rfl, hk⟩
section
variable {ops : Array Oper} {rest : List Oper} {o : Oper} {a : Act} {K : Act → World → Prop} {Q : Exit → Act → World → Prop} {E : Prop} {w : World}
theorem step_ee (hgd : o.guard = none) (s x : Operand) (ho : o.op = .call { callee := .builtin .append, args := #[s, x], argTypes := #[27, 27] })
    {v1 : Value} {A : Option Addr} {c W n m : Nat} {ts ys : List Ev} (hm : ys.length = m) (hs : a.eval s = v1) (hx : a.eval x = .slice A m c) (h : w.ownsRow W 38 7 v1 n (flat Ev.cells ts)) (hf : n + m ≤ 20000) (hE : Elems w w.heap.size A 7 Ev.cells ys) (hW : W ≤ w.heap.size)
    (hK : ∀ v' w', w'.ownsRow W 38 7 v' (n + m) (flat Ev.cells (ts ++ ys)) → Kept (fun k => v1.ownBlock = some k) w w' → (v'.ownBlock = v1.ownBlock ∨ v'.ownBlock = some w.heap.size) → K (a.put o.dst v') w') :
    if Region.wanted o (yielded ops a.tmps) = true then Oper.wp Tryz.prog o a w K Q else E := by
  subst hm
  obtain ⟨i0, hi, hz0, hz1, hz2⟩ := info_parts info_ev
  refine step_append_elems (f := Ev.cells) (ys := ys) w hgd s x 27 ho W 38 i0 zeroEv 7 56 Tryz.underlying27 hi hz0 hz1 hz2 rfl (by omega) Ev.seven (ev_cell1 _) v1 n (flat Ev.cells ts) hs h _ A c hx hE (by unfold maxLen; omega) (by omega) hW ?_
  intro v' w6 h1 h2 h3
  rw [← flat_append] at h1
  exact hK v' w6 h1 ((Kept.refl _ _).grown h2 (fun k _ e => e)) h3
end

end Go.Proofs.YtbodlaiakcoabaaGreatDoor
end
section
namespace Go.Proofs.YtbodlaiakcoabaaGreatDoor
open Go.RowKit
set_option linter.unusedSimpArgs false
set_option linter.unusedVariables false
set_option maxRecDepth 100000

section
variable {ops : Array Oper} {rest : List Oper} {o : Oper} {a : Act} {K : Act → World → Prop} {Q : Exit → Act → World → Prop} {E : Prop} {w3 w : World}
/-- A list that came in, behind nothing. -/
theorem step_app0 {b m c : Nat} {A : Option Addr} {L : List Ev} (s x : Operand) (hcur : Kept (fun _ => False) w3 w) (hb : w.heap[b]? = some (.cells #[] 38 (0, 0))) (hbw : w3.heap.size ≤ b) (hE : ∀ w', Kept (fun _ => False) w3 w' → Elems w' w'.heap.size A 7 Ev.cells L) (hm : L.length = m) (hm2 : m ≤ 19000)
    (hgd : o.guard = none) (ho : o.op = .call { callee := .builtin .append, args := #[s, x], argTypes := #[27, 27] })
    (hs : a.eval s = .slice (some ⟨b, 0, none⟩) 0 0) (hx : a.eval x = .slice A m c)
    (hK : ∀ v' w', w'.ownsRow w3.heap.size 38 7 v' m (flat Ev.cells L) → Kept (fun _ => False) w3 w' → Kept (fun k => k = b) w w' → K (a.put o.dst v') w') :
    if Region.wanted o (yielded ops a.tmps) = true then Oper.wp Tryz.prog o a w K Q else E := by
  refine step_ee (ts := []) (ys := L) (n := 0) (m := m) (W := w3.heap.size) hgd s x ho hm hs hx ?_ (by omega) (hE w hcur) hcur.size ?_
  · exact ⟨by simp [flat], .inr ⟨b, 0, #[], rfl, hbw, hb, Nat.le_refl _, Nat.zero_le _, by simp, by simp [flat]⟩⟩
  · intro v' w' h k _
    rw [Nat.zero_add, List.nil_append] at h
    have k' : Kept (fun k => k = b) w w' := k.mono (fun q _ e => by
      have e' : some b = some q := e
      simp only [Option.some.injEq] at e'
      exact e'.symm)
    exact hK v' w' h (hcur.trans k' (fun q hq e => by omega)) k'
/-- One event more. -/
theorem step_app1 {v1 : Value} {g m : Nat} {L : List Ev} {ev : Ev} (s x : Operand) (hcur : Kept (fun _ => False) w3 w) (hg : w.heap[g]? = some (.cells ev.cells.toArray 38 (0, 0))) (hown : w.ownsRow w3.heap.size 38 7 v1 m (flat Ev.cells L)) (hm2 : m ≤ 19000)
    (hgd : o.guard = none) (ho : o.op = .call { callee := .builtin .append, args := #[s, x], argTypes := #[27, 27] })
    (hs : a.eval s = v1) (hx : a.eval x = .slice (some ⟨g, 0, none⟩) 1 1)
    (hK : ∀ g' c' w', Elems w' w'.heap.size (some ⟨g', 0, none⟩) 7 Ev.cells (L ++ [ev]) → Kept (fun _ => False) w3 w' → K (a.put o.dst (.slice (some ⟨g', 0, none⟩) (m + 1) c')) w') :
    if Region.wanted o (yielded ops a.tmps) = true then Oper.wp Tryz.prog o a w K Q else E := by
  have hlen : L.length = m := by
    have h1 := hown.1
    have h2 := flat_len Ev.seven L
    omega
  have hE : Elems w w.heap.size (some ⟨g, 0, none⟩) 7 Ev.cells [ev] := (Elems.block (f := Ev.cells) (xs := [ev]) Ev.seven hg (by simp [flat]) (by show 1 ≤ maxLen; decide)).more (Array.getElem?_eq_some_iff.1 hg).1
  refine step_ee (ts := L) (ys := [ev]) (n := m) (m := 1) (W := w3.heap.size) hgd s x ho rfl hs hx hown (by omega) hE hcur.size ?_
  intro v' w' h k _
  obtain ⟨g', c', rfl, h1, h2⟩ := own_shape h (by omega)
  have hR : Row w' g' c' 38 7 Ev.cells (L ++ [ev]) := by
    have := ownsRow_base h
    exact Row.made (by rw [List.length_append, hlen]; rfl) this
  exact hK g' c' w' ((Elems.of_row Ev.seven hR (by rw [List.length_append, hlen]; show m + 1 ≤ maxLen; unfold maxLen; omega)).more h2) (hcur.trans k (fun q hq e => by
    have h3 := (World.ownsRow.lt hown q e).1
    omega))
end

end Go.Proofs.YtbodlaiakcoabaaGreatDoor
end
section
namespace Go.Proofs.YtbodlaiakcoabaaGreatDoor
open Go.RowKit
set_option linter.unusedSimpArgs false
set_option linter.unusedVariables false
set_option maxRecDepth 100000

/-- Slots set, one behind the other. -/
def putsAt (a : Act) : List Nat → List Value → Act
  | d :: ds, v :: vs => putsAt (a.put (some d) v) ds vs
  | _, _ => a

theorem wp_region_ag {P : Program} {ops : Array Oper} {Q : Exit → Act → World → Prop} {id : Nat} {a0 : Act} {w0 : World} (hm : P.follows .mixedOrders = true) (ds : List Nat) (I : Array Bool → World → List Value → Prop)
    (hstart : ∃ vs, a0 = putsAt a0 ds vs ∧ I (Array.replicate ops.size false) w0.drew vs)
    (hstep : ∀ l vs w i, l.size = ops.size → I l w vs → i ∈ Region.ready .any ops l → wpOp P ops Q i (fun a w' => ∃ vs', a = putsAt a0 ds vs' ∧ I (l.setIfInBounds i true) w' vs') (putsAt a0 ds vs) w)
    (hend : ∀ l vs w, l.size = ops.size → I l w vs → Region.ready .any ops l = [] → Q .normal (putsAt a0 ds vs) w) :
    (Code.region id ops true).wp P Q a0 w0 := by
  refine wp_region_any hm (wpAny_inv (fun l a w => ∃ vs, a = putsAt a0 ds vs ∧ I l w vs) ?_ ?_ _ _ _ _ (by simp) (by simp) hstart)
  · rintro l a w i hs ⟨vs, rfl, h⟩ hi
    exact hstep l vs w i hs h hi
  · rintro l a w hs ⟨vs, rfl, h⟩ hr
    exact hend l vs w hs h hr

theorem flag_false {l : Array Bool} {i : Nat} (h : l.getD i true = false) : l.getD i false = false := by
  rw [Array.getD_eq_getD_getElem?] at h ⊢
  cases hc : l[i]? with
  | none => rfl
  | some b => rw [hc] at h; exact h

/-- No operation is left: all have come up (all_ready, but for what doesn't bind). -/
theorem all_ready2 {ops : Array Oper} {l : Array Bool} (hs : l.size = ops.size) (ho : (List.range ops.size).all (fun i => ((ops[i]?).map (·.after.all fun e => !Region.binds .any e || decide (e.on < i))).getD false) = true) (hr : Region.ready .any ops l = []) : ∀ i, i < ops.size → l.getD i false = true := by
  intro i
  induction i using Nat.strongRecOn with
  | ind i ih =>
    intro hi
    refine flag_same (by omega) (ready_in (i := i) hr hi ?_)
    have h := List.all_eq_true.1 ho i (List.mem_range.2 hi)
    cases hc : ops[i]? with
    | none => rw [hc] at h; simp at h
    | some o =>
      rw [hc] at h
      simp only [Option.map_some, Option.getD_some, Array.all_eq_true_iff_forall_mem] at h ⊢
      intro e he
      have h1 := h e he
      rcases Bool.or_eq_true_iff.1 h1 with h2 | h2
      · rw [h2, Bool.true_or]
      · rw [ih e.on (of_decide_eq_true h2) (by have := of_decide_eq_true h2; omega), Bool.or_true]
/-- Which operation consumes what an operation yielded: the first append the empty row, the second one both. k: the literal's. -/
def killed (k i : Nat) : Nat := if i = 1 then 3 else if i = 3 then k + 1 else if i = k then k + 1 else 1000
/-- What the operations that have come up have yielded, as long as nothing has consumed it. -/
structure AG (W3 : World) (Ps : List (World → Value → Prop)) (k : Nat) (l : Array Bool) (w : World) (vs : List Value) : Prop where
  kept : Kept (fun _ => False) W3 w
  at_ : ∀ (i : Nat) (P : World → Value → Prop) (v : Value), Ps[i]? = some P → vs[i]? = some v → l.getD i false = true → l.getD (killed k i) false = false → P w v
  late8 : l.getD (k + 1) false = true → l.getD 3 false = true
  late : ∀ i, k + 1 < i → l.getD i false = true → l.getD (k + 1) false = true

theorem AG.stepW {W3 : World} {Ps : List (World → Value → Prop)} {k : Nat} {l l' : Array Bool} {w w' : World} {vs : List Value} (F : AG W3 Ps k l w vs) (i : Nat)
    (hl : ∀ j, l'.getD j false = if j = i then true else l.getD j false) (hk : Kept (fun _ => False) W3 w')
    (hst : ∀ j P v, j ≠ i → Ps[j]? = some P → l.getD j false = true → l.getD (killed k j) false = false → killed k j ≠ i → P w v → P w' v)
    (P : World → Value → Prop) (hi : Ps[i]? = some P) (v' : Value) (hv : P w' v') (h8 : i = k + 1 → l.getD 3 false = true) (h9 : k + 1 < i → l.getD (k + 1) false = true) : AG W3 Ps k l' w' (vs.set i v') := by
  refine ⟨hk, fun j Q v hQ hj hf hkj => ?_, fun h => ?_, fun j hj h => ?_⟩
  · rw [hl] at hf hkj
    by_cases e : i = j
    · subst e
      rw [hi] at hQ
      simp only [Option.some.injEq] at hQ
      subst hQ
      have hlt : i < (vs.set i v').length := (List.getElem?_eq_some_iff.1 hj).1
      rw [List.getElem?_set_self (by simpa using hlt)] at hj
      simp only [Option.some.injEq] at hj
      subst hj; exact hv
    · rw [List.getElem?_set_ne e] at hj
      rw [if_neg (fun h => e h.symm)] at hf
      have hki : killed k j ≠ i := fun h => by rw [if_pos h] at hkj; cases hkj
      rw [if_neg hki] at hkj
      exact hst j Q v (fun h => e h.symm) hQ hf hkj hki (F.at_ j Q v hQ hj hf hkj)
  · rw [hl] at h ⊢
    by_cases e3 : (3 : Nat) = i
    · rw [if_pos e3]
    · rw [if_neg e3]
      by_cases e : k + 1 = i
      · exact h8 e.symm
      · rw [if_neg e] at h; exact F.late8 h
  · rw [hl] at h ⊢
    by_cases e : k + 1 = i
    · rw [if_pos e]
    · rw [if_neg e]
      by_cases e2 : j = i
      · subst e2; exact h9 hj
      · rw [if_neg e2] at h; exact F.late j hj h
theorem AG.step {W3 : World} {Ps : List (World → Value → Prop)} {k : Nat} {l l' : Array Bool} {w w' : World} {vs : List Value} (F : AG W3 Ps k l w vs) (hP : StayAll Ps) (i : Nat)
    (hl : ∀ j, l'.getD j false = if j = i then true else l.getD j false) (hk : Kept (fun _ => False) w w')
    (P : World → Value → Prop) (hi : Ps[i]? = some P) (v' : Value) (hv : P w' v') (h8 : i = k + 1 → l.getD 3 false = true) (h9 : k + 1 < i → l.getD (k + 1) false = true) : AG W3 Ps k l' w' (vs.set i v') :=
  F.stepW i hl (F.kept.tr0 hk) (fun j Q v _ hQ _ _ _ h => hP.at_ j Q hQ _ _ _ hk h) P hi v' hv h8 h9

/-- The empty row; the row that a list was appended to; an event's literal; two lists together; what a call tells. -/
def PNil (W : Nat) : World → Value → Prop := fun w v => ∃ b, v = .slice (some ⟨b, 0, none⟩) 0 0 ∧ W ≤ b ∧ w.heap[b]? = some (.cells #[] 38 (0, 0))
def POwn (W m : Nat) (L : List Ev) : World → Value → Prop := fun w v => w.ownsRow W 38 7 v m (flat Ev.cells L)
def PLit (ev : Ev) : World → Value → Prop := fun w v => ∃ g, v = .slice (some ⟨g, 0, none⟩) 1 1 ∧ w.heap[g]? = some (.cells ev.cells.toArray 38 (0, 0))
def PAll (m : Nat) (L : List Ev) : World → Value → Prop := fun w v => ∃ g c, v = .slice (some ⟨g, 0, none⟩) m c ∧ Elems w w.heap.size (some ⟨g, 0, none⟩) 7 Ev.cells L
def PTwo (R : World → Value → Prop) : World → Value → Prop := fun w v => ∃ a b, v = .tuple #[a, b] ∧ R w b
def PAny : World → Value → Prop := fun _ _ => True
theorem stay_nil (W : Nat) : Stay (PNil W) := fun _ _ _ hk ⟨b, e, h1, h2⟩ => ⟨b, e, h1, hk.at0 h2⟩
theorem stay_own (W m : Nat) (L : List Ev) : Stay (POwn W m L) := fun _ _ _ hk h => own_on h hk (fun _ _ f => f)
theorem stay_lit (ev : Ev) : Stay (PLit ev) := fun _ _ _ hk ⟨b, e, h2⟩ => ⟨b, e, hk.at0 h2⟩
theorem stay_all (m : Nat) (L : List Ev) : Stay (PAll m L) := fun _ _ _ hk ⟨g, c, e, h⟩ => ⟨g, c, e, (h.kept hk (Nat.le_refl _) (fun _ _ f => f)).more hk.size⟩
theorem stay_two {R : World → Value → Prop} (h : Stay R) : Stay (PTwo R) := fun _ _ _ hk ⟨a, b, e, h2⟩ => ⟨a, b, e, h _ _ _ hk h2⟩
theorem stay_anyR : Stay PAny := fun _ _ _ _ _ => trivial
theorem nil_new (w : World) : PNil w.heap.size (w.alloc (.cells #[] 38)) (.slice (some ⟨w.heap.size, 0, none⟩) 0 0) := ⟨_, rfl, Nat.le_refl _, heap_new1 _ _⟩
theorem PNil.le {W W' : Nat} {w : World} {v : Value} (h : PNil W w v) (hW : W' ≤ W) : PNil W' w v := by
  obtain ⟨b, e, h1, h2⟩ := h
  exact ⟨b, e, by omega, h2⟩
theorem lit_new (w : World) (ev : Ev) : PLit ev (w.alloc (.cells #[.int .i64 ev.kind, .int .i64 ev.thread, .int .i64 ev.now, .int .i64 ev.m.kind, .int .i64 ev.m.v, .int .i64 ev.value, .int .i64 ev.got] 38)) (.slice (some ⟨w.heap.size, 0, none⟩) 1 1) := ⟨_, rfl, heap_new1 _ _⟩
/-- The literal's block is not the empty row's. -/
theorem lit_on {ev : Ev} {b : Nat} {w w' : World} {v : Value} (hb : w.heap[b]? = some (.cells #[] 38 (0, 0))) (hk : Kept (fun q => q = b) w w') (h : PLit ev w v) : PLit ev w' v := by
  obtain ⟨g, e, h2⟩ := h
  refine ⟨g, e, hk.at_ h2 (fun e2 => ?_)⟩
  rw [e2, hb] at h2
  simp [Ev.cells] at h2

theorem flag_out {l : Array Bool} {i : Nat} (h : l.size ≤ i) : l.getD i false = false := by
  rw [Array.getD_eq_getD_getElem?, Array.getElem?_eq_none h]; rfl
theorem AG.own {W3 : World} {Ps : List (World → Value → Prop)} {k : Nat} {l l' : Array Bool} {w w' : World} {vs : List Value} {ev : Ev} {b : Nat} (F : AG W3 Ps k l w vs)
    (hl : ∀ j, l'.getD j false = if j = 3 then true else l.getD j false) (hk : Kept (fun _ => False) W3 w') (hu : l.getD 3 false = false)
    (hP : ∀ j, j < k → j ≠ 1 → j ≠ 3 → ∀ P, Ps[j]? = some P → ∃ c, P = PEq c) (hPk : Ps[k]? = some (PLit ev)) (h3k : 3 < k)
    (hb : w.heap[b]? = some (.cells #[] 38 (0, 0))) (hkb : Kept (fun q => q = b) w w')
    (P : World → Value → Prop) (hi : Ps[3]? = some P) (v' : Value) (hv : P w' v') : AG W3 Ps k l' w' (vs.set 3 v') := by
  refine F.stepW 3 hl hk (fun j Q v hj hQ hlj hkj hki h => ?_) P hi v' hv (fun e => by omega) (fun e => by omega)
  by_cases h1 : k + 1 < j
  · have := F.late8 (F.late j h1 hlj)
    rw [hu] at this; cases this
  by_cases h2 : j = k + 1
  · subst h2
    have := F.late8 hlj
    rw [hu] at this; cases this
  by_cases h4 : j = k
  · subst h4
    rw [hPk] at hQ
    simp only [Option.some.injEq] at hQ
    subst hQ
    exact lit_on hb hkb h
  by_cases h5 : j = 1
  · subst h5
    exact absurd rfl hki
  obtain ⟨c, rfl⟩ := hP j (by omega) h5 hj Q hQ
  exact h
theorem AG.all {W3 : World} {Ps : List (World → Value → Prop)} {k : Nat} {l l' : Array Bool} {w w' : World} {vs : List Value} (F : AG W3 Ps k l w vs)
    (hl : ∀ j, l'.getD j false = if j = k + 1 then true else l.getD j false) (hk : Kept (fun _ => False) W3 w') (hu : l.getD (k + 1) false = false) (h3 : l.getD 3 false = true)
    (hP : ∀ j, j < k → j ≠ 1 → j ≠ 3 → ∀ P, Ps[j]? = some P → ∃ c, P = PEq c) (h3k : 3 < k)
    (P : World → Value → Prop) (hi : Ps[k + 1]? = some P) (v' : Value) (hv : P w' v') : AG W3 Ps k l' w' (vs.set (k + 1) v') := by
  refine F.stepW (k + 1) hl hk (fun j Q v hj hQ hlj hkj hki h => ?_) P hi v' hv (fun _ => h3) (fun e => by omega)
  by_cases h1 : k + 1 < j
  · have := F.late j h1 hlj
    rw [hu] at this; cases this
  by_cases h4 : j = k
  · subst h4
    exact absurd (by unfold killed; rw [if_neg (by omega), if_neg (by omega), if_pos rfl]) hki
  by_cases h5 : j = 1
  · subst h5
    have hkj' : l.getD 3 false = false := hkj
    rw [h3] at hkj'; cases hkj'
  by_cases h6 : j = 3
  · subst h6
    exact absurd rfl hki
  obtain ⟨c, rfl⟩ := hP j (by omega) h5 h6 Q hQ
  exact h

section
variable {ops : Array Oper} {rest : List Oper} {o : Oper} {a : Act} {K : Act → World → Prop} {Q : Exit → Act → World → Prop} {E : Prop} {w3 w : World}
/-- The first append. -/
theorem step_own {m c : Nat} {A : Option Addr} {L : List Ev} {v : Value} (s x : Operand) (hcur : Kept (fun _ => False) w3 w) (hN : PNil w3.heap.size w v) (hE : ∀ w', Kept (fun _ => False) w3 w' → Elems w' w'.heap.size A 7 Ev.cells L) (hm : L.length = m) (hm2 : m ≤ 19000)
    (hgd : o.guard = none) (ho : o.op = .call { callee := .builtin .append, args := #[s, x], argTypes := #[27, 27] })
    (hs : a.eval s = v) (hx : a.eval x = .slice A m c)
    (hK : ∀ b v' w', w.heap[b]? = some (.cells #[] 38 (0, 0)) → POwn w3.heap.size m L w' v' → Kept (fun _ => False) w3 w' → Kept (fun k => k = b) w w' → K (a.put o.dst v') w') :
    if Region.wanted o (yielded ops a.tmps) = true then Oper.wp Tryz.prog o a w K Q else E := by
  obtain ⟨b, rfl, h1, h2⟩ := hN
  exact step_app0 s x hcur h2 h1 hE hm hm2 hgd ho hs hx (fun v' w' ho hk hk2 => hK b v' w' h2 ho hk hk2)
/-- The second append. -/
theorem step_all {v1 v2 : Value} {m : Nat} {L : List Ev} {ev : Ev} (s x : Operand) (hcur : Kept (fun _ => False) w3 w) (hO : POwn w3.heap.size m L w v1) (hL : PLit ev w v2) (hm2 : m ≤ 19000)
    (hgd : o.guard = none) (ho : o.op = .call { callee := .builtin .append, args := #[s, x], argTypes := #[27, 27] })
    (hs : a.eval s = v1) (hx : a.eval x = v2)
    (hK : ∀ v' w', PAll (m + 1) (L ++ [ev]) w' v' → Kept (fun _ => False) w3 w' → K (a.put o.dst v') w') :
    if Region.wanted o (yielded ops a.tmps) = true then Oper.wp Tryz.prog o a w K Q else E := by
  obtain ⟨g, rfl, h1⟩ := hL
  exact step_app1 s x hcur h1 hO hm2 hgd ho hs hx (fun g' c' w' hE hk => hK _ w' ⟨g', c', rfl, hE⟩ hk)
end

/-- The error of a history: a Spot at its last event, or none. -/
def PErr (b : Bool) (n : Nat) : World → Value → Prop := fun w v => if b = true then ∃ g, v = Er.spotV g ∧ Er.SpotAt w g (7, n) else v = .nilIface
theorem stay_err (b : Bool) (n : Nat) : Stay (PErr b n) := fun w w' v hk h => by
  unfold PErr at h ⊢
  split
  · rename_i hb
    rw [if_pos hb] at h
    obtain ⟨g, e, h2⟩ := h
    exact ⟨g, e, h2.kept hk (fun f => f)⟩
  · rename_i hb
    rw [if_neg hb] at h
    exact h
/-- Run at a history that may have been, and an event more. -/
theorem run_more {σ : St} (x : Sc) (L : List Ev) (ev : Ev) (n : Nat) (hln : L.length = n) (hn : n ≤ 19000) (h64 : ∀ ev ∈ L, Ev64 ev) (hev : Ev64 ev) (hl : largeF x = false) (hg : goodF x = true)
    (hgo : goM (startM x.obs (x.prs.map Pr.ops)) 0 L = .inr σ) (b : Bool) (hb : (evM σ ev).isNone = b) (w : World) (s : Option Addr) (cap : Nat) (h : Lies w w.heap.size x) (hE : Elems w w.heap.size s 7 Ev.cells (L ++ [ev])) :
    Calls Tryz.prog 11 #[x.agg, .slice s (n + 1) cap] w fun e w' => ∃ a v, e = .returned (.tuple #[a, v]) ∧ PErr b n w' v ∧ Kept (fun _ => False) w w' := by
  have hlen : (L ++ [ev]).length = n + 1 := by rw [List.length_append, hln]; rfl
  have hc := run_any x (L ++ [ev]) s cap w h hE (fun q hq => by
    rcases List.mem_append.1 hq with h | h
    · exact h64 q h
    · simp only [List.mem_singleton] at h
      subst h
      exact hev) (by omega) hl hg
  rw [hlen] at hc
  refine hc.mono ?_
  rintro e w' ⟨hk, hR⟩
  rw [goM_snoc hgo] at hR
  cases he : evM σ ev with
  | none =>
    rw [he] at hb hR
    subst hb
    rcases hR with ⟨k, h0, g, rfl, hsp⟩ | ⟨σ', h0, _⟩
    · simp only [Sum.inl.injEq] at h0
      rw [Nat.zero_add, hln] at h0
      subst h0
      exact ⟨_, _, rfl, ⟨g, rfl, hsp⟩, hk⟩
    · cases h0
  | some σ2 =>
    rw [he] at hb hR
    subst hb
    rcases hR with ⟨k, h0, _⟩ | ⟨σ', h0, g, c, tts, rfl, _⟩
    · cases h0
    · exact ⟨_, _, rfl, rfl, hk⟩

end Go.Proofs.YtbodlaiakcoabaaGreatDoor
end
section
namespace Go.Proofs.YtbodlaiakcoabaaGreatDoor
open Go.RowKit
set_option linter.unusedSimpArgs false
set_option linter.unusedVariables false
set_option maxRecDepth 100000

/-- A row of the call's own, read as a list. -/
theorem own_elems {w : World} {B n : Nat} {v : Value} {xs : List Ev} (h : w.ownsRow B 38 7 v n (flat Ev.cells xs)) (hn : xs.length = n) (hm : n ≤ 20000) : ∃ s c, v = .slice s n c ∧ Elems w w.heap.size s 7 Ev.cells xs := by
  subst hn
  rcases h.2 with ⟨hv, h0⟩ | ⟨g, cap, cur, hv, hb, hg, hc⟩
  · refine ⟨none, 0, ?_, ?_⟩
    · rw [hv, h0]
    · have : xs = [] := List.length_eq_zero_iff.1 h0
      subst this
      exact Elems.nil
  · refine ⟨some ⟨g, 0, none⟩, cap, hv, ?_⟩
    subst hv
    have hR : Row w g cap 38 7 Ev.cells xs := Row.made rfl (ownsRow_base h)
    exact (Elems.of_row Ev.seven hR (by unfold maxLen; omega)).more hR.lt
theorem own_cap {w : World} {B n m c : Nat} {e : TypeId} {s : Option Addr} {xs : List Value} (h : w.ownsRow B e m (.slice s n c) n xs) : n ≤ c := by
  rcases h.2 with ⟨hv, h0⟩ | ⟨g, cap, cur, hv, hb, hg, hc⟩
  · omega
  · simp only [Value.slice.injEq] at hv
    obtain ⟨_, _, rfl⟩ := hv
    first | exact hc.1 | exact hc.2.1 | exact hc.2.2.1
theorem own_kind {w : World} {B n m c : Nat} {e : TypeId} {s : Option Addr} {xs : List Value} (h : w.ownsRow B e m (.slice s n c) n xs) : (s = none ∧ n = 0 ∧ c = 0) ∨ ∃ g, s = some ⟨g, 0, none⟩ := by
  rcases h.2 with ⟨hv, h0⟩ | ⟨g, cap, cur, hv, hb, hg, hc⟩
  · simp only [Value.slice.injEq] at hv
    exact .inl hv
  · simp only [Value.slice.injEq] at hv
    exact .inr ⟨g, hv.1⟩
section
variable {ops : Array Oper} {rest : List Oper} {o : Oper} {a : Act} {Q : Exit → Act → World → Prop} {w : World}
/-- A list appended to a row of the call's own. -/
theorem wpList_evs (hgd : o.guard = none) (s x : Operand) (ho : o.op = .call { callee := .builtin .append, args := #[s, x], argTypes := #[27, 27] })
    {v1 : Value} {A : Option Addr} {c W n m : Nat} {ts ys : List Ev} (hm : ys.length = m) (hs : a.eval s = v1) (hx : a.eval x = .slice A m c) (h : w.ownsRow W 38 7 v1 n (flat Ev.cells ts)) (hf : n + m ≤ 20000) (hE : Elems w w.heap.size A 7 Ev.cells ys) (hW : W ≤ w.heap.size)
    (hK : ∀ v' w', w'.ownsRow W 38 7 v' (n + m) (flat Ev.cells (ts ++ ys)) → Kept (fun k => v1.ownBlock = some k) w w' → (v'.ownBlock = v1.ownBlock ∨ v'.ownBlock = some w.heap.size) → wpList Tryz.prog ops Q rest (a.put o.dst v') w') : wpList Tryz.prog ops Q (o :: rest) a w := by
  subst hm
  obtain ⟨i0, hi, hz0, hz1, hz2⟩ := info_parts info_ev
  refine wpList_append_elems (f := Ev.cells) (ys := ys) w hgd s x 27 ho W 38 i0 zeroEv 7 56 Tryz.underlying27 hi hz0 hz1 hz2 rfl (by omega) Ev.seven (ev_cell1 _) v1 n (flat Ev.cells ts) hs h w.heap.size A c hx hE (by unfold maxLen; omega) (by omega) hW ?_
  intro v' w6 h1 h2 h3
  rw [← flat_append] at h1
  exact hK v' w6 h1 ((Kept.refl _ _).grown h2 (fun k _ e => e)) h3
/-- One event, a literal's, appended to a row of the call's own: behind a world that is kept. -/
theorem wpList_ev1 (hgd : o.guard = none) (s x : Operand) (ho : o.op = .call { callee := .builtin .append, args := #[s, x], argTypes := #[27, 27] })
    {w3 : World} {v1 : Value} {g n : Nat} {ts : List Ev} {ev : Ev} (hs : a.eval s = v1) (hx : a.eval x = .slice (some ⟨g, 0, none⟩) 1 1) (hk : Kept (fun _ => False) w3 w) (h : w.ownsRow w3.heap.size 38 7 v1 n (flat Ev.cells ts)) (hf : n + 1 ≤ 20000) (hg : w.heap[g]? = some (.cells ev.cells.toArray 38 (0, 0)))
    (hK : ∀ v' w', w'.ownsRow w3.heap.size 38 7 v' (n + 1) (flat Ev.cells (ts ++ [ev])) → Kept (fun _ => False) w3 w' → wpList Tryz.prog ops Q rest (a.put o.dst v') w') : wpList Tryz.prog ops Q (o :: rest) a w := by
  have hE : Elems w w.heap.size (some ⟨g, 0, none⟩) 7 Ev.cells [ev] := (Elems.block (f := Ev.cells) (xs := [ev]) Ev.seven hg (by simp [flat]) (by show 1 ≤ maxLen; decide)).more (Array.getElem?_eq_some_iff.1 hg).1
  refine wpList_evs hgd s x ho (ts := ts) (ys := [ev]) rfl hs hx h hf hE hk.size ?_
  intro v' w' h1 h2 _
  exact hK v' w' h1 (hk.trans h2 (fun q hq e => by
    have h3 := (World.ownsRow.lt h q e).1
    omega))
end

/-- Times of a history that may have been. -/
theorem go_low : ∀ (l : List Ev) {σ σ' : St} {i : Nat}, goM σ i l = .inr σ' → 0 ≤ σ.now → ∀ e ∈ l, 0 ≤ e.now
  | [], σ, σ', i, h, h0 => by simp
  | e :: l, σ, σ', i, h, h0 => by
    simp only [goM] at h
    cases he : evM σ e with
    | none => rw [he] at h; simp at h
    | some σ2 =>
      rw [he] at h
      have h1 := (ev_parts he).2.2.2.1
      have h2 := (ev_frame he).2.2.1
      intro q hq
      rcases List.mem_cons.1 hq with rfl | hq
      · omega
      · exact go_low l h (by omega) q hq
/-- What Run tells of a history that may have been: its things, each with its waiters. -/
structure Things (W : Nat) (w : World) (g c m : Nat) (xs : List Th) (tts : List Tt) : Prop where
  low : W ≤ g
  row : Row w g c 42 15 Tt.cells tts
  len : tts.length = m
  same : tts.map Tt.x = xs
  ws : ∀ t ∈ tts, InW w t.x t.s
  few : ∀ t ∈ tts, t.x.ws.length ≤ 10000
  sm : m ≤ 6
theorem Things.kept {W : Nat} {w w' : World} {g c m : Nat} {xs : List Th} {tts : List Tt} (h : Things W w g c m xs tts) (hk : Kept (fun _ => False) w w') : Things W w' g c m xs tts :=
  ⟨h.low, h.row.kept hk (fun f => f), h.len, h.same, fun t ht => (h.ws t ht).kept0 hk, h.few, h.sm⟩
theorem sound_few {x : Th} (h : Sound x) : x.ws.length ≤ 8 := by
  have := nodup_few 8 _ h.nd (fun a ha => by
    obtain ⟨q, hq, rfl⟩ := List.mem_map.1 ha
    exact h.wt q hq)
  rwa [List.length_map] at this
theorem told_things {w w' : World} {g c k : Nat} {σ : St} {tts : List Tt} (h : Told11 w w' (.slice (some ⟨g, 0, none⟩) tts.length c) σ.things tts) (hG : Good k σ) : Things w.heap.size w' g c tts.length σ.things tts := by
  obtain ⟨g', c', hv, hlow, hrow⟩ := h.own
  simp only [Value.slice.injEq, Option.some.injEq, Addr.mk.injEq, and_true, true_and] at hv
  obtain ⟨rfl, rfl⟩ := hv
  refine ⟨hlow, hrow, rfl, h.same, fun t ht => ?_, fun t ht => ?_, ?_⟩
  · obtain ⟨Q, hQ⟩ := h.ws t ht
    exact hQ.elems
  · have : t.x ∈ σ.things := by rw [← h.same]; exact List.mem_map.2 ⟨t, ht, rfl⟩
    have := sound_few (hG.sound _ this)
    omega
  · have h1 : tts.length = σ.things.length := by rw [← h.same, List.length_map]
    have := hG.nth
    have := hG.nobs
    omega
/-- The error of a history, or none, with its things. -/
def RunErr (g : Nat) (k : Nat) (w : World) : Prop := Er.SpotAt w g (7, k)
/-- Run, for any script and any history: an error that is there; or none, and how all stand. -/
def RunSaid (x : Sc) (L : List Ev) (w : World) (e : Ending) (w' : World) : Prop :=
  Kept (fun _ => False) w w' ∧
  ((∃ (T : TypeId) (u : Value), e = .returned (.tuple #[.slice none 0 0, .iface T u]) ∧ ((largeF x = false ∧ goodF x = true) → ∃ k, goM (startM x.obs (x.prs.map Pr.ops)) 0 L = .inl k)) ∨
   (∃ σ, goM (startM x.obs (x.prs.map Pr.ops)) 0 L = .inr σ ∧ (largeF x = false ∧ goodF x = true) ∧ Good L.length σ ∧ ∃ g c m tts, e = .returned (.tuple #[.slice (some ⟨g, 0, none⟩) m c, .nilIface]) ∧ Things w.heap.size w' g c m σ.things tts))
theorem run_said (x : Sc) (L : List Ev) (n : Nat) (hln : L.length = n) (s : Option Addr) (cap : Nat) (w : World) (h : Lies w w.heap.size x) (hE : Elems w w.heap.size s 7 Ev.cells L) (h64 : ∀ ev ∈ L, Ev64 ev) (hn : n ≤ 20000) :
    Calls Tryz.prog 11 #[x.agg, .slice s n cap] w (RunSaid x L w) := by
  subst hln
  by_cases hlg : largeF x = false ∧ goodF x = true
  · refine (run_any x L s cap w h hE h64 hn hlg.1 hlg.2).mono ?_
    rintro e w' ⟨hk, hR⟩
    rcases hR with ⟨k, h0, g, rfl, hsp⟩ | ⟨σ, h0, g, c, tts, rfl, hT, hG⟩
    · exact ⟨hk, .inl ⟨_, _, rfl, fun _ => ⟨k, h0⟩⟩⟩
    · exact ⟨hk, .inr ⟨σ, h0, hlg, hG, g, c, tts.length, tts, rfl, told_things hT hG⟩⟩
  · refine (run_bad x L.length s cap w h (fun h => hlg h)).mono ?_
    rintro e w' ⟨c, rfl, hk⟩
    exact ⟨hk, .inl ⟨_, _, rfl, fun h => (hlg h).elim⟩⟩
/-- Run, of a history that may have been. -/
theorem run_good {σ : St} (x : Sc) (L : List Ev) (n : Nat) (hln : L.length = n) (hgo : goM (startM x.obs (x.prs.map Pr.ops)) 0 L = .inr σ) (hlg : largeF x = false ∧ goodF x = true) (s : Option Addr) (cap : Nat) (w : World) (h : Lies w w.heap.size x) (hE : Elems w w.heap.size s 7 Ev.cells L) (h64 : ∀ ev ∈ L, Ev64 ev) (hn : n ≤ 20000) :
    Calls Tryz.prog 11 #[x.agg, .slice s n cap] w fun e w' => ∃ g c m tts, e = .returned (.tuple #[.slice (some ⟨g, 0, none⟩) m c, .nilIface]) ∧ Things w.heap.size w' g c m σ.things tts ∧ Kept (fun _ => False) w w' := by
  refine (run_said x L n hln s cap w h hE h64 hn).mono ?_
  rintro e w' ⟨hk, hR⟩
  rcases hR with ⟨T, u, rfl, h1⟩ | ⟨σ', h0, _, _, g, c, m, tts, rfl, hT⟩
  · obtain ⟨k, h1⟩ := h1 hlg
    rw [hgo] at h1
    cases h1
  · rw [hgo] at h0
    simp only [Sum.inr.injEq] at h0
    subst h0
    exact ⟨g, c, m, tts, rfl, hT, hk⟩

end Go.Proofs.YtbodlaiakcoabaaGreatDoor
end
