/-
  Two histories that go side by side, plain mathematics: times so much later, breaks so many more.
  Conditions: none.
  What a history leaves, and one event more, plain mathematics.
  Conditions: none.
-/
import Derived.Test.YtbodlaiakcoabaaGreatDoorRepKeep
section
namespace Go.Proofs.YtbodlaiakcoabaaGreatDoor
open Go.RowKit
set_option linter.unusedSimpArgs false
set_option linter.unusedVariables false

/-- What an event that may be is. -/
theorem ev_parts {σ σ' : St} {e : Ev} (he : evM σ e = some σ') : bareM e = true ∧ 0 ≤ e.thread ∧ e.thread < σ.threads.length ∧ σ.now ≤ e.now ∧ ∃ t, σ.threads[e.thread.toNat]? = some t ∧
    ((e.kind = 1 ∧ beginM { σ with now := e.now } e.thread.toNat t = some σ') ∨
     (e.kind = 2 ∧ ∃ c, t.call = some c ∧ markM { σ with now := e.now } e.thread.toNat t c e.m = some σ') ∨
     (e.kind = 3 ∧ ∃ c t', t.call = some c ∧ endM t c e.value e.got = some t' ∧ σ' = { σ with now := e.now, threads := σ.threads.set e.thread.toNat t' }) ∨
     (e.kind = 4 ∧ σ' = { σ with now := e.now, threads := σ.threads.set e.thread.toNat { t with breaks := t.breaks + 1 } })) := by
  unfold evM at he
  split at he
  · rename_i hc
    simp only [Bool.and_eq_true, decide_eq_true_eq] at hc
    refine ⟨hc.1.1.1, hc.1.1.2, hc.1.2, hc.2, ?_⟩
    simp only at he
    cases ht : σ.threads[e.thread.toNat]? with
    | none => rw [ht] at he; simp at he
    | some t =>
      refine ⟨t, rfl, ?_⟩
      rw [ht] at he
      simp only at he
      split at he
      · rename_i hk; exact .inl ⟨hk, he⟩
      split at he
      · rename_i hk
        cases hcall : t.call with
        | none => rw [hcall] at he; simp at he
        | some c => rw [hcall] at he; exact .inr (.inl ⟨hk, c, rfl, he⟩)
      split at he
      · rename_i hk
        cases hcall : t.call with
        | none => rw [hcall] at he; simp at he
        | some c =>
          rw [hcall] at he
          simp only [Option.map_eq_some_iff] at he
          obtain ⟨t', h1, h2⟩ := he
          exact .inr (.inr (.inl ⟨hk, c, t', rfl, h1, h2.symm⟩))
      split at he
      · rename_i hk
        simp only [Option.some.injEq] at he
        exact .inr (.inr (.inr ⟨hk, he.symm⟩))
      · simp at he
  · simp at he
/-- What an event does whose place is right. -/
theorem ev_does {σ : St} {e : Ev} {t : Tr} (hb : bareM e = true) (h0 : 0 ≤ e.thread) (h1 : e.thread < σ.threads.length) (hn : σ.now ≤ e.now) (ht : σ.threads[e.thread.toNat]? = some t) :
    evM σ e = if e.kind = 1 then beginM { σ with now := e.now } e.thread.toNat t
      else if e.kind = 2 then (match t.call with | none => none | some c => markM { σ with now := e.now } e.thread.toNat t c e.m)
      else if e.kind = 3 then (match t.call with | none => none | some c => (endM t c e.value e.got).map (fun t' => { σ with now := e.now, threads := σ.threads.set e.thread.toNat t' }))
      else if e.kind = 4 then some { σ with now := e.now, threads := σ.threads.set e.thread.toNat { t with breaks := t.breaks + 1 } }
      else none := by
  unfold evM
  rw [if_pos (by simp [hb, h0, h1, hn])]
  simp only [ht]
  cases hc : t.call <;> simp only [hc]

structure RelC (d : Int) (c c' : Ca) : Prop where
  op : c'.op = c.op
  kind : c'.kind = c.kind
  since : c'.since = c.since + d
  marks : c'.marks = c.marks
  got : c'.got = c.got
  til : c'.til = c.til + d ∨ ∀ m ∈ c.marks, ¬ Gave m
  cut : c.cut = true → c'.cut = true
structure RelT (d b : Int) (t t' : Tr) : Prop where
  ops : t'.ops = t.ops
  begun : t'.begun = t.begun
  breaks : t'.breaks = t.breaks + b
  call : match t.call, t'.call with | none, none => True | some c, some c' => RelC d c c' | _, _ => False
structure RelS (d : Int) (b : Nat → Int) (σ σ' : St) : Prop where
  obs : σ'.obs = σ.obs
  things : σ'.things = σ.things
  len : σ'.threads.length = σ.threads.length
  th : ∀ i t t', σ.threads[i]? = some t → σ'.threads[i]? = some t' → RelT d (b i) t t'

theorem RelT.none {d b : Int} {t t' : Tr} (h : RelT d b t t') (hc : t.call = none) : t'.call = none := by
  have := h.call
  rw [hc] at this
  cases h2 : t'.call with
  | none => rfl
  | some c => rw [h2] at this; exact this.elim
theorem RelT.some {d b : Int} {t t' : Tr} {c : Ca} (h : RelT d b t t') (hc : t.call = some c) : ∃ c', t'.call = some c' ∧ RelC d c c' := by
  have := h.call
  rw [hc] at this
  cases h2 : t'.call with
  | none => rw [h2] at this; exact this.elim
  | some c' => rw [h2] at this; exact ⟨c', rfl, this⟩
/-- One thread anew on both sides. -/
theorem rel_set {d : Int} {b : Nat → Int} {σ σ' : St} (h : RelS d b σ σ') (i : Nat) {t t' : Tr} (ht : RelT d (b i) t t') (n n' : Int) (x x' : List Th) (hx : x' = x) :
    RelS d b { σ with now := n, things := x, threads := σ.threads.set i t } { σ' with now := n', things := x', threads := σ'.threads.set i t' } := by
  refine ⟨h.obs, hx, by simpa using h.len, fun j s s' h1 h2 => ?_⟩
  simp only at h1 h2
  by_cases hj : i = j
  · subst hj
    rw [List.getElem?_set] at h1 h2
    split at h1
    · split at h1
      · split at h2
        · split at h2
          · simp only [Option.some.injEq] at h1 h2
            subst h1; subst h2; exact ht
          · cases h2
        · contradiction
      · cases h1
    · contradiction
  · rw [List.getElem?_set_ne hj] at h1 h2
    exact h.th j s s' h1 h2
theorem rel_meet {d : Int} {b : Nat → Int} {σ σ' : St} (h : RelS d b σ σ') (o : Nat) (n : Int) :
    RelS d b { σ with threads := meetM σ.threads o n } { σ' with threads := meetM σ'.threads o n } := by
  cases hs : σ.threads[o]? with
  | none =>
    have hs' : σ'.threads[o]? = none := by rw [List.getElem?_eq_none_iff] at hs ⊢; rw [h.len]; exact hs
    have e1 : meetM σ.threads o n = σ.threads := by unfold meetM; rw [hs]
    have e2 : meetM σ'.threads o n = σ'.threads := by unfold meetM; rw [hs']
    rw [e1, e2]; exact h
  | some s =>
    obtain ⟨s', hs'⟩ : ∃ s', σ'.threads[o]? = some s' := ⟨_, List.getElem?_eq_getElem (by rw [h.len]; exact (List.getElem?_eq_some_iff.1 hs).1)⟩
    have q := h.th o s s' hs hs'
    cases hc : s.call with
    | none =>
      have hc' := q.none hc
      have e1 : meetM σ.threads o n = σ.threads := by unfold meetM; rw [hs]; simp only [hc]
      have e2 : meetM σ'.threads o n = σ'.threads := by unfold meetM; rw [hs']; simp only [hc']
      rw [e1, e2]; exact h
    | some c =>
      obtain ⟨c', hc', r⟩ := q.some hc
      have e1 : meetM σ.threads o n = σ.threads.set o { s with call := some { c with marks := c.marks ++ [⟨0, 0⟩], got := n } } := by unfold meetM; rw [hs]; simp only [hc]
      have e2 : meetM σ'.threads o n = σ'.threads.set o { s' with call := some { c' with marks := c'.marks ++ [⟨0, 0⟩], got := n } } := by unfold meetM; rw [hs']; simp only [hc']
      rw [e1, e2]
      refine rel_set h o (t := { s with call := some { c with marks := c.marks ++ [⟨0, 0⟩], got := n } }) (t' := { s' with call := some { c' with marks := c'.marks ++ [⟨0, 0⟩], got := n } }) ⟨q.ops, q.begun, q.breaks, ?_⟩ σ.now σ'.now σ.things σ'.things h.things
      refine ⟨r.op, r.kind, r.since, by show c'.marks ++ _ = c.marks ++ _; rw [r.marks], rfl, ?_, r.cut⟩
      rcases r.til with h1 | h1
      · exact .inl h1
      · refine .inr fun m hm => ?_
        rcases List.mem_append.1 hm with hm | hm
        · exact h1 m hm
        · simp only [List.mem_singleton] at hm
          subst hm
          rintro (g | g | g) <;> cases g
theorem rel_note {d b now : Int} {t t' : Tr} {c c' : Ca} (hb : 0 ≤ b) (ht : RelT d b t t') (r : RelC d c c') (x : Th) (m : Mk) : RelC d (noteM now t c x m) (noteM (now + d) t' c' x m) := by
  have hm : c'.marks ++ [m] = c.marks ++ [m] := by rw [r.marks]
  have hg : ¬ Gave m → c'.til = c.til + d ∨ ∀ q ∈ c.marks ++ [m], ¬ Gave q := fun hn => by
    rcases r.til with h1 | h1
    · exact .inl h1
    · refine .inr fun q hq => ?_
      rcases List.mem_append.1 hq with hq | hq
      · exact h1 q hq
      · simp only [List.mem_singleton] at hq; subst hq; exact hn
  unfold noteM
  by_cases h1 : m.kind = 17 ∨ m.kind = 13 ∨ m.kind = 16
  · rw [if_pos h1, if_pos h1]
    refine ⟨r.op, r.kind, r.since, hm, r.got, .inl rfl, fun hc => ?_⟩
    simp only [decide_eq_true_eq] at hc ⊢
    rw [ht.breaks]; omega
  · rw [if_neg h1, if_neg h1]
    split
    · exact ⟨r.op, r.kind, r.since, hm, rfl, hg h1, r.cut⟩
    split
    · exact ⟨r.op, r.kind, r.since, hm, rfl, hg h1, r.cut⟩
    · exact ⟨r.op, r.kind, r.since, hm, r.got, hg h1, r.cut⟩
theorem rel_end {d b : Int} {t t' t1 : Tr} {c c' : Ca} {res got : Int} (hb : 0 ≤ b) (ht : RelT d b t t') (r : RelC d c c') (he : endM t c res got = some t1) : ∃ t1', endM t' c' res got = some t1' ∧ RelT d b t1 t1' := by
  have hrows : c'.rows = c.rows := by unfold Ca.rows; rw [r.op, r.kind]
  unfold endM at he ⊢
  rw [r.got, hrows, r.marks]
  split at he
  · rename_i hc
    rw [if_pos hc]
    simp only [Bool.and_eq_true] at hc
    split at he
    · rename_i h2
      rw [if_pos h2]
      split at he
      · rename_i h3
        simp only [Bool.and_eq_true] at h3
        rw [if_pos (by rw [r.op, h3.1, r.cut h3.2]; rfl)]
        simp only [Option.some.injEq] at he
        subst he
        exact ⟨_, rfl, ht.ops, ht.begun, by show t'.breaks - 1 = t.breaks - 1 + b; rw [ht.breaks]; omega, trivial⟩
      · cases he
    · rename_i h2
      rw [if_neg h2]
      split at he
      · rename_i h3
        rw [if_pos h3]
        split at he
        · rename_i h4
          have hl : lateM c' = true := by
            rw [← h4]
            unfold lateM
            rw [r.op, r.since]
            rcases r.til with h5 | h5
            · rw [h5, show c.til + d - (c.since + d) = c.til - c.since from by omega]
            · obtain ⟨m, hm, hg⟩ := comes_late (k := c.op.kind) (n := c.op.n) (kd := c.kind) (l := c.marks) (by have := hc.2; rw [h3] at this; exact this)
              exact (h5 m hm hg).elim
          rw [if_pos hl]
          simp only [Option.some.injEq] at he
          subst he
          exact ⟨_, rfl, ht.ops, ht.begun, ht.breaks, trivial⟩
        · cases he
      · rename_i h3
        rw [if_neg h3]
        simp only [Option.some.injEq] at he
        subst he
        exact ⟨_, rfl, ht.ops, ht.begun, ht.breaks, trivial⟩
  · cases he

/-- An event on both sides. -/
theorem ev_rel {d : Int} {b : Nat → Int} {σ σ' σ1 : St} {e : Ev} (hb : ∀ i, 0 ≤ b i) (h : RelS d b σ σ') (he : evM σ e = some σ1) (hn : σ'.now ≤ e.now + d) :
    ∃ σ1', evM σ' { e with now := e.now + d } = some σ1' ∧ RelS d b σ1 σ1' ∧ σ1.now = e.now ∧ σ1'.now = e.now + d := by
  obtain ⟨hbare, h0, h1, hnow, t, ht, hk⟩ := ev_parts he
  obtain ⟨t', ht'⟩ : ∃ t', σ'.threads[e.thread.toNat]? = some t' := ⟨_, List.getElem?_eq_getElem (by rw [h.len]; exact (List.getElem?_eq_some_iff.1 ht).1)⟩
  have q := h.th _ t t' ht ht'
  have E := ev_does (σ := σ') (e := { e with now := e.now + d }) (t := t') hbare h0 (by rw [h.len]; exact h1) hn ht'
  simp only at E
  rw [E]
  rcases hk with ⟨k, h2⟩ | ⟨k, c, hc, h2⟩ | ⟨k, c, t1, hc, h2, h3⟩ | ⟨k, h2⟩
  · rw [if_pos k]
    unfold beginM at h2 ⊢
    cases hc : t.call with
    | some c => rw [hc] at h2; simp at h2
    | none =>
      cases ho : t.ops[t.begun]? with
      | none => rw [hc, ho] at h2; simp at h2
      | some op =>
        rw [hc, ho] at h2
        simp only [Option.some.injEq] at h2
        subst h2
        rw [q.none hc, q.ops, q.begun, ho]
        refine ⟨_, rfl, ?_, rfl, rfl⟩
        refine rel_set h e.thread.toNat (t := { t with begun := t.begun + 1, call := some ⟨op, kindAt σ.obs op.obj, e.now, [], 0, 0, false⟩ }) (t' := { t' with ops := t.ops, begun := t.begun + 1, call := some ⟨op, kindAt σ'.obs op.obj, e.now + d, [], 0, 0, false⟩ }) ⟨rfl, rfl, q.breaks, ?_⟩ e.now (e.now + d) _ _ h.things
        exact ⟨rfl, by show kindAt σ'.obs _ = kindAt σ.obs _; rw [h.obs], rfl, rfl, rfl, .inr (fun m hm => by cases hm), fun f => by cases f⟩
  · obtain ⟨c', hc', r⟩ := q.some hc
    rw [if_neg (by omega), if_pos k]
    simp only [hc']
    obtain ⟨x, hx, hmay, hbg, rfl⟩ := mark_some h2
    have hrows : c'.rows = c.rows := by unfold Ca.rows; rw [r.op, r.kind]
    unfold markM
    simp only
    rw [h.things, r.op, hrows, r.marks]
    simp only at hx
    rw [hx]
    simp only
    rw [if_pos (by rw [hmay, hbg]; rfl)]
    refine ⟨_, rfl, ?_, trivial, rfl⟩
    have hs := rel_set h e.thread.toNat (t := { t with call := some (noteM e.now t c x e.m) }) (t' := { t' with call := some (noteM (e.now + d) t' c' x e.m) }) ⟨q.ops, q.begun, q.breaks, rel_note (hb _) q r x e.m⟩ e.now (e.now + d) (σ.things.set c.op.obj.toNat (doesM x e.thread.toNat e.m.kind e.m.v)) _ rfl
    by_cases h14 : e.m.kind = 14
    · simp only [if_pos h14]
      exact rel_meet hs x.offer.toNat c.op.n
    · simp only [if_neg h14]
      exact hs
  · obtain ⟨c', hc', r⟩ := q.some hc
    obtain ⟨t1', h4, h5⟩ := rel_end (hb _) q r h2
    rw [if_neg (by omega), if_neg (by omega), if_pos k]
    simp only [hc', h4, Option.map_some]
    subst h3
    exact ⟨_, rfl, rel_set h _ h5 _ _ _ _ h.things, rfl, rfl⟩
  · rw [if_neg (by omega), if_neg (by omega), if_neg (by omega), if_pos k]
    subst h2
    refine ⟨_, rfl, ?_, rfl, rfl⟩
    refine rel_set h e.thread.toNat (t := { t with breaks := t.breaks + 1 }) (t' := { t' with breaks := t'.breaks + 1 }) ⟨q.ops, q.begun, ?_, q.call⟩ _ _ _ _ h.things
    show t'.breaks + 1 = t.breaks + 1 + _
    rw [q.breaks]; omega

/-- A history on both sides. -/
theorem go_rel {d : Int} {b : Nat → Int} (hb : ∀ i, 0 ≤ b i) : ∀ (l : List Ev) {σ σ' σ1 : St} {i j : Nat}, RelS d b σ σ' → goM σ i l = .inr σ1 → (∀ e ∈ l.head?, σ'.now ≤ e.now + d) →
    ∃ σ1', goM σ' j (l.map fun e => { e with now := e.now + d }) = .inr σ1' ∧ RelS d b σ1 σ1'
  | [], σ, σ', σ1, i, j, h, hg, _ => by
    simp only [goM, Sum.inr.injEq] at hg
    subst hg
    exact ⟨σ', rfl, h⟩
  | e :: l, σ, σ', σ1, i, j, h, hg, hn => by
    simp only [goM] at hg
    cases he : evM σ e with
    | none => rw [he] at hg; simp at hg
    | some σ2 =>
      rw [he] at hg
      simp only at hg
      obtain ⟨σ2', h1, h2, h3, h4⟩ := ev_rel hb h he (hn e (by simp))
      have hn2 : ∀ e2 ∈ l.head?, σ2'.now ≤ e2.now + d := by
        intro e2 h5
        cases l with
        | nil => simp at h5
        | cons e3 l =>
          simp only [List.head?_cons, Option.mem_def, Option.some.injEq] at h5
          subst h5
          simp only [goM] at hg
          cases he3 : evM σ2 e3 with
          | none => rw [he3] at hg; simp at hg
          | some σ3 =>
            have := (ev_parts he3).2.2.2.1
            omega
      obtain ⟨σ1', h6, h7⟩ := go_rel hb l (j := j + 1) h2 hg hn2
      exact ⟨σ1', by simp only [List.map_cons, goM, h1]; exact h6, h7⟩

end Go.Proofs.YtbodlaiakcoabaaGreatDoor
end
section
namespace Go.Proofs.YtbodlaiakcoabaaGreatDoor
open Go.RowKit
set_option linter.unusedSimpArgs false
set_option linter.unusedVariables false

/-- A thread as it goes on: its program stays, its begun calls are so many more. -/
structure Grew (σ σ' : St) (i : Nat) (n : Nat) : Prop where
  th : ∀ t, σ.threads[i]? = some t → ∃ t', σ'.threads[i]? = some t' ∧ t'.ops = t.ops ∧ t'.begun = t.begun + n
theorem grew_refl (σ : St) (i : Nat) : Grew σ σ i 0 := ⟨fun t h => ⟨t, h, rfl, rfl⟩⟩
theorem Grew.trans {σ σ1 σ2 : St} {i n m : Nat} (h : Grew σ σ1 i n) (h1 : Grew σ1 σ2 i m) : Grew σ σ2 i (n + m) := ⟨fun t ht => by
  obtain ⟨t', a, b, c⟩ := h.th t ht
  obtain ⟨t2, a2, b2, c2⟩ := h1.th t' a
  exact ⟨t2, a2, b2.trans b, by omega⟩⟩
theorem grew_set (σ σ' : St) (j i : Nat) (t0 t1 : Tr) (n : Nat) (h0 : σ.threads[j]? = some t0) (hs : σ'.threads = σ.threads.set j t1) (ho : t1.ops = t0.ops) (hb : t1.begun = t0.begun + n) : Grew σ σ' i (if j = i then n else 0) := ⟨fun t ht => by
  rw [hs]
  have hlt := (List.getElem?_eq_some_iff.1 ht).1
  by_cases hj : j = i
  · subst hj
    rw [h0] at ht
    simp only [Option.some.injEq] at ht
    subst ht
    rw [if_pos rfl]
    exact ⟨t1, by rw [List.getElem?_set_self hlt], ho, hb⟩
  · rw [if_neg hj]
    exact ⟨t, by rw [List.getElem?_set_ne hj]; exact ht, rfl, rfl⟩⟩
theorem grew_meet (σ σ' : St) (i o : Nat) (n : Int) (hs : σ'.threads = meetM σ.threads o n) : Grew σ σ' i 0 := ⟨fun t ht => by
  rw [hs]
  have hlt := (List.getElem?_eq_some_iff.1 ht).1
  by_cases ho : i = o
  · subst ho
    cases hc : t.call with
    | none => exact ⟨t, by unfold meetM; rw [ht]; simp only [hc]; exact ht, rfl, rfl⟩
    | some c => exact ⟨{ t with call := some { c with marks := c.marks ++ [⟨0, 0⟩], got := n } }, by unfold meetM; rw [ht]; simp only [hc]; rw [List.getElem?_set_self hlt], rfl, rfl⟩
  · exact ⟨t, by rw [meet_at _ _ _ _ ho]; exact ht, rfl, rfl⟩⟩
/-- Whether an event begins a call of that thread. -/
def callP (i : Nat) (e : Ev) : Bool := e.thread == i && e.kind == 1
theorem ev_frame {σ σ' : St} {e : Ev} (he : evM σ e = some σ') : σ'.obs = σ.obs ∧ σ'.threads.length = σ.threads.length ∧ σ'.now = e.now ∧ ∀ i, Grew σ σ' i (if callP i e then 1 else 0) := by
  obtain ⟨hbare, h0, h1, hnow, t, ht, hk⟩ := ev_parts he
  have hcp : ∀ i : Nat, e.kind ≠ 1 → callP i e = false := fun i hn => by unfold callP; simp [hn]
  rcases hk with ⟨k, h2⟩ | ⟨k, c, hc, h2⟩ | ⟨k, c, t1, hc, h2, h3⟩ | ⟨k, h2⟩
  · unfold beginM at h2
    cases hc : t.call with
    | some c => rw [hc] at h2; simp at h2
    | none =>
      cases ho : t.ops[t.begun]? with
      | none => rw [hc, ho] at h2; simp at h2
      | some op =>
        rw [hc, ho] at h2
        simp only [Option.some.injEq] at h2
        subst h2
        refine ⟨rfl, by simp, rfl, fun i => ?_⟩
        have q := grew_set σ { σ with now := e.now, threads := σ.threads.set e.thread.toNat { t with begun := t.begun + 1, call := some ⟨op, kindAt σ.obs op.obj, e.now, [], 0, 0, false⟩ } } e.thread.toNat i t _ 1 ht rfl rfl rfl
        have e1 : (if callP i e = true then 1 else 0) = (if e.thread.toNat = i then 1 else 0) := by
          unfold callP
          by_cases hi : e.thread.toNat = i
          · rw [if_pos hi, if_pos (by simp [k]; omega)]
          · rw [if_neg hi, if_neg (by simp [k]; omega)]
        rw [e1]
        exact q
  · obtain ⟨x, hx, hmay, hbg, rfl⟩ := mark_some h2
    have hno := note_same e.now t c x e.m
    refine ⟨rfl, ?_, rfl, fun i => ?_⟩
    · by_cases h14 : e.m.kind = 14
      · simp only [if_pos h14, meet_len, List.length_set]
      · simp only [if_neg h14, List.length_set]
    · rw [show (if callP i e = true then 1 else 0) = 0 from by rw [hcp i (by omega)]; rfl]
      have q := grew_set σ { σ with threads := σ.threads.set e.thread.toNat { t with call := some (noteM e.now t c x e.m) } } e.thread.toNat i t _ 0 ht rfl rfl rfl
      rw [show (if e.thread.toNat = i then 0 else 0) = 0 from by split <;> rfl] at q
      by_cases h14 : e.m.kind = 14
      · have q2 := q.trans (grew_meet _ (i := i) (o := x.offer.toNat) (n := c.op.n) (σ' := { σ with things := σ.things.set c.op.obj.toNat (doesM x e.thread.toNat e.m.kind e.m.v), threads := meetM (σ.threads.set e.thread.toNat { t with call := some (noteM e.now t c x e.m) }) x.offer.toNat c.op.n, now := e.now }) rfl)
        simp only [if_pos h14]
        exact q2
      · simp only [if_neg h14]
        exact ⟨q.th⟩
  · obtain ⟨a1, a2, a3, a4, _, _⟩ := end_some h2
    subst h3
    refine ⟨rfl, by simp, rfl, fun i => ?_⟩
    rw [show (if callP i e = true then 1 else 0) = 0 from by rw [hcp i (by omega)]; rfl]
    have q := grew_set σ { σ with now := e.now, threads := σ.threads.set e.thread.toNat t1 } e.thread.toNat i t t1 0 ht rfl a3 a4
    rw [show (if e.thread.toNat = i then 0 else 0) = 0 from by split <;> rfl] at q
    exact q
  · subst h2
    refine ⟨rfl, by simp, rfl, fun i => ?_⟩
    rw [show (if callP i e = true then 1 else 0) = 0 from by rw [hcp i (by omega)]; rfl]
    have q := grew_set σ { σ with now := e.now, threads := σ.threads.set e.thread.toNat { t with breaks := t.breaks + 1 } } e.thread.toNat i t _ 0 ht rfl rfl rfl
    rw [show (if e.thread.toNat = i then 0 else 0) = 0 from by split <;> rfl] at q
    exact q
/-- When it is behind a history. -/
def lastM (n : Int) (l : List Ev) : Int := match l.getLast? with | none => n | some e => e.now
theorem lastM_cons (n : Int) (e : Ev) (l : List Ev) : lastM n (e :: l) = lastM e.now l := by
  unfold lastM
  cases l with
  | nil => rfl
  | cons f l => rw [List.getLast?_cons_cons]; cases h : (f :: l).getLast? with | none => simp at h | some g => rfl
theorem go_frame : ∀ (l : List Ev) {σ σ' : St} {i : Nat}, goM σ i l = .inr σ' → σ'.threads.length = σ.threads.length ∧ σ'.now = lastM σ.now l ∧ ∀ k, Grew σ σ' k (l.countP (callP k))
  | [], σ, σ', i, h => by
    simp only [goM, Sum.inr.injEq] at h
    subst h
    exact ⟨rfl, rfl, fun k => grew_refl _ k⟩
  | e :: l, σ, σ', i, h => by
    simp only [goM] at h
    cases he : evM σ e with
    | none => rw [he] at h; simp at h
    | some σ2 =>
      rw [he] at h
      simp only at h
      obtain ⟨h1, h2, h3, h4⟩ := ev_frame he
      obtain ⟨g1, g2, g3⟩ := go_frame l h
      refine ⟨g1.trans h2, by rw [g2, h3, lastM_cons], fun k => ?_⟩
      have q := (h4 k).trans (g3 k)
      rw [List.countP_cons, Nat.add_comm]
      exact q

/-- What may not be, whoever stands how. -/
theorem ev_back {σ : St} {e : Ev} (h : e.now < σ.now) : evM σ e = none := by
  unfold evM
  rw [if_neg (by simp; omega)]
theorem ev_nobody {σ : St} {e : Ev} (h : (σ.threads.length : Int) ≤ e.thread) : evM σ e = none := by
  unfold evM
  rw [if_neg (by simp; omega)]
theorem ev_idle {σ : St} {e : Ev} {t : Tr} (ht : σ.threads[e.thread.toNat]? = some t) (hc : t.call = none) (hk : e.kind = 2 ∨ e.kind = 3) : evM σ e = none := by
  cases he : evM σ e with
  | none => rfl
  | some σ' =>
    obtain ⟨_, _, _, _, s, hs, q⟩ := ev_parts he
    rw [ht] at hs
    simp only [Option.some.injEq] at hs
    subst hs
    rcases q with ⟨k, _⟩ | ⟨k, c, h, _⟩ | ⟨k, c, t1, h, _⟩ | ⟨k, _⟩
    · omega
    · rw [hc] at h; cases h
    · rw [hc] at h; cases h
    · omega
theorem ev_busy {σ : St} {e : Ev} {t : Tr} {c : Ca} (ht : σ.threads[e.thread.toNat]? = some t) (hc : t.call = some c) (hk : e.kind = 1) : evM σ e = none := by
  cases he : evM σ e with
  | none => rfl
  | some σ' =>
    obtain ⟨_, _, _, _, s, hs, q⟩ := ev_parts he
    rw [ht] at hs
    simp only [Option.some.injEq] at hs
    subst hs
    rcases q with ⟨k, h⟩ | ⟨k, _⟩ | ⟨k, _⟩ | ⟨k, _⟩
    · unfold beginM at h
      rw [hc] at h
      cases h
    · omega
    · omega
    · omega
/-- A call of a thread that is in none: if its program has one more. -/
theorem ev_call {σ : St} {i : Nat} {n : Int} {t : Tr} (ht : σ.threads[i]? = some t) (hc : t.call = none) (hn : σ.now ≤ n) : (evM σ ⟨1, i, n, ⟨0, 0⟩, 0, 0⟩).isSome = decide (t.begun < t.ops.length) := by
  have hlt := (List.getElem?_eq_some_iff.1 ht).1
  rw [ev_does (t := t) rfl (by simp) (by simp only; omega) hn (by simpa using ht)]
  simp only [if_pos]
  unfold beginM
  rw [hc]
  by_cases hb : t.begun < t.ops.length
  · rw [List.getElem?_eq_getElem hb]; simp [hb]
  · rw [List.getElem?_eq_none (by omega)]; simp [hb]
/-- More breaks ahead of all. -/
theorem ev_break {σ : St} {i : Nat} {n : Int} {t : Tr} (ht : σ.threads[i]? = some t) (hn : σ.now ≤ n) : evM σ ⟨4, i, n, ⟨0, 0⟩, 0, 0⟩ = some { σ with now := n, threads := σ.threads.set i { t with breaks := t.breaks + 1 } } := by
  have hlt := (List.getElem?_eq_some_iff.1 ht).1
  rw [ev_does (t := t) rfl (by simp) (by simp only; omega) hn (by simpa using ht)]
  simp

theorem rel_refl (σ : St) : RelS 0 (fun _ => 0) σ σ := ⟨rfl, rfl, rfl, fun i t t' h h' => by
  rw [h] at h'
  simp only [Option.some.injEq] at h'
  subst h'
  refine ⟨rfl, rfl, by omega, ?_⟩
  cases t.call with
  | none => trivial
  | some c => exact ⟨rfl, rfl, by omega, rfl, rfl, .inl (by omega), fun h => h⟩⟩
/-- The start beside itself, so much later. -/
theorem rel_start (obs : List Ob) (prs : List (List Cl)) (d : Int) : RelS d (fun _ => 0) (startM obs prs) (startM obs prs) := ⟨rfl, rfl, rfl, fun i t t' h h' => by
  rw [h] at h'
  simp only [Option.some.injEq] at h'
  subst h'
  refine ⟨rfl, rfl, by omega, ?_⟩
  have hm := List.mem_of_getElem? h
  unfold startM at hm
  simp only [List.mem_map] at hm
  obtain ⟨p, _, rfl⟩ := hm
  trivial⟩
/-- The start, and the start with a break. -/
theorem rel_break (obs : List Ob) (prs : List (List Cl)) (k : Nat) (n : Int) (t : Tr) (ht : (startM obs prs).threads[k]? = some t) :
    RelS 0 (fun i => if i = k then 1 else 0) (startM obs prs) { startM obs prs with now := n, threads := (startM obs prs).threads.set k { t with breaks := t.breaks + 1 } } := by
  refine ⟨rfl, rfl, by simp, fun i s s' h h' => ?_⟩
  simp only at h'
  have hm := List.mem_of_getElem? h
  unfold startM at hm
  simp only [List.mem_map] at hm
  obtain ⟨p, _, hp⟩ := hm
  have hlt := (List.getElem?_eq_some_iff.1 ht).1
  by_cases hi : i = k
  · subst hi
    rw [List.getElem?_set_self hlt] at h'
    rw [h] at ht
    simp only [Option.some.injEq] at ht h'
    subst ht
    subst h'
    refine ⟨rfl, rfl, by simp, ?_⟩
    subst hp
    trivial
  · rw [List.getElem?_set_ne (fun e => hi e.symm), h] at h'
    simp only [Option.some.injEq] at h'
    subst h'
    refine ⟨rfl, rfl, by simp [hi], ?_⟩
    subst hp
    trivial

/-- Breaks more than there were take nothing away. -/
theorem breaks_go {obs : List Ob} {prs : List (List Cl)} {l : List Ev} {σ : St} (h : goM (startM obs prs) 0 l = .inr σ) (k : Nat) (hk : k < prs.length) (n : Int) (hn : n = match l with | [] => 0 | e :: _ => e.now) :
    ∃ σ', goM (startM obs prs) 0 (⟨4, k, n, ⟨0, 0⟩, 0, 0⟩ :: l) = .inr σ' ∧ σ'.things = σ.things := by
  obtain ⟨t, ht⟩ : ∃ t, (startM obs prs).threads[k]? = some t := ⟨_, List.getElem?_eq_getElem (by simp [startM]; exact hk)⟩
  have h0 : (startM obs prs).now = 0 := rfl
  have hn0 : (startM obs prs).now ≤ n := by
    cases l with
    | nil => simp only at hn; omega
    | cons e l =>
      simp only at hn
      simp only [goM] at h
      cases he : evM (startM obs prs) e with
      | none => rw [he] at h; simp at h
      | some σ2 => have := (ev_parts he).2.2.2.1; omega
  have hev := ev_break ht hn0
  obtain ⟨σ', h1, h2⟩ := go_rel (d := 0) (b := fun i => if i = k then 1 else 0) (j := 1) (fun i => by split <;> omega) l (rel_break obs prs k n t ht) h (fun e he => by
    cases l with
    | nil => simp at he
    | cons f l =>
      simp only [List.head?_cons, Option.mem_def, Option.some.injEq] at he
      subst he
      simp only at hn
      simp only
      omega)
  refine ⟨σ', ?_, h2.things⟩
  simp only [goM, hev]
  have e1 : l.map (fun e => { e with now := e.now + 0 }) = l := by
    rw [List.map_congr_left (g := id) (fun e _ => by simp)]
    simp
  rw [e1] at h1
  exact h1
/-- A history whose times are all so much later. -/
theorem moves_go {obs : List Ob} {prs : List (List Cl)} {l : List Ev} {σ : St} (h : goM (startM obs prs) 0 l = .inr σ) (d : Int) (hd : 0 ≤ d) :
    ∃ σ', goM (startM obs prs) 0 (l.map fun e => { e with now := e.now + d }) = .inr σ' ∧ σ'.things = σ.things := by
  obtain ⟨σ', h1, h2⟩ := go_rel (d := d) (b := fun _ => 0) (j := 0) (fun i => Int.le_refl _) l (rel_start obs prs d) h (fun e he => by
    cases l with
    | nil => simp at he
    | cons f l =>
      simp only [List.head?_cons, Option.mem_def, Option.some.injEq] at he
      subst he
      simp only [goM] at h
      cases he : evM (startM obs prs) f with
      | none => rw [he] at h; simp at h
      | some σ2 => have := (ev_parts he).2.2.2.1; omega)
  exact ⟨σ', h1, h2.things⟩

end Go.Proofs.YtbodlaiakcoabaaGreatDoor
end
