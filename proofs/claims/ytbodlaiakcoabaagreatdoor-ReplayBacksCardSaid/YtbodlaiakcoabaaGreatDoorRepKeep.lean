/-
  Rows, plain mathematics: which marks an offer takes, which results want a giving up.
  Conditions: none.
  What stays true of how all stand, plain mathematics: things are sound, an offer's call is on.
  Conditions: the history is one that came to here.
  What each event keeps true of how all stand, plain mathematics.
  Conditions: the script may be; times are of 64 bits.
-/
import Derived.Test.YtbodlaiakcoabaaGreatDoorRepM
section
namespace Go.Proofs.YtbodlaiakcoabaaGreatDoor
open Go.RowKit
set_option linter.unusedSimpArgs false
set_option linter.unusedVariables false

/-- All places' marks meet q. -/
def Only (q : Mk → Prop) (r : Rw) : Prop := ∀ l, (r.look l).1 = true → ∀ m ∈ l, q m
theorem goP_only {q : Mk → Prop} : ∀ {ps : List (List Mk → Mk → Bool)} {pre l : List Mk}, (∀ P ∈ ps, ∀ pre m, P pre m = true → q m) → goP ps pre l = true → ∀ m ∈ l, q m
  | _, _, [], _, _ => fun m hm => by simp at hm
  | [], _, _ :: _, _, h => by simp [goP] at h
  | P :: ps, pre, a :: l, hp, h => by
    simp only [goP, Bool.and_eq_true] at h
    intro m hm
    rcases List.mem_cons.1 hm with rfl | hm
    · exact hp P (List.mem_cons_self ..) _ _ h.1
    · exact goP_only (fun Q hQ => hp Q (List.mem_cons_of_mem _ hQ)) h.2 m hm
theorem marks_only {q : Mk → Prop} {ps : List (List Mk → Mk → Bool)} {to : List Int} (hp : ∀ P ∈ ps, ∀ pre m, P pre m = true → q m) : Only q ⟨marksL ps, to⟩ := fun l h => goP_only hp h
theorem many_only {q : Mk → Prop} {each last : Mk → Bool} (h1 : ∀ m, each m = true → q m) (h2 : ∀ m, last m = true → q m) : ∀ l : List Mk, (manyL each last l).1 = true → ∀ m ∈ l, q m
  | [], _ => fun m hm => by simp at hm
  | a :: l, h => by
    intro m hm
    unfold manyL at h
    by_cases e : last a = true
    · rw [if_pos e] at h
      have hl : l = [] := List.isEmpty_iff.1 h
      subst hl
      simp only [List.mem_cons, List.not_mem_nil, or_false] at hm
      subst hm; exact h2 _ e
    · rw [if_neg e] at h
      by_cases e2 : each a = true
      · rw [if_pos e2] at h
        rcases List.mem_cons.1 hm with rfl | hm
        · exact h1 _ e2
        · exact many_only h1 h2 l h m hm
      · rw [if_neg e2] at h; simp at h
theorem ofP_only {k : Int} (q : Mk → Prop) (h : ∀ m : Mk, m.kind = k → q m) : ∀ pre m, ofP k pre m = true → q m := fun _ m e => h m (by simpa [ofP] using e)
theorem justP_only {k v : Int} (q : Mk → Prop) (h : ∀ m : Mk, m.kind = k → q m) : ∀ pre m, justP k v pre m = true → q m := fun _ m e => h m (by simp [justP] at e; exact e.1)
theorem takeP_only (q : Mk → Prop) (h : ∀ m : Mk, m.kind = 1 → q m) : ∀ pre m, takeP pre m = true → q m := fun _ m e => h m (by simp [takeP] at e; exact e.1)
def No15 (m : Mk) : Prop := m.kind ≠ 15
theorem of1 {k : Int} {to : List Int} (h : k ≠ 15) : Only No15 ⟨marksL [ofP k], to⟩ := marks_only (fun P hP => by
  simp only [List.mem_cons, List.not_mem_nil, or_false] at hP
  subst hP
  exact ofP_only _ (fun m e => by unfold No15; rw [e]; exact h))
theorem just1 {k v : Int} {to : List Int} (h : k ≠ 15) : Only No15 ⟨marksL [justP k v], to⟩ := marks_only (fun P hP => by
  simp only [List.mem_cons, List.not_mem_nil, or_false] at hP
  subst hP
  exact justP_only _ (fun m e => by unfold No15; rw [e]; exact h))
theorem none0 {to : List Int} : Only No15 ⟨marksL [], to⟩ := marks_only (fun P hP => by simp at hP)
theorem hold_15 (k : Int) : ∀ r ∈ holdRows k, Only No15 r := by
  unfold holdRows
  intro r hr
  split at hr
  · simp only [List.mem_cons, List.not_mem_nil, or_false] at hr
    rcases hr with rfl | rfl | rfl | rfl
    · exact of1 (by decide)
    · exact none0
    · exact just1 (by decide)
    · exact just1 (by decide)
  · split at hr
    · simp only [List.mem_cons, List.not_mem_nil, or_false] at hr
      rcases hr with rfl | rfl | rfl
      all_goals exact just1 (by decide)
    · simp only [List.mem_cons, List.not_mem_nil, or_false] at hr
      rcases hr with rfl | rfl
      all_goals exact just1 (by decide)
theorem read_15 (k : Int) : ∀ r ∈ readRows k, Only No15 r := by
  unfold readRows
  intro r hr
  split at hr
  · simp only [List.mem_cons, List.not_mem_nil, or_false] at hr
    rcases hr with rfl | rfl | rfl | rfl
    · exact of1 (by decide)
    · exact none0
    · exact just1 (by decide)
    · exact just1 (by decide)
  · split at hr
    · simp only [List.mem_cons, List.not_mem_nil, or_false] at hr
      rcases hr with rfl | rfl | rfl
      all_goals exact just1 (by decide)
    · simp only [List.mem_cons, List.not_mem_nil, or_false] at hr
      rcases hr with rfl | rfl
      all_goals exact just1 (by decide)
theorem sema_15 (k n : Int) : ∀ r ∈ semaRows k n, Only No15 r := by
  unfold semaRows
  intro r hr
  split at hr
  · simp only [List.mem_cons, List.not_mem_nil, or_false] at hr
    rcases hr with rfl | rfl | rfl
    · exact of1 (by decide)
    · exact none0
    · exact just1 (by decide)
  · split at hr
    · simp only [List.mem_cons, List.not_mem_nil, or_false] at hr
      rcases hr with rfl | rfl
      all_goals exact just1 (by decide)
    · split at hr
      · simp only [List.mem_cons, List.not_mem_nil, or_false] at hr
        rcases hr with rfl | rfl
        all_goals exact just1 (by decide)
      · simp only [List.mem_cons, List.not_mem_nil, or_false] at hr
        subst hr; exact of1 (by decide)
theorem latch_15 (k : Int) : ∀ r ∈ latchRows k, Only No15 r := by
  unfold latchRows
  intro r hr
  split at hr
  · simp only [List.mem_cons, List.not_mem_nil, or_false] at hr
    rcases hr with rfl | rfl | rfl
    · exact of1 (by decide)
    · exact none0
    · exact just1 (by decide)
  · simp only [List.mem_cons, List.not_mem_nil, or_false] at hr
    subst hr; exact of1 (by decide)
theorem signal_15 (k : Int) : ∀ r ∈ signalRows k, Only No15 r := by
  unfold signalRows waitRows
  intro r hr
  have h10 : ∀ pre m, ofP 10 pre m = true → No15 m := ofP_only _ (fun m e => by unfold No15; rw [e]; decide)
  have h13 : ∀ pre m, justP 13 0 pre m = true → No15 m := justP_only _ (fun m e => by unfold No15; rw [e]; decide)
  have h1 : ∀ pre m, takeP pre m = true → No15 m := takeP_only _ (fun m e => by unfold No15; rw [e]; decide)
  split at hr
  · simp only [List.cons_append, List.nil_append, List.mem_cons, List.not_mem_nil, or_false] at hr
    rcases hr with rfl | rfl | rfl | rfl | rfl
    · exact of1 (by decide)
    · exact none0
    · exact marks_only (fun P hP => by
        simp only [List.mem_cons, List.not_mem_nil, or_false] at hP
        rcases hP with rfl | rfl
        · exact h10
        · exact h1)
    · exact marks_only (fun P hP => by
        simp only [List.mem_cons, List.not_mem_nil, or_false] at hP
        rcases hP with rfl | rfl | rfl
        · exact h10
        · exact h13
        · exact h1)
    · exact just1 (by decide)
  · split at hr
    · simp only [List.mem_cons, List.not_mem_nil, or_false] at hr
      rcases hr with rfl | rfl | rfl
      · exact just1 (by decide)
      · exact of1 (by decide)
      · exact of1 (by decide)
    · simp only [List.mem_cons, List.not_mem_nil, or_false] at hr
      rcases hr with rfl | rfl
      · exact just1 (by decide)
      · intro l h
        exact many_only (q := No15) (fun m e => by unfold No15; simp at e; rw [e]; decide) (fun m e => by unfold No15; simp at e; rw [e]; decide) l h

theorem offer_swap {n v : Int} {ms : List Mk} (h : beginsM (swapRows n) (ms ++ [⟨15, v⟩]) = true) : ms = [] ∧ v = n := by
  unfold beginsM swapRows at h
  simp only [List.any_cons, List.any_nil, Bool.or_false, Bool.or_eq_true] at h
  have no : ∀ r : Rw, Only No15 r → (r.look (ms ++ [⟨15, v⟩])).1 = true → False := fun r hr e => hr _ e ⟨15, v⟩ (by simp) rfl
  rcases h with h | h | h | h | h
  · exact (no _ (of1 (by decide)) h).elim
  · exact (no _ none0 h).elim
  · exact (no _ (of1 (by decide)) h).elim
  · match ms, h with
    | [], h => simp [marksL, goP, justP] at h; exact ⟨rfl, h⟩
    | [a], h => simp [marksL, goP, justP, ofP] at h
    | a :: b :: l, h => cases l <;> simp [marksL, goP] at h
  · match ms, h with
    | [], h => simp [marksL, goP, justP] at h; exact ⟨rfl, h⟩
    | [a], h => simp [marksL, goP, justP, ofP] at h
    | a :: b :: l, h => cases l <;> simp [marksL, goP] at h
theorem swap_of {k kd : Int} (h : ofF k = kd) (h19 : k = 19) : kd = 5 := by subst h19; rw [← h]; rfl
/-- An offer is the first mark of a Swap, of what it offers. -/
theorem begins_offer {k n kd v : Int} {ms : List Mk} (h : beginsM (rowsM k n kd) (ms ++ [⟨15, v⟩]) = true) : k = 19 ∧ kd = 5 ∧ ms = [] ∧ v = n := by
  have no : ∀ rs : List Rw, (∀ r ∈ rs, Only No15 r) → beginsM rs (ms ++ [⟨15, v⟩]) = true → False := fun rs hr e => by
    unfold beginsM at e
    obtain ⟨r, hm, he⟩ := List.any_eq_true.1 e
    exact hr r hm _ he ⟨15, v⟩ (by simp) rfl
  unfold rowsM at h
  split at h
  · exact (no _ (fun r hr => by simp only [noRows, List.mem_cons, List.not_mem_nil, or_false] at hr; subst hr; exact none0) h).elim
  rename_i hof
  split at h
  · exact (no _ (signal_15 k) h).elim
  split at h
  · exact (no _ (sema_15 k n) h).elim
  split at h
  · exact (no _ (latch_15 k) h).elim
  split at h
  · exact (no _ (read_15 k) h).elim
  split at h
  · rename_i h19
    exact ⟨h19, swap_of (by simpa using hof) h19, offer_swap h⟩
  · exact (no _ (hold_15 k) h).elim
/-- What stands behind an offer. -/
theorem begins_after {n : Int} {m : Mk} (h : beginsM (rowsM 19 n 5) [⟨15, n⟩, m] = true) : m.kind = 0 ∨ m.kind = 16 := by
  have e : rowsM 19 n 5 = swapRows n := rfl
  rw [e] at h
  unfold beginsM swapRows at h
  simp [marksL, goP, justP, ofP, quitR, noneR, okR] at h
  exact h
/-- An offer alone is no row. -/
theorem comes_offer {n res : Int} : comesM (rowsM 19 n 5) [⟨15, n⟩] res = false := by
  have e : rowsM 19 n 5 = swapRows n := rfl
  rw [e]
  unfold comesM swapRows
  simp [marksL, goP, justP, ofP, quitR, noneR, okR]

/-- Who gives up. -/
def Gave (m : Mk) : Prop := m.kind = 17 ∨ m.kind = 13 ∨ m.kind = 16
def LateOk (r : Rw) : Prop := ∀ l, (r.look l).2 = true → (3 : Int) ∈ r.to → ∃ m ∈ l, Gave m
theorem late_not {look : List Mk → Bool × Bool} {to : List Int} (h : (3 : Int) ∉ to) : LateOk ⟨look, to⟩ := fun _ _ e => absurd e h
theorem late_quit : LateOk quitR := by
  intro l h _
  simp only [quitR, marksL, Bool.and_eq_true, beq_iff_eq, List.length_cons, List.length_nil] at h
  match l, h with
  | [m], h => exact ⟨m, by simp, .inl (by simpa [goP, ofP] using h.1)⟩
theorem late_all (k n kd : Int) : ∀ r ∈ rowsM k n kd, LateOk r := by
  intro r hr
  unfold rowsM noRows signalRows waitRows semaRows latchRows readRows swapRows holdRows at hr
  repeat' split at hr
  all_goals simp only [List.cons_append, List.nil_append, List.mem_cons, List.not_mem_nil, or_false] at hr
  all_goals (rcases hr with rfl | hr <;> try (rcases hr with rfl | hr) <;> try (rcases hr with rfl | hr) <;> try (rcases hr with rfl | hr) <;> try subst hr)
  all_goals first
    | exact late_quit
    | exact late_not (by decide)
    | (intro l h _
       simp only [marksL, Bool.and_eq_true, beq_iff_eq, List.length_cons, List.length_nil] at h
       match l, h with
       | [a, b], h => exact ⟨b, by simp, by simp [goP, ofP, justP] at h; unfold Gave; omega⟩)
    | (intro l h _
       simp only [marksL, Bool.and_eq_true, beq_iff_eq, List.length_cons, List.length_nil] at h
       match l, h with
       | [a, b, c], h => exact ⟨b, by simp, by simp [goP, ofP, justP] at h; unfold Gave; omega⟩)
theorem comes_late {k n kd : Int} {l : List Mk} (h : comesM (rowsM k n kd) l 3 = true) : ∃ m ∈ l, Gave m := by
  unfold comesM at h
  obtain ⟨r, hr, he⟩ := List.any_eq_true.1 h
  simp only [Bool.and_eq_true, List.contains_iff_mem] at he
  exact late_all k n kd r hr l he.1 he.2

end Go.Proofs.YtbodlaiakcoabaaGreatDoor
end
section
namespace Go.Proofs.YtbodlaiakcoabaaGreatDoor
open Go.RowKit
set_option linter.unusedSimpArgs false
set_option linter.unusedVariables false

/-- A thing that a history leaves. -/
structure Sound (x : Th) : Prop where
  n0 : 0 ≤ x.n
  n1 : x.n ≤ 1000
  ho : (x.owner = -1 ∧ x.holds = 0) ∨ (0 ≤ x.owner ∧ x.owner < 8 ∧ 1 ≤ x.holds ∧ x.holds ≤ 1000)
  r0 : ∀ i, 0 ≤ x.r i
  rs : x.sum ≤ 1000
  ws : x.kind ≠ 1 → x.ws = []
  wt : ∀ q ∈ x.ws, 0 ≤ q.thread ∧ q.thread < 8
  wo : ∀ q ∈ x.ws, q.thread ≠ x.owner
  nd : (x.ws.map Wt.thread).Nodup
  of : x.offer = -1 ∨ (0 ≤ x.offer ∧ x.offer < 8)

theorem nodup_few : ∀ (n : Nat) (l : List Int), l.Nodup → (∀ a ∈ l, 0 ≤ a ∧ a < n) → l.length ≤ n
  | 0, l, _, h => by
    cases l with
    | nil => simp
    | cons a l => have := h a (List.mem_cons_self ..); omega
  | n + 1, l, hn, h => by
    have hm : ∀ a ∈ l.erase (n : Int), 0 ≤ a ∧ a < n := fun a ha => by
      obtain ⟨h1, h2⟩ := (List.Nodup.mem_erase_iff hn).1 ha
      have := h a h2
      omega
    have ih := nodup_few n (l.erase (n : Int)) (hn.erase _) hm
    have hl := List.length_erase (a := (n : Int)) (l := l)
    split at hl <;> omega
theorem Sound.few {x : Th} (h : Sound x) : x.ws.length ≤ 8 := by
  have := nodup_few 8 (x.ws.map Wt.thread) h.nd (fun a ha => by
    obtain ⟨q, hq, rfl⟩ := List.mem_map.1 ha
    exact h.wt q hq)
  simpa using this
theorem Sound.fit {x : Th} (h : Sound x) : Fit x where
  n0 := by have := h.n0; omega
  n1 := by have := h.n1; omega
  h0 := by have := h.ho; omega
  h1 := by have := h.ho; omega
  r0 := fun i _ => by have := h.r0 i; omega
  r1 := fun i hi => by
    have := h.rs
    unfold Th.sum at this
    have h0 := h.r0 0; have h1 := h.r0 1; have h2 := h.r0 2; have h3 := h.r0 3; have h4 := h.r0 4; have h5 := h.r0 5; have h6 := h.r0 6; have h7 := h.r0 7
    obtain rfl | rfl | rfl | rfl | rfl | rfl | rfl | rfl : i = 0 ∨ i = 1 ∨ i = 2 ∨ i = 3 ∨ i = 4 ∨ i = 5 ∨ i = 6 ∨ i = 7 := by omega
    all_goals omega
  ws := by have := h.few; omega
  o0 := by have := h.of; omega
  o1 := by have := h.of; omega
  t0 := fun q hq => by have := h.wt q hq; omega
  t1 := fun q hq => by have := h.wt q hq; omega
theorem sound_new {o : Ob} (h : obF o = true) : Sound (newM o.kind o.n) := by
  have hn : 0 ≤ o.n ∧ o.n ≤ 1000 := by
    unfold obF cntF at h
    split at h
    · have : o.n = 0 := by simpa using h
      omega
    split at h
    · simpa using h
    split at h
    · simp at h; exact h.1
    split at h
    · simp at h; omega
    · simp at h
  exact ⟨hn.1, hn.2, .inl ⟨rfl, rfl⟩, fun _ => Int.le_refl 0, by show (0 : Int) + 0 + 0 + 0 + 0 + 0 + 0 + 0 ≤ 1000; decide, fun _ => rfl, fun q hq => by simp [newM] at hq, fun q hq => by simp [newM] at hq, by simp [newM], .inl rfl⟩
theorem sum_upd (r : Nat → Int) {t : Nat} (ht : t < 8) (v : Int) (x : Th) (hx : x.r = updR r t v) (y : Th) (hy : y.r = r) : x.sum = y.sum - r t + v := by
  unfold Th.sum
  rw [hx, hy]
  obtain rfl | rfl | rfl | rfl | rfl | rfl | rfl | rfl : t = 0 ∨ t = 1 ∨ t = 2 ∨ t = 3 ∨ t = 4 ∨ t = 5 ∨ t = 6 ∨ t = 7 := by omega
  all_goals (simp only [updR_at, updR_not r v (show (0:Nat) ≠ 1 by decide), updR]; (try simp); (try omega))
theorem upd_pos (r : Nat → Int) (h : ∀ i, 0 ≤ r i) (t : Nat) {v : Int} (hv : 0 ≤ v) (i : Nat) : 0 ≤ updR r t v i := by
  unfold updR; split
  · exact hv
  · exact h i

theorem may_in8 {x : Th} {t k v : Int} (h : mayM x t k v = true) : 0 ≤ t ∧ t < 8 ∧ mayInM x t k v = true := by
  unfold mayM at h
  split at h
  · simp at h
  · exact ⟨by omega, by omega, h⟩

theorem waits_not {ws : List Wt} {i : Int} (h : waitsM ws i = false) : ∀ q ∈ ws, q.thread ≠ i := fun q hq e => by
  unfold waitsM at h
  rw [List.any_eq_false] at h
  exact h q hq (by simp [e])
theorem take_sound {x : Th} (hs : Sound x) {i v : Int} (i0 : 0 ≤ i) (i1 : i < 8) (h : (x.owner = -1 ∧ ((x.kind = 1 ∧ 1 ≤ v ∧ v ≤ 1000 ∧ waitsM x.ws i = false) ∨ x.kind ≠ 1)) ∨ (x.owner = i ∧ x.holds < 1000)) : Sound (takeM x i v) := by
  have ho := hs.ho
  have hw : ∀ q ∈ x.ws, q.thread ≠ i := by
    rcases h with ⟨_, h | h⟩ | h
    · exact waits_not h.2.2.2
    · intro q hq; rw [hs.ws h] at hq; simp at hq
    · intro q hq; rw [← h.1]; exact hs.wo q hq
  unfold takeM
  split
  · rename_i hc
    simp only [Bool.and_eq_true, beq_iff_eq] at hc
    have hv : 1 ≤ v ∧ v ≤ 1000 := by
      rcases h with ⟨_, h | h⟩ | h
      · exact ⟨h.2.1, h.2.2.1⟩
      · exact absurd hc.1 h
      · omega
    exact ⟨hs.n0, hs.n1, .inr ⟨i0, i1, hv.1, hv.2⟩, hs.r0, hs.rs, hs.ws, hs.wt, hw, hs.nd, hs.of⟩
  · rename_i hc
    simp only [Bool.and_eq_true, beq_iff_eq, not_and] at hc
    have hv : 1 ≤ x.holds + 1 ∧ x.holds + 1 ≤ 1000 := by
      rcases h with ⟨h1, h | h⟩ | h
      · exact absurd h1 (hc h.1)
      · omega
      · omega
    exact ⟨hs.n0, hs.n1, .inr ⟨i0, i1, hv.1, hv.2⟩, hs.r0, hs.rs, hs.ws, hs.wt, hw, hs.nd, hs.of⟩
theorem free_sound {x : Th} (hs : Sound x) {i : Int} (i0 : 0 ≤ i) (h : x.owner = i) : Sound (freeM x) := by
  have ho := hs.ho
  unfold freeM
  split
  · rename_i hc
    have hc' : x.holds - 1 = 0 := by simpa using hc
    exact ⟨hs.n0, hs.n1, .inl ⟨rfl, hc'⟩, hs.r0, hs.rs, hs.ws, hs.wt, fun q hq => by have := hs.wt q hq; show q.thread ≠ -1; omega, hs.nd, hs.of⟩
  · rename_i hc
    have hc' : ¬ x.holds - 1 = 0 := by simpa using hc
    exact ⟨hs.n0, hs.n1, .inr ⟨by show 0 ≤ x.owner; omega, by show x.owner < 8; omega, by show 1 ≤ x.holds - 1; omega, by show x.holds - 1 ≤ 1000; omega⟩, hs.r0, hs.rs, hs.ws, hs.wt, hs.wo, hs.nd, hs.of⟩
theorem wait_sound {x : Th} (hs : Sound x) {i : Int} (i0 : 0 ≤ i) (i1 : i < 8) (h : x.owner = i) (hk : x.kind = 1) : Sound { x with ws := x.ws ++ [⟨i, x.holds⟩], owner := -1, holds := 0 } := by
  refine ⟨hs.n0, hs.n1, .inl ⟨rfl, rfl⟩, hs.r0, hs.rs, fun e => absurd hk e, fun q hq => ?_, fun q hq => ?_, ?_, hs.of⟩
  · rcases List.mem_append.1 hq with hq | hq
    · exact hs.wt q hq
    · simp only [List.mem_cons, List.not_mem_nil, or_false] at hq
      subst hq; show 0 ≤ i ∧ i < 8; exact ⟨i0, i1⟩
  · rcases List.mem_append.1 hq with hq | hq
    · have := hs.wt q hq; show q.thread ≠ -1; omega
    · simp only [List.mem_cons, List.not_mem_nil, or_false] at hq
      subst hq; show i ≠ -1; omega
  · show ((x.ws ++ [Wt.mk i x.holds]).map Wt.thread).Nodup
    rw [List.map_append, List.nodup_append]
    refine ⟨hs.nd, by simp, fun a ha b hb => ?_⟩
    simp only [List.map_cons, List.map_nil, List.mem_cons, List.not_mem_nil, or_false] at hb
    obtain ⟨q, hq, rfl⟩ := List.mem_map.1 ha
    have := hs.wo q hq
    rw [hb]; show q.thread ≠ i; omega
theorem ws_sound {x : Th} (hs : Sound x) (ws : List Wt) (h : ws.Sublist x.ws) : Sound { x with ws := ws } :=
  ⟨hs.n0, hs.n1, hs.ho, hs.r0, hs.rs, fun e => by
    have h' := h
    rw [hs.ws e] at h'
    exact List.sublist_nil.1 h', fun q hq => hs.wt q (h.mem hq), fun q hq => hs.wo q (h.mem hq), hs.nd.sublist (h.map _), hs.of⟩
theorem read_sound {x : Th} (hs : Sound x) {t : Nat} (ht : t < 8) (h : x.sum < 1000) : Sound { x with r := updR x.r t (x.r t + 1) } := by
  refine ⟨hs.n0, hs.n1, hs.ho, upd_pos _ hs.r0 t (by have := hs.r0 t; omega), ?_, hs.ws, hs.wt, hs.wo, hs.nd, hs.of⟩
  rw [sum_upd x.r ht (x.r t + 1) { x with r := updR x.r t (x.r t + 1) } rfl x rfl]; omega
theorem unread_sound {x : Th} (hs : Sound x) {t : Nat} (ht : t < 8) (h : 0 < x.r t) : Sound { x with r := updR x.r t (x.r t - 1) } := by
  refine ⟨hs.n0, hs.n1, hs.ho, upd_pos _ hs.r0 t (by omega), ?_, hs.ws, hs.wt, hs.wo, hs.nd, hs.of⟩
  rw [sum_upd x.r ht (x.r t - 1) { x with r := updR x.r t (x.r t - 1) } rfl x rfl]; have := hs.rs; omega
theorem n_sound {x : Th} (hs : Sound x) (n : Int) (h0 : 0 ≤ n) (h1 : n ≤ 1000) : Sound { x with n := n } := ⟨h0, h1, hs.ho, hs.r0, hs.rs, hs.ws, hs.wt, hs.wo, hs.nd, hs.of⟩
theorem offer_sound {x : Th} (hs : Sound x) (o it : Int) (h : o = -1 ∨ (0 ≤ o ∧ o < 8)) : Sound { x with offer := o, item := it } := ⟨hs.n0, hs.n1, hs.ho, hs.r0, hs.rs, hs.ws, hs.wt, hs.wo, hs.nd, h⟩
theorem quit_17 {k v : Int} (h : quitM k v = true) : k = 17 := by
  unfold quitM at h
  simp only [Bool.and_eq_true, beq_iff_eq] at h
  exact h.1

theorem held_lock {x : Th} (hs : Sound x) {i k v : Int} (i0 : 0 ≤ i) (i1 : i < 8) (hk : x.kind = 1) (h : (lockMayM x i k v || quitM k v) = true) : Sound (heldM x i k v) := by
  have h17 : quitM k v = true → k = 17 := quit_17
  rw [Bool.or_eq_true] at h
  unfold heldM
  split
  · rename_i k1
    subst k1
    rcases h with h | h
    · unfold lockMayM isForM onceM at h
      rw [if_pos rfl] at h
      simp at h
      refine take_sound hs i0 i1 ?_
      rcases h with h | h
      · exact .inl ⟨h.1.1.1, .inl ⟨hk, h.1.1.2, h.1.2, by simpa using h.2⟩⟩
      · exact .inr ⟨h.2.1, h.2.2⟩
    · have := h17 h; omega
  split
  · rename_i k1 k3
    subst k3
    rcases h with h | h
    · unfold lockMayM at h
      simp at h
      exact free_sound hs i0 h.2
    · have := h17 h; omega
  split
  · rename_i k1 k3 k2
    subst k2
    rcases h with h | h
    · unfold lockMayM at h; simp at h
    · have := h17 h; omega
  split
  · rename_i k1 k3 k2 k4
    subst k4
    rcases h with h | h
    · unfold lockMayM at h; simp at h
    · have := h17 h; omega
  split
  · rename_i k1 k3 k2 k4 k10
    subst k10
    rcases h with h | h
    · unfold lockMayM at h
      simp at h
      exact wait_sound hs i0 i1 h.1 hk
    · have := h17 h; omega
  split
  · exact ws_sound hs _ (List.tail_sublist _)
  split
  · exact ws_sound hs _ (List.filter_sublist)
  · exact hs
theorem held_rw {x : Th} (hs : Sound x) {i k v : Int} (i0 : 0 ≤ i) (i1 : i < 8) (hk : x.kind ≠ 1) (h : (rwMayM x i k v || quitM k v) = true) : Sound (heldM x i k v) := by
  have h17 : quitM k v = true → k = 17 := quit_17
  have ht : i.toNat < 8 := by omega
  rw [Bool.or_eq_true] at h
  unfold heldM
  split
  · rename_i k1
    subst k1
    rcases h with h | h
    · unfold rwMayM onceM at h
      rw [if_pos rfl] at h
      simp at h
      refine take_sound hs i0 i1 ?_
      rcases h.2 with h | h
      · exact .inl ⟨h.1, .inr hk⟩
      · exact .inr ⟨h.1, h.2⟩
    · have := h17 h; omega
  split
  · rename_i k1 k3
    subst k3
    rcases h with h | h
    · unfold rwMayM at h
      simp at h
      exact free_sound hs i0 h.2
    · have := h17 h; omega
  split
  · rename_i k1 k3 k2
    subst k2
    rcases h with h | h
    · unfold rwMayM at h
      simp at h
      exact read_sound hs ht h.2
    · have := h17 h; omega
  split
  · rename_i k1 k3 k2 k4
    subst k4
    rcases h with h | h
    · unfold rwMayM at h
      simp at h
      exact unread_sound hs ht h.2
    · have := h17 h; omega
  split
  · rename_i k1 k3 k2 k4 k10
    subst k10
    rcases h with h | h
    · unfold rwMayM at h; simp at h
    · have := h17 h; omega
  split
  · exact ws_sound hs _ (List.tail_sublist _)
  split
  · exact ws_sound hs _ (List.filter_sublist)
  · exact hs
theorem count_sema {x : Th} (hs : Sound x) {k v : Int} (h : (semaMayM x.n k v || quitM k v) = true) : Sound (countM x k v) := by
  have h17 : quitM k v = true → k = 17 := quit_17
  have n0 := hs.n0
  have n1 := hs.n1
  rw [Bool.or_eq_true] at h
  unfold countM
  split
  · rename_i hk
    refine n_sound hs _ ?_ ?_
    all_goals (rcases h with h | h)
    all_goals (try (have := h17 h; omega))
    all_goals (unfold semaMayM overM at h; rcases hk with rfl | rfl | rfl <;> simp at h <;> omega)
  split
  · rename_i hk
    subst hk
    rcases h with h | h
    · unfold semaMayM overM at h
      simp at h
      exact n_sound hs _ (by omega) (by omega)
    · have := h17 h; omega
  · exact hs
theorem count_latch {x : Th} (hs : Sound x) {k v : Int} (h : (latchMayM x.n k v || quitM k v) = true) : Sound (countM x k v) := by
  have h17 : quitM k v = true → k = 17 := quit_17
  have n0 := hs.n0
  have n1 := hs.n1
  rw [Bool.or_eq_true] at h
  unfold countM
  split
  · rename_i hk
    refine n_sound hs _ ?_ ?_
    all_goals (rcases h with h | h)
    all_goals (try (have := h17 h; omega))
    all_goals (unfold latchMayM at h; rcases hk with rfl | rfl | rfl <;> simp at h <;> omega)
  split
  · rename_i hk
    subst hk
    rcases h with h | h
    · unfold latchMayM at h; simp at h
    · have := h17 h; omega
  · exact hs
theorem swap_sound {x : Th} (hs : Sound x) {i k v : Int} (i0 : 0 ≤ i) (i1 : i < 8) : Sound (swapM x i k v) := by
  unfold swapM
  split
  · exact offer_sound hs _ _ (.inr ⟨i0, i1⟩)
  split
  · exact offer_sound hs _ _ (.inl rfl)
  · exact hs
theorem sound_do {x : Th} (hs : Sound x) {i k v : Int} (h : mayM x i k v = true) : Sound (doesM x i k v) := by
  obtain ⟨i0, i1, h⟩ := may_in8 h
  unfold mayInM at h
  unfold doesM
  by_cases k1 : x.kind = 1
  · simp only [k1, beq_self_eq_true, if_true] at h ⊢
    exact held_lock hs i0 i1 k1 h
  by_cases k2 : x.kind = 2
  · simp [k2] at h ⊢
    exact count_sema hs (by simpa using h)
  by_cases k3 : x.kind = 3
  · simp [k3] at h ⊢
    exact count_latch hs (by simpa using h)
  by_cases k4 : x.kind = 4
  · simp [k4] at h ⊢
    exact held_rw hs i0 i1 k1 (by simpa using h)
  by_cases k5 : x.kind = 5
  · simp [k5] at h ⊢
    exact swap_sound hs i0 i1
  · simp [k1, k2, k3, k4, k5] at h

/-- What a mark does to an offer. -/
theorem offer_do {x : Th} {i k v : Int} (h : mayM x i k v = true) :
    (k = 15 ∧ x.offer = -1 ∧ (doesM x i k v).offer = i) ∨ (k = 14 ∧ x.offer = v ∧ x.offer ≠ -1 ∧ x.offer ≠ i ∧ (doesM x i k v).offer = -1) ∨ (k = 16 ∧ x.offer = i ∧ (doesM x i k v).offer = -1) ∨ (k ≠ 14 ∧ k ≠ 15 ∧ k ≠ 16 ∧ k ≠ 0 ∧ (doesM x i k v).offer = x.offer) := by
  obtain ⟨i0, i1, hm⟩ := may_in8 h
  clear h
  have h := hm
  clear hm
  unfold mayInM at h
  unfold doesM
  have h17 : quitM k v = true → k = 17 := quit_17
  by_cases k5 : x.kind = 5
  · simp [k5] at h ⊢
    unfold swapM
    rcases h with h | h
    · unfold swapMayM at h
      split at h
      · rename_i e; subst e; simp at h; exact .inl ⟨rfl, h.1.1, rfl⟩
      split at h
      · rename_i e1 e; subst e; simp at h; exact .inr (.inl ⟨rfl, h.1.1, h.1.2, h.2, rfl⟩)
      split at h
      · rename_i e1 e2 e; subst e; simp at h; exact .inr (.inr (.inl ⟨rfl, h.2, rfl⟩))
      · simp at h
    · have := h17 h
      subst this; simp
  · have hq : (heldM x i k v).offer = x.offer := by
      unfold heldM takeM freeM
      repeat' split
      all_goals rfl
    have hc : (countM x k v).offer = x.offer := by
      unfold countM
      repeat' split
      all_goals rfl
    have hd : (if x.kind == 1 then heldM x i k v else if x.kind == 4 then heldM x i k v else if x.kind == 2 then countM x k v else if x.kind == 3 then countM x k v else if x.kind == 5 then swapM x i k v else x).offer = x.offer := by
      repeat' split
      all_goals first
        | exact hq
        | exact hc
        | rfl
        | (rename_i e; exact absurd (by simpa using e) k5)
    refine .inr (.inr (.inr ⟨?_, ?_, ?_, ?_, hd⟩))
    all_goals (rintro rfl)
    all_goals (simp [lockMayM, semaMayM, latchMayM, rwMayM, quitM, k5] at h)

end Go.Proofs.YtbodlaiakcoabaaGreatDoor
end
section
namespace Go.Proofs.YtbodlaiakcoabaaGreatDoor
open Go.RowKit
set_option linter.unusedSimpArgs false
set_option linter.unusedVariables false

structure CallGood (k : Nat) (σ : St) (t : Tr) (c : Ca) : Prop where
  obj0 : 0 ≤ c.op.obj
  obj1 : c.op.obj < σ.obs.length
  since0 : 0 ≤ c.since
  since1 : c.since ≤ σ.now
  til0 : 0 ≤ c.til
  til1 : c.til ≤ σ.now
  few : c.marks.length ≤ k
  pos : 1 ≤ t.begun
structure ThGood (k : Nat) (σ : St) (t : Tr) : Prop where
  begun : t.begun ≤ t.ops.length
  ops : t.ops.length ≤ 16
  obj : ∀ op ∈ t.ops, 0 ≤ op.obj ∧ op.obj < σ.obs.length
  b0 : -(k : Int) ≤ t.breaks
  b1 : t.breaks ≤ k
  call : ∀ c, t.call = some c → CallGood k σ t c
/-- An offer's call is on. -/
def Offers (σ : St) : Prop := ∀ (j : Nat) (x : Th), σ.things[j]? = some x → x.offer ≠ -1 → ∃ t c, 0 ≤ x.offer ∧ σ.threads[x.offer.toNat]? = some t ∧ t.call = some c ∧ c.op.obj = j ∧ c.marks = [⟨15, c.op.n⟩] ∧ c.op.kind = 19 ∧ c.kind = 5
structure Good (k : Nat) (σ : St) : Prop where
  nthr : σ.threads.length ≤ 8
  nobs : σ.obs.length ≤ 6
  nth : σ.things.length = σ.obs.length
  now0 : 0 ≤ σ.now
  now1 : σ.now ≤ 9223372036854775807
  sound : ∀ x ∈ σ.things, Sound x
  th : ∀ t ∈ σ.threads, ThGood k σ t
  offer : Offers σ

theorem CallGood.more {k : Nat} {σ σ' : St} {t t' : Tr} {c : Ca} (h : CallGood k σ t c) (ho : σ'.obs = σ.obs) (hn : σ.now ≤ σ'.now) (hb : t.begun ≤ t'.begun) : CallGood (k + 1) σ' t' c :=
  ⟨h.obj0, by rw [ho]; exact h.obj1, h.since0, Int.le_trans h.since1 hn, h.til0, Int.le_trans h.til1 hn, Nat.le_succ_of_le h.few, Nat.le_trans h.pos hb⟩
theorem ThGood.more {k : Nat} {σ σ' : St} {t : Tr} (h : ThGood k σ t) (ho : σ'.obs = σ.obs) (hn : σ.now ≤ σ'.now) : ThGood (k + 1) σ' t :=
  ⟨h.begun, h.ops, by rw [ho]; exact h.obj, by have := h.b0; omega, by have := h.b1; omega, fun c hc => (h.call c hc).more ho hn (Nat.le_refl _)⟩
theorem mem_set {α : Type} {l : List α} {i : Nat} {a b : α} (h : b ∈ l.set i a) : b = a ∨ b ∈ l := by
  rcases List.mem_or_eq_of_mem_set h with h | h
  · exact .inr h
  · exact .inl h
/-- A later time. -/
theorem Good.later {k : Nat} {σ : St} (h : Good k σ) {n : Int} (h0 : σ.now ≤ n) (h1 : n ≤ 9223372036854775807) : Good k { σ with now := n } :=
  ⟨h.nthr, h.nobs, h.nth, Int.le_trans h.now0 h0, h1, h.sound, fun t ht => by
    have q := h.th t ht
    exact ⟨q.begun, q.ops, q.obj, q.b0, q.b1, fun c hc => by
      have r := q.call c hc
      exact ⟨r.obj0, r.obj1, r.since0, Int.le_trans r.since1 h0, r.til0, Int.le_trans r.til1 h0, r.few, r.pos⟩⟩, h.offer⟩
/-- A thread that stands otherwise, whose call is no offer, or the same. -/
theorem Good.set {k : Nat} {σ : St} (h : Good k σ) (i : Nat) (t t' : Tr) (ht : σ.threads[i]? = some t) (hg : ThGood (k + 1) σ t')
    (ho : ∀ c, t.call = some c → c.op.kind = 19 → c.kind = 5 → c.marks = [⟨15, c.op.n⟩] → t'.call = some c) : Good (k + 1) { σ with threads := σ.threads.set i t' } := by
  have hlt := (List.getElem?_eq_some_iff.1 ht).1
  refine ⟨by simpa using h.nthr, h.nobs, h.nth, h.now0, h.now1, h.sound, fun s hs => ?_, fun j x hj hne => ?_⟩
  · rcases mem_set hs with rfl | hs
    · exact ⟨hg.begun, hg.ops, hg.obj, hg.b0, hg.b1, fun c hc => by
        have q := hg.call c hc
        exact ⟨q.obj0, q.obj1, q.since0, q.since1, q.til0, q.til1, q.few, q.pos⟩⟩
    · exact (h.th s hs).more rfl (Int.le_refl _)
  · obtain ⟨s, c, h0, h1, h2, h3, h4, h5, h6⟩ := h.offer j x hj hne
    by_cases e : i = x.offer.toNat
    · rw [← e, ht] at h1
      simp only [Option.some.injEq] at h1
      subst h1
      exact ⟨t', c, h0, by rw [← e]; exact List.getElem?_set_self hlt, ho c h2 h5 h6 h4, h3, h4, h5, h6⟩
    · exact ⟨s, c, h0, by show (σ.threads.set i t')[x.offer.toNat]? = _; rw [List.getElem?_set_ne e]; exact h1, h2, h3, h4, h5, h6⟩

theorem good_begin {k : Nat} {σ σ' : St} {i : Nat} {t : Tr} (h : Good k σ) (ht : σ.threads[i]? = some t) (hb : beginM σ i t = some σ') : Good (k + 1) σ' := by
  unfold beginM at hb
  have hg := h.th t (List.mem_of_getElem? ht)
  cases hc : t.call with
  | some c => rw [hc] at hb; simp at hb
  | none =>
    cases ho : t.ops[t.begun]? with
    | none => rw [hc, ho] at hb; simp at hb
    | some op =>
      rw [hc, ho] at hb
      simp only [Option.some.injEq] at hb
      subst hb
      have hlt := (List.getElem?_eq_some_iff.1 ho).1
      have hob := hg.obj op (List.mem_of_getElem? ho)
      refine h.set i t _ ht ⟨by show t.begun + 1 ≤ t.ops.length; omega, hg.ops, hg.obj, by have := hg.b0; show _ ≤ t.breaks; omega, by have := hg.b1; show t.breaks ≤ _; omega, fun c e => ?_⟩ (fun c e => by rw [hc] at e; cases e)
      simp only [Option.some.injEq] at e
      subst e
      exact ⟨hob.1, hob.2, h.now0, Int.le_refl _, Int.le_refl _, h.now0, Nat.zero_le _, Nat.succ_pos _⟩
theorem good_break {k : Nat} {σ : St} {i : Nat} {t : Tr} (h : Good k σ) (ht : σ.threads[i]? = some t) : Good (k + 1) { σ with threads := σ.threads.set i { t with breaks := t.breaks + 1 } } := by
  have hg := h.th t (List.mem_of_getElem? ht)
  refine h.set i t _ ht ⟨hg.begun, hg.ops, hg.obj, by have := hg.b0; show _ ≤ t.breaks + 1; omega, by have := hg.b1; show t.breaks + 1 ≤ _; omega, fun c e => ?_⟩ (fun c e _ _ _ => e)
  have q := hg.call c e
  exact ⟨q.obj0, q.obj1, q.since0, q.since1, q.til0, q.til1, Nat.le_succ_of_le q.few, q.pos⟩
theorem end_some {t t' : Tr} {c : Ca} {res got : Int} (h : endM t c res got = some t') : comesM c.rows c.marks res = true ∧ t'.call = none ∧ t'.ops = t.ops ∧ t'.begun = t.begun ∧ t.breaks - 1 ≤ t'.breaks ∧ t'.breaks ≤ t.breaks := by
  unfold endM at h
  split at h
  · rename_i hc
    simp only [Bool.and_eq_true] at hc
    refine ⟨hc.2, ?_⟩
    split at h
    · split at h
      · simp only [Option.some.injEq] at h; subst h; exact ⟨rfl, rfl, rfl, Int.le_refl _, by show t.breaks - 1 ≤ t.breaks; omega⟩
      · simp at h
    split at h
    · split at h
      · simp only [Option.some.injEq] at h; subst h; exact ⟨rfl, rfl, rfl, by show t.breaks - 1 ≤ t.breaks; omega, Int.le_refl _⟩
      · simp at h
    · simp only [Option.some.injEq] at h; subst h; exact ⟨rfl, rfl, rfl, by show t.breaks - 1 ≤ t.breaks; omega, Int.le_refl _⟩
  · simp at h
theorem good_end {k : Nat} {σ : St} {i : Nat} {t t' : Tr} {c : Ca} {res got : Int} (h : Good k σ) (ht : σ.threads[i]? = some t) (hc : t.call = some c) (he : endM t c res got = some t') : Good (k + 1) { σ with threads := σ.threads.set i t' } := by
  have hg := h.th t (List.mem_of_getElem? ht)
  obtain ⟨h1, h2, h3, h4, h5, h6⟩ := end_some he
  refine h.set i t t' ht ⟨by rw [h3, h4]; exact hg.begun, by rw [h3]; exact hg.ops, by rw [h3]; exact hg.obj, by have := hg.b0; omega, by have := hg.b1; omega, fun c' e => by rw [h2] at e; cases e⟩ (fun c' e k1 k2 k3 => ?_)
  rw [hc] at e
  simp only [Option.some.injEq] at e
  subst e
  unfold Ca.rows at h1
  rw [k1, k2, k3, comes_offer] at h1
  cases h1

theorem note_same (now : Int) (t : Tr) (c : Ca) (x : Th) (m : Mk) : (noteM now t c x m).op = c.op ∧ (noteM now t c x m).kind = c.kind ∧ (noteM now t c x m).since = c.since ∧ (noteM now t c x m).marks = c.marks ++ [m] ∧ ((noteM now t c x m).til = c.til ∨ (noteM now t c x m).til = now) := by
  unfold noteM
  split
  · exact ⟨rfl, rfl, rfl, rfl, .inr rfl⟩
  split
  · exact ⟨rfl, rfl, rfl, rfl, .inl rfl⟩
  split
  · exact ⟨rfl, rfl, rfl, rfl, .inl rfl⟩
  · exact ⟨rfl, rfl, rfl, rfl, .inl rfl⟩
/-- What a mark that may be tells. -/
theorem mark_some {σ σ' : St} {i : Nat} {t : Tr} {c : Ca} {m : Mk} (h : markM σ i t c m = some σ') : ∃ x, σ.things[c.op.obj.toNat]? = some x ∧ mayM x i m.kind m.v = true ∧ beginsM c.rows (c.marks ++ [m]) = true ∧
    σ' = { σ with things := σ.things.set c.op.obj.toNat (doesM x i m.kind m.v), threads := if m.kind = 14 then meetM (σ.threads.set i { t with call := some (noteM σ.now t c x m) }) x.offer.toNat c.op.n else σ.threads.set i { t with call := some (noteM σ.now t c x m) } } := by
  unfold markM at h
  cases hx : σ.things[c.op.obj.toNat]? with
  | none => rw [hx] at h; simp at h
  | some x =>
    rw [hx] at h
    simp only at h
    split at h
    · rename_i hc
      simp only [Bool.and_eq_true] at hc
      simp only [Option.some.injEq] at h
      exact ⟨x, rfl, hc.1, hc.2, h.symm⟩
    · simp at h

theorem meet_at (ts : List Tr) (o : Nat) (n : Int) (p : Nat) (h : p ≠ o) : (meetM ts o n)[p]? = ts[p]? := by
  unfold meetM
  split
  · split
    · rw [List.getElem?_set_ne (Ne.symm h)]
    · rfl
  · rfl
theorem meet_len (ts : List Tr) (o : Nat) (n : Int) : (meetM ts o n).length = ts.length := by
  unfold meetM
  split
  · split
    · simp
    · rfl
  · rfl
theorem meet_mem {ts : List Tr} {o : Nat} {n : Int} {s : Tr} (h : s ∈ meetM ts o n) : s ∈ ts ∨ ∃ s' c', ts[o]? = some s' ∧ s'.call = some c' ∧ s = { s' with call := some { c' with marks := c'.marks ++ [⟨0, 0⟩], got := n } } := by
  unfold meetM at h
  split at h
  · rename_i s' hs
    split at h
    · rename_i c' hc
      rcases mem_set h with e | h
      · exact .inr ⟨s', c', hs, hc, e⟩
      · exact .inl h
    · exact .inl h
  · exact .inl h
theorem good_mark {k : Nat} {σ σ' : St} {i : Nat} {t : Tr} {c : Ca} {m : Mk} (h : Good k σ) (ht : σ.threads[i]? = some t) (hc : t.call = some c) (he : markM σ i t c m = some σ') : Good (k + 1) σ' := by
  have hg := h.th t (List.mem_of_getElem? ht)
  have hq := hg.call c hc
  have hlt := (List.getElem?_eq_some_iff.1 ht).1
  obtain ⟨x, hx, hmay, hbeg, rfl⟩ := mark_some he
  obtain ⟨n1, n2, n3, n4, n5⟩ := note_same σ.now t c x m
  have hjl := (List.getElem?_eq_some_iff.1 hx).1
  have hxm := List.mem_of_getElem? hx
  have hdo := offer_do hmay
  -- the thread itself
  have hgt : ThGood (k + 1) σ { t with call := some (noteM σ.now t c x m) } :=
    ⟨hg.begun, hg.ops, hg.obj, by have := hg.b0; show _ ≤ t.breaks; omega, by have := hg.b1; show t.breaks ≤ _; omega, fun c' e => by
      simp only [Option.some.injEq] at e
      subst e
      exact ⟨by rw [n1]; exact hq.obj0, by rw [n1]; exact hq.obj1, by rw [n3]; exact hq.since0, by rw [n3]; exact hq.since1, by rcases n5 with e | e <;> rw [e]; exact hq.til0; exact h.now0, by rcases n5 with e | e <;> rw [e]; exact hq.til1; exact Int.le_refl _, by rw [n4]; simp; exact hq.few, hq.pos⟩⟩
  have hoth : ∀ s ∈ σ.threads.set i { t with call := some (noteM σ.now t c x m) }, ThGood (k + 1) σ s := fun s hs => by
    rcases mem_set hs with rfl | hs
    · exact hgt
    · exact (h.th s hs).more rfl (Int.le_refl _)
  -- the threads, whoever meets
  obtain ⟨T, hT⟩ : ∃ T, (if m.kind = 14 then meetM (σ.threads.set i { t with call := some (noteM σ.now t c x m) }) x.offer.toNat c.op.n else σ.threads.set i { t with call := some (noteM σ.now t c x m) }) = T := ⟨_, rfl⟩
  rw [hT]
  have hxo : m.kind = 14 → x.offer.toNat ≠ i ∧ ∃ s c', σ.threads[x.offer.toNat]? = some s ∧ s.call = some c' ∧ c'.op.obj = (c.op.obj.toNat : Nat) ∧ c'.marks = [⟨15, c'.op.n⟩] := fun e => by
    rcases hdo with h1 | h1 | h1 | h1
    · omega
    · obtain ⟨s, c', a0, a1, a2, a3, a4, _, _⟩ := h.offer _ x hx h1.2.2.1
      exact ⟨by omega, s, c', a1, a2, a3, a4⟩
    · omega
    · omega
  have hTi : T[i]? = some { t with call := some (noteM σ.now t c x m) } := by
    rw [← hT]
    split
    · rename_i e
      rw [meet_at _ _ _ _ (Ne.symm (hxo e).1)]
      exact List.getElem?_set_self hlt
    · exact List.getElem?_set_self hlt
  have hTp : ∀ p, p ≠ i → (m.kind = 14 → p ≠ x.offer.toNat) → T[p]? = σ.threads[p]? := fun p h1 h2 => by
    rw [← hT]
    split
    · rename_i e
      rw [meet_at _ _ _ _ (h2 e), List.getElem?_set_ne (Ne.symm h1)]
    · rw [List.getElem?_set_ne (Ne.symm h1)]
  refine ⟨?_, h.nobs, by simpa using h.nth, h.now0, h.now1, fun y hy => ?_, fun s hs => ?_, fun j y hj hne => ?_⟩
  · show T.length ≤ 8
    rw [← hT]
    split
    · rw [meet_len]; simpa using h.nthr
    · simpa using h.nthr
  · rcases mem_set hy with rfl | hy
    · exact sound_do (h.sound x hxm) hmay
    · exact h.sound y hy
  · have hs' : s ∈ T := hs
    have fin : ∀ s, ThGood (k + 1) σ s → ThGood (k + 1) { σ with things := σ.things.set c.op.obj.toNat (doesM x i m.kind m.v), threads := T } s := fun s q =>
      ⟨q.begun, q.ops, q.obj, q.b0, q.b1, fun c hc => by
        have r := q.call c hc
        exact ⟨r.obj0, r.obj1, r.since0, r.since1, r.til0, r.til1, r.few, r.pos⟩⟩
    refine fin s ?_
    rw [← hT] at hs'
    split at hs'
    · rename_i e
      rcases meet_mem hs' with hs' | ⟨s2, c2, b1, b2, rfl⟩
      · exact hoth s hs'
      · obtain ⟨b0, s3, c3, b3, b4, b5, b6⟩ := hxo e
        rw [List.getElem?_set_ne (Ne.symm b0), b3] at b1
        simp only [Option.some.injEq] at b1
        subst b1
        rw [b4] at b2
        simp only [Option.some.injEq] at b2
        subst b2
        have q := h.th s3 (List.mem_of_getElem? b3)
        have r := q.call c3 b4
        refine ⟨q.begun, q.ops, q.obj, by have := q.b0; show _ ≤ s3.breaks; omega, by have := q.b1; show s3.breaks ≤ _; omega, fun c' hc' => ?_⟩
        simp only [Option.some.injEq] at hc'
        subst hc'
        exact ⟨r.obj0, r.obj1, r.since0, r.since1, r.til0, r.til1, by have := r.few; simp; omega, r.pos⟩
    · exact hoth s hs'
  · have hj' : (σ.things.set c.op.obj.toNat (doesM x i m.kind m.v))[j]? = some y := hj
    by_cases ej : c.op.obj.toNat = j
    · subst ej
      rw [List.getElem?_set_self hjl] at hj'
      simp only [Option.some.injEq] at hj'
      subst hj'
      rcases hdo with h1 | h1 | h1 | h1
      · obtain ⟨e1, e2, e3⟩ := h1
        have hm : m = ⟨15, m.v⟩ := by cases m; simp at e1; subst e1; rfl
        have hb := hbeg
        rw [hm] at hb
        obtain ⟨g1, g2, g3, g4⟩ := begins_offer hb
        refine ⟨{ t with call := some (noteM σ.now t c x m) }, noteM σ.now t c x m, by rw [e3]; omega, ?_, rfl, ?_, ?_, by rw [n1]; exact g1, by rw [n2]; exact g2⟩
        · show T[(doesM x i m.kind m.v).offer.toNat]? = _
          rw [e3]
          simpa using hTi
        · rw [n1]; exact (Int.toNat_of_nonneg hq.obj0).symm
        · rw [n1, n4, g3, ← g4, List.nil_append, ← hm]
      · exact absurd h1.2.2.2.2 hne
      · exact absurd h1.2.2 hne
      · obtain ⟨e1, e2, e3, e4, e5⟩ := h1
        rw [e5] at hne ⊢
        obtain ⟨s, c', a0, a1, a2, a3, a4, a5, a6⟩ := h.offer _ x hx hne
        by_cases ei : x.offer.toNat = i
        · rw [ei, ht] at a1
          simp only [Option.some.injEq] at a1
          subst a1
          rw [hc] at a2
          simp only [Option.some.injEq] at a2
          subst a2
          have hb := hbeg
          unfold Ca.rows at hb
          rw [a4, a5, a6] at hb
          have := begins_after hb
          omega
        · exact ⟨s, c', a0, by show T[x.offer.toNat]? = _; rw [hTp _ ei (fun e => absurd e e1)]; exact a1, a2, a3, a4, a5, a6⟩
    · rw [List.getElem?_set_ne ej] at hj'
      obtain ⟨s, c', a0, a1, a2, a3, a4, a5, a6⟩ := h.offer j y hj' hne
      have hi : y.offer.toNat ≠ i := fun e => by
        rw [e, ht] at a1
        simp only [Option.some.injEq] at a1
        subst a1
        rw [hc] at a2
        simp only [Option.some.injEq] at a2
        subst a2
        exact ej (by rw [a3]; simp)
      have ho : m.kind = 14 → y.offer.toNat ≠ x.offer.toNat := fun e e2 => by
        obtain ⟨b0, s3, c3, b3, b4, b5, b6⟩ := hxo e
        rw [e2, b3] at a1
        simp only [Option.some.injEq] at a1
        subst a1
        rw [b4] at a2
        simp only [Option.some.injEq] at a2
        subst a2
        rw [a3] at b5
        exact ej (Int.ofNat_inj.1 b5.symm)
      exact ⟨s, c', a0, by show T[y.offer.toNat]? = _; rw [hTp _ hi ho]; exact a1, a2, a3, a4, a5, a6⟩

/-- An event keeps all. -/
theorem good_ev {k : Nat} {σ σ' : St} {e : Ev} (h : Good k σ) (hn : e.now ≤ 9223372036854775807) (he : evM σ e = some σ') : Good (k + 1) σ' := by
  unfold evM at he
  split at he
  · rename_i hc
    simp only [Bool.and_eq_true, decide_eq_true_eq] at hc
    have hl := h.later hc.2 hn
    simp only at he
    cases ht : σ.threads[e.thread.toNat]? with
    | none => rw [ht] at he; simp at he
    | some t =>
      rw [ht] at he
      simp only at he
      split at he
      · exact good_begin (σ := { σ with now := e.now }) hl ht he
      split at he
      · cases hcall : t.call with
        | none => rw [hcall] at he; simp at he
        | some c => rw [hcall] at he; exact good_mark (σ := { σ with now := e.now }) hl ht hcall he
      split at he
      · cases hcall : t.call with
        | none => rw [hcall] at he; simp at he
        | some c =>
          rw [hcall] at he
          simp only [Option.map_eq_some_iff] at he
          obtain ⟨t', h1, rfl⟩ := he
          exact good_end (σ := { σ with now := e.now }) hl ht hcall h1
      split at he
      · simp only [Option.some.injEq] at he
        subst he
        exact good_break (σ := { σ with now := e.now }) hl ht
      · simp at he
  · simp at he

end Go.Proofs.YtbodlaiakcoabaaGreatDoor
end
