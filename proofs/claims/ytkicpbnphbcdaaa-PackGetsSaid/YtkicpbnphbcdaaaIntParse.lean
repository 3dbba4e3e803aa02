/-
  What is read of a row of numbers, place by place: plain mathematics.
  Conditions: each number has 64 bits.
-/
import Derived.Test.YtkicpbnphbcdaaaWire
namespace Go.Proofs.Ytkicpbnphbcdaaa

section
variable {l : List Int} {a : Nat}

theorem drop_one {n : Int} (h : l[a]? = some n) : l.drop a = n :: l.drop (a + 1) := by
  obtain ⟨h1, h2⟩ := List.getElem?_eq_some_iff.1 h
  rw [← h2]; exact List.drop_eq_getElem_cons h1
theorem flag_is {f : Int} (h : f = 0 ∨ f = 1) : truthN (f == 1) = f := by rcases h with rfl | rfl <;> rfl

theorem cnt_yes {n : Int} (h : l[a]? = some n) (h0 : 0 ≤ n) (h1 : n ≤ 65536) : cntP intTok (some (l.drop a)) = (n.toNat, some (l.drop (a + 1))) := by
  have e := intTok.back n (l.drop (a + 1)) ⟨by omega, by omega⟩
  have e2 : intTok.e n ++ l.drop (a + 1) = l.drop a := by rw [drop_one h]; rfl
  rw [e2] at e
  unfold cntP
  rw [e]
  dsimp only
  rw [if_neg (by omega)]
theorem cnt_no (h : ¬ a < l.length ∨ ∃ n, l[a]? = some n ∧ (n < 0 ∨ 65536 < n)) : cntP intTok (some (l.drop a)) = (0, none) := by
  unfold cntP
  rcases hq : intTok.tok (some (l.drop a)) with ⟨m, s⟩
  dsimp only
  split
  · rfl
  · rename_i hn
    cases s with
    | none => rw [intTok.gone _ _ hq]; rfl
    | some r =>
      exfalso
      obtain ⟨e, _⟩ := intTok.sound _ _ _ hq
      simp only [Option.some.injEq] at e
      have e2 : l.drop a = m :: r := e
      have hlt : a < l.length := by
        rcases Nat.lt_or_ge a l.length with h | h
        · exact h
        · rw [List.drop_of_length_le h] at e2; cases e2
      rcases h with h | ⟨n, h1, h2⟩
      · exact absurd hlt h
      · rw [drop_one h1] at e2
        simp only [List.cons.injEq] at e2
        have e3 := e2.1
        omega

theorem ob_yes (hin : ∀ n ∈ l, InR n) {k f n : Int} (h0 : l[a]? = some k) (h1 : l[a + 1]? = some f) (h2 : l[a + 2]? = some n) (hf : f = 0 ∨ f = 1) : obP intTok (some (l.drop a)) = (⟨k, f == 1, n⟩, some (l.drop (a + 3))) := by
  have e := ob_back intTok ⟨k, f == 1, n⟩ (l.drop (a + 3)) ⟨hin k (List.mem_of_getElem? h0), hin n (List.mem_of_getElem? h2)⟩
  have e2 : obE intTok ⟨k, f == 1, n⟩ ++ l.drop (a + 3) = l.drop a := by
    rw [drop_one h0, drop_one h1, drop_one h2]
    show [k, truthN (f == 1), n] ++ _ = _
    rw [flag_is hf]; rfl
  rwa [e2] at e
theorem ob_no (h : ¬ a + 3 ≤ l.length ∨ ∃ f, l[a + 1]? = some f ∧ f ≠ 0 ∧ f ≠ 1) : (obP intTok (some (l.drop a))).2 = none := by
  rcases hq : obP intTok (some (l.drop a)) with ⟨x, s⟩
  cases s with
  | none => rfl
  | some r =>
    exfalso
    obtain ⟨e, _⟩ := ob_sound intTok _ _ _ hq
    simp only [Option.some.injEq] at e
    have e2 : l.drop a = [x.kind, truthN x.fair, x.n] ++ r := e
    have hl := congrArg List.length e2
    rw [List.length_drop, List.length_append] at hl
    simp only [List.length_cons, List.length_nil] at hl
    rcases h with h | ⟨f, h1, h2, h3⟩
    · omega
    · have h4 := congrArg (fun m => m[1]?) e2
      simp only [List.getElem?_drop, h1] at h4
      have h5 : truthN x.fair = f := by simpa using h4.symm
      cases hx : x.fair <;> rw [hx] at h5 <;> simp [truthN] at h5 <;> omega
theorem cl_yes (hin : ∀ n ∈ l, InR n) {k o n t f : Int} (h0 : l[a]? = some k) (h1 : l[a + 1]? = some o) (h2 : l[a + 2]? = some n) (h3 : l[a + 3]? = some t) (h4 : l[a + 4]? = some f) (hf : f = 0 ∨ f = 1) : clP intTok (some (l.drop a)) = (⟨k, o, n, t, f == 1⟩, some (l.drop (a + 5))) := by
  have e := cl_back intTok ⟨k, o, n, t, f == 1⟩ (l.drop (a + 5)) ⟨hin k (List.mem_of_getElem? h0), hin o (List.mem_of_getElem? h1), hin n (List.mem_of_getElem? h2), hin t (List.mem_of_getElem? h3)⟩
  have e2 : clE intTok ⟨k, o, n, t, f == 1⟩ ++ l.drop (a + 5) = l.drop a := by
    rw [drop_one h0, drop_one h1, drop_one h2, drop_one h3, drop_one h4]
    show [k, o, n, t, truthN (f == 1)] ++ _ = _
    rw [flag_is hf]; rfl
  rwa [e2] at e
theorem cl_no (h : ¬ a + 5 ≤ l.length ∨ ∃ f, l[a + 4]? = some f ∧ f ≠ 0 ∧ f ≠ 1) : (clP intTok (some (l.drop a))).2 = none := by
  rcases hq : clP intTok (some (l.drop a)) with ⟨x, s⟩
  cases s with
  | none => rfl
  | some r =>
    exfalso
    obtain ⟨e, _⟩ := cl_sound intTok _ _ _ hq
    simp only [Option.some.injEq] at e
    have e2 : l.drop a = [x.kind, x.obj, x.n, x.wait, truthN x.breaks] ++ r := e
    have hl := congrArg List.length e2
    rw [List.length_drop, List.length_append] at hl
    simp only [List.length_cons, List.length_nil] at hl
    rcases h with h | ⟨f, h1, h2, h3⟩
    · omega
    · have h4 := congrArg (fun m => m[4]?) e2
      simp only [List.getElem?_drop, h1] at h4
      have h5 : truthN x.breaks = f := by simpa using h4.symm
      cases hx : x.breaks <;> rw [hx] at h5 <;> simp [truthN] at h5 <;> omega
theorem pi_yes (hin : ∀ n ∈ l, InR n) {k n : Int} (h0 : l[a]? = some k) (h1 : l[a + 1]? = some n) : piP intTok (some (l.drop a)) = (⟨k, n⟩, some (l.drop (a + 2))) := by
  have e := pi_back intTok ⟨k, n⟩ (l.drop (a + 2)) ⟨hin k (List.mem_of_getElem? h0), hin n (List.mem_of_getElem? h1)⟩
  have e2 : piE intTok ⟨k, n⟩ ++ l.drop (a + 2) = l.drop a := by
    rw [drop_one h0, drop_one h1]; rfl
  rwa [e2] at e
theorem pi_no (h : ¬ a + 2 ≤ l.length) : (piP intTok (some (l.drop a))).2 = none := by
  rcases hq : piP intTok (some (l.drop a)) with ⟨x, s⟩
  cases s with
  | none => rfl
  | some r =>
    exfalso
    obtain ⟨e, _⟩ := pi_sound intTok _ _ _ hq
    simp only [Option.some.injEq] at e
    have e2 : l.drop a = [x.kind, x.n] ++ r := e
    have hl := congrArg List.length e2
    rw [List.length_drop, List.length_append] at hl
    simp only [List.length_cons, List.length_nil] at hl
    omega

/-- A loop's next round, and one that fails. -/
theorem loop_next {α : Type} {get : Option (List Int) → α × Option (List Int)} {m : Nat} {acc : List α} {x : α} {a a' : Nat} (h : get (some (l.drop a)) = (x, some (l.drop a'))) : loopP get (m + 1) acc (some (l.drop a)) = loopP get m (acc ++ [x]) (some (l.drop a')) := by
  simp only [loopP, h]
theorem loop_fail {α : Type} {get : Option (List Int) → α × Option (List Int)} {m : Nat} {acc : List α} {a : Nat} (h : (get (some (l.drop a))).2 = none) : loopP get (m + 1) acc (some (l.drop a)) = ([], none) := by
  simp only [loopP]
  split
  · rfl
  · rename_i hg
    rw [hg] at h
    cases h
end

/-- What is left of a script's reading behind its objects, and behind its programs. -/
def fromPrs (obs : List Ob) (s : Option (List Int)) : Parts × Option (List Int) :=
  (⟨obs, (listP intTok (prP intTok) s).1, (listP intTok (piP intTok) (listP intTok (prP intTok) s).2).1⟩, (listP intTok (piP intTok) (listP intTok (prP intTok) s).2).2)
def fromPis (obs : List Ob) (prs : List (List Cl)) (s : Option (List Int)) : Parts × Option (List Int) := (⟨obs, prs, (listP intTok (piP intTok) s).1⟩, (listP intTok (piP intTok) s).2)
theorem scP_obs (s : Option (List Int)) : scP intTok s = fromPrs (listP intTok (obP intTok) s).1 (listP intTok (obP intTok) s).2 := rfl
theorem fromPrs_eq (obs : List Ob) (s : Option (List Int)) : fromPrs obs s = fromPis obs (listP intTok (prP intTok) s).1 (listP intTok (prP intTok) s).2 := rfl
theorem list_none {α : Type} (get : Option (List Int) → α × Option (List Int)) : (listP intTok get none).2 = none := by
  have : cntP intTok none = (0, none) := rfl
  unfold listP
  rw [this]; rfl
theorem fromPrs_none (obs : List Ob) : (fromPrs obs none).2 = none := by unfold fromPrs; dsimp only; rw [list_none, list_none]
theorem fromPis_none (obs : List Ob) (prs : List (List Cl)) : (fromPis obs prs none).2 = none := by unfold fromPis; dsimp only; rw [list_none]

end Go.Proofs.Ytkicpbnphbcdaaa
