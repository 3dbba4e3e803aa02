/-
  The program's way to read an instruction comes to what a line is: plain mathematics.
  Conditions: none.
-/
import Derived.Test.YtlhnbihpefgcbaaGreatDoorInsIns
namespace Go.Proofs.YtlhnbihpefgcbaaGreatDoor

theorem opL_word : ∀ j, j < 23 → opL (wordAt j) = j := by decide +kernel
theorem find_words : ∀ i, i < 22 → ∀ k, k < 4 → findL 1 specs (wordAt (i + 1)) k = if (hasAt (i + 1)).length = k then some (i + 1, hasAt (i + 1)) else none := by decide +kernel
theorem find_word (i : Nat) (hi : i < 23) (k : Nat) (hk : k < 4) (h1 : 1 ≤ i) : findL 1 specs (wordAt i) k = if (hasAt i).length = k then some (i, hasAt i) else none := by
  obtain ⟨j, rfl⟩ : ∃ j, i = j + 1 := ⟨i - 1, by omega⟩
  exact find_words j (by omega) k hk
theorem spec_word : ∀ p ∈ specs, ∃ j, j < 23 ∧ 1 ≤ j ∧ wordAt j = p.1 ∧ p.2.length < 4 := by decide +kernel
theorem findL_no {w : Str} {k : Nat} : ∀ (l : List (Str × Str)) (i : Nat), (∀ p ∈ l, ¬ (p.1 = w ∧ p.2.length = k)) → findL i l w k = none := by
  intro l
  induction l with
  | nil => intro i _; rfl
  | cons p l ih =>
    intro i h
    obtain ⟨a, b⟩ := p
    unfold findL
    rw [if_neg (h (a, b) (by simp)), ih _ (fun q hq => h q (by simp [hq]))]
theorem find_all (w : Str) (k : Nat) : findL 1 specs w k = if 1 ≤ opL w ∧ (hasAt (opL w)).length = k then some (opL w, hasAt (opL w)) else none := by
  by_cases h : ∃ j, j < 23 ∧ 1 ≤ j ∧ wordAt j = w
  · obtain ⟨j, h1, h2, rfl⟩ := h
    rw [opL_word j h1]
    by_cases hk : k < 4
    · rw [find_word j h1 k hk h2]
      by_cases hl : (hasAt j).length = k
      · rw [if_pos hl, if_pos ⟨h2, hl⟩]
      · rw [if_neg hl, if_neg (fun e => hl e.2)]
    · rw [findL_no specs 1 (fun p hp e => by obtain ⟨_, _, _, _, h5⟩ := spec_word p hp; omega), if_neg]
      rintro ⟨_, h4⟩
      have hlt : ∀ j, j < 23 → (hasAt j).length < 4 := by decide +kernel
      have := hlt j h1
      omega
  · rw [findL_no specs 1 (fun p hp e => h (by obtain ⟨j, h1, h2, h3, _⟩ := spec_word p hp; exact ⟨j, h1, h2, h3.trans e.1⟩)), if_neg]
    rintro ⟨h1, _⟩
    refine h ⟨opL w, by have := opL_le w; omega, h1, ?_⟩
    revert h1
    unfold opL
    rcases hf : (List.range 23).find? (fun i => wordAt i == w) with _ | j
    · intro h1; simp at h1
    · intro _
      have := List.find?_some hf
      simpa using this

/-- What an argument leaves. -/
structure Fine (has : Str) (x0 x : Ln) : Prop where
  op : x.op = x0.op
  a : 0 ≤ x.a ∧ x.a ≤ 15
  b : 0 ≤ x.b ∧ x.b ≤ 15
  c : 0 ≤ x.c ∧ x.c ≤ 15
  n : small x.n = true
  na : (∀ h ∈ has, h.toNat ≠ 65) → x.a = x0.a
  nb : (∀ h ∈ has, h.toNat ≠ 66) → x.b = x0.b
  nc : (∀ h ∈ has, h.toNat ≠ 67) → x.c = x0.c
  nn : (∀ h ∈ has, h.toNat ≠ 78) → x.n = x0.n
theorem fine_one {h : UInt8} {w : Str} {x0 x : Ln} (h0 : Fine [] x0 x0) (hx : argL h w x0 = some x) : Fine [h] x0 x := by
  obtain ⟨_, ha, hb, hc, hn, _, _, _, _⟩ := h0
  unfold argL at hx
  split at hx
  · rename_i h1
    rw [Option.map_eq_some_iff] at hx
    obtain ⟨r, hr, rfl⟩ := hx
    have := regL_range hr
    exact ⟨rfl, ⟨this.1, this.2.1⟩, hb, hc, hn, fun hh => absurd h1 (hh h (by simp)), fun _ => rfl, fun _ => rfl, fun _ => rfl⟩
  split at hx
  · rename_i h1
    rw [Option.map_eq_some_iff] at hx
    obtain ⟨r, hr, rfl⟩ := hx
    have := regL_range hr
    exact ⟨rfl, ha, ⟨this.1, this.2.1⟩, hc, hn, fun _ => rfl, fun hh => absurd h1 (hh h (by simp)), fun _ => rfl, fun _ => rfl⟩
  split at hx
  · rename_i h1
    rw [Option.map_eq_some_iff] at hx
    obtain ⟨r, hr, rfl⟩ := hx
    have := regL_range hr
    exact ⟨rfl, ha, hb, ⟨this.1, this.2.1⟩, hn, fun _ => rfl, fun _ => rfl, fun hh => absurd h1 (hh h (by simp)), fun _ => rfl⟩
  split at hx
  · rename_i h1
    rw [Option.map_eq_some_iff] at hx
    obtain ⟨r, hr, rfl⟩ := hx
    exact ⟨rfl, ha, hb, hc, numL_range hr, fun _ => rfl, fun _ => rfl, fun _ => rfl, fun hh => absurd h1 (hh h (by simp))⟩
  split at hx
  · simp only [Option.some.injEq] at hx
    subst hx
    exact ⟨rfl, ha, hb, hc, hn, fun _ => rfl, fun _ => rfl, fun _ => rfl, fun _ => rfl⟩
  · cases hx
theorem fine_all : ∀ (has : Str) (r : List Str) (x0 x : Ln), Fine [] x0 x0 → argsL has r x0 = some x → Fine has x0 x := by
  intro has
  induction has with
  | nil =>
    intro r x0 x h0 hx
    simp only [argsL, Option.some.injEq] at hx
    subst hx; exact h0
  | cons h hs ih =>
    intro r x0 x h0 hx
    match r, hx with
    | [], hx =>
      simp only [argsL, Option.some.injEq] at hx
      subst hx
      exact ⟨rfl, h0.a, h0.b, h0.c, h0.n, fun _ => rfl, fun _ => rfl, fun _ => rfl, fun _ => rfl⟩
    | w :: ws, hx =>
      simp only [argsL, Option.bind_eq_some_iff] at hx
      obtain ⟨y, h1, h2⟩ := hx
      have f1 := fine_one h0 h1
      have f2 := ih ws y x ⟨rfl, f1.a, f1.b, f1.c, f1.n, fun _ => rfl, fun _ => rfl, fun _ => rfl, fun _ => rfl⟩ h2
      refine ⟨f2.op.trans f1.op, f2.a, f2.b, f2.c, f2.n, fun hh => ?_, fun hh => ?_, fun hh => ?_, fun hh => ?_⟩
      · exact (f2.na (fun g hg => hh g (by simp [hg]))).trans (f1.na (fun g hg => hh g (by simp at hg; simp [hg])))
      · exact (f2.nb (fun g hg => hh g (by simp [hg]))).trans (f1.nb (fun g hg => hh g (by simp at hg; simp [hg])))
      · exact (f2.nc (fun g hg => hh g (by simp [hg]))).trans (f1.nc (fun g hg => hh g (by simp at hg; simp [hg])))
      · exact (f2.nn (fun g hg => hh g (by simp [hg]))).trans (f1.nn (fun g hg => hh g (by simp at hg; simp [hg])))
theorem not_has {i : Nat} {c : UInt8} (h : hasC i c = false) : ∀ d ∈ hasAt i, d.toNat ≠ c.toNat := by
  intro d hd e
  unfold hasC at h
  rw [List.any_eq_false] at h
  exact h d hd (by rw [beq_iff_eq]; exact e)
theorem reg_fine {i : Nat} {c : UInt8} {n b : Int} (h : 0 ≤ n ∧ n ≤ 15) (hz : hasC i c = false → n = 0) (hb : b = 0) : regOk i c n b = true := by
  unfold regOk
  cases hc : hasC i c
  · rw [if_neg (by simp), hz hc]; rfl
  · rw [if_pos rfl, decide_eq_true h.1, decide_eq_true (by omega)]; rfl
theorem fits_cas {i : Nat} (hi : i ≤ 22) {r : List Str} {x : Ln} (h : argsL (hasAt i) r { zeroLn with op := (i : Nat) } = some x) :
    (if fitsAt i x.a x.b x.c x.n then some x else none) = casOk x := by
  have f := fine_all _ _ _ _ (by
    have z : (0 : Int) ≤ 0 ∧ (0 : Int) ≤ 15 := by omega
    exact ⟨rfl, z, z, z, (by show small 0 = true; decide), fun _ => rfl, fun _ => rfl, fun _ => rfl, fun _ => rfl⟩) h
  have hop : x.op = (i : Int) := f.op
  have hn : numOk i x.n = true := by
    unfold numOk
    cases hc : hasC i 78
    · rw [if_neg (by simp), f.nn (fun d hd => not_has hc d hd)]; rfl
    · rw [if_pos rfl]; exact f.n
  have hb := reg_fine (i := i) (c := 66) (b := 0) f.b (fun hc => f.nb (fun d hd => not_has hc d hd)) rfl
  have hc := reg_fine (i := i) (c := 67) (b := 0) f.c (fun hc => f.nc (fun d hd => not_has hc d hd)) rfl
  unfold fitsAt casOk
  rw [hb, hc, hn, Bool.and_true, Bool.and_true, Bool.and_true, hop]
  by_cases h7 : i = 7
  · subst h7
    have hh : hasC 7 65 = true := by decide
    unfold regOk behindAt
    rw [hh, if_pos rfl, if_pos rfl, decide_eq_true f.a.1, Bool.true_and]
    by_cases h13 : 13 < x.a
    · rw [decide_eq_false (by omega), if_neg (by simp), if_pos ⟨rfl, h13⟩]
    · rw [decide_eq_true (by omega), if_pos rfl, if_neg (by rintro ⟨_, h⟩; exact h13 h)]
  · have ha := reg_fine (i := i) (c := 65) (b := behindAt i) f.a (fun hc => f.na (fun d hd => not_has hc d hd)) (by unfold behindAt; rw [if_neg h7])
    rw [ha, if_pos rfl, if_neg (by rintro ⟨h, _⟩; omega)]

/-- A part with a space is nothing. -/
theorem space_none {h : UInt8} {p : Str} {x : Ln} (hp : (32 : UInt8) ∈ p) : argL h p x = none := by
  have hn : isName p = false := by
    cases hn : isName p
    · rfl
    · exact absurd rfl (okC_blank ((isName_ok hn).2.1 32 hp)).2.1
  have hr : regL p = none := by
    rcases hr : regL p with _ | a
    · rfl
    · obtain ⟨h0, h1, h2⟩ := regL_range hr
      rw [h2] at hp
      exfalso
      have : a = 0 ∨ a = 1 ∨ a = 2 ∨ a = 3 ∨ a = 4 ∨ a = 5 ∨ a = 6 ∨ a = 7 ∨ a = 8 ∨ a = 9 ∨ a = 10 ∨ a = 11 ∨ a = 12 ∨ a = 13 ∨ a = 14 ∨ a = 15 := by omega
      rcases this with rfl | rfl | rfl | rfl | rfl | rfl | rfl | rfl | rfl | rfl | rfl | rfl | rfl | rfl | rfl | rfl <;> revert hp <;> decide
  have hm : numL p = none := num_bad (.inr (by
    match p, hp with
    | c :: q, hp =>
      rw [unsign_cons]
      split
      · rename_i hc
        rcases List.mem_cons.1 hp with e | e
        · rw [← e] at hc; cases hc
        · rw [List.all_eq_false]; exact ⟨32, e, by decide⟩
      · rw [List.all_eq_false]; exact ⟨32, hp, by decide⟩))
  unfold argL
  rw [hr, hm, hn]
  simp
theorem args_none : ∀ (has : Str) (r : List Str) (p : Str) (x : Ln), has.length = (r ++ [p]).length → (32 : UInt8) ∈ p → argsL has (r ++ [p]) x = none := by
  intro has
  induction has with
  | nil => intro r p x h _; simp at h
  | cons h hs ih =>
    intro r p x hl hp
    match r, hl with
    | [], hl =>
      simp only [List.nil_append, argsL, space_none hp, Option.bind_none]
    | w :: ws, hl =>
      simp only [List.cons_append, argsL]
      rcases argL h w x with _ | y
      · rfl
      · exact ih ws p y (by simpa using hl) hp

theorem parts_ins (l : Str) : partsL (Lib.splitK [32] 0 (min 4 (l.length + 1) - 1) l) = insL (wordsL l) := by
  have key : ∀ (w : Str) (r : List Str), partsL (w :: r) = insL (w :: r) := by
    intro w r
    unfold partsL insL
    dsimp only
    rw [find_all]
    by_cases h : 1 ≤ opL w ∧ (hasAt (opL w)).length = r.length
    · rw [if_pos h, if_pos h]
      show _ = (argsL (hasAt (opL w)) r { zeroLn with op := (opL w : Nat) }).bind casOk
      rcases ha : argsL (hasAt (opL w)) r { zeroLn with op := (opL w : Nat) } with _ | x
      · rfl
      · exact fits_cas (opL_le w) ha
    · rw [if_neg h, if_neg h]; rfl
  rcases lib_split (min 4 (l.length + 1) - 1) l with ⟨_, h⟩ | ⟨h1, ws, x, h2, h3, h4, h5⟩
  · rw [h]
    have := words_pos l
    rcases hw : wordsL l with _ | ⟨w, r⟩
    · rw [hw] at this; simp at this
    · exact key w r
  · have hle := words_le l
    have h30 : min 4 (l.length + 1) - 1 = 3 := by omega
    rw [h2]
    rw [h30] at h1 h3 h5
    rcases hw : wordsL l with _ | ⟨w, r⟩
    · rw [hw] at h1; simp at h1
    · rw [hw, List.take_succ_cons] at h5
      rw [hw, List.length_cons] at h1
      subst h5
      have e1 : partsL (w :: r.take 2 ++ [x]) = none := by
        rw [List.cons_append]
        unfold partsL
        dsimp only
        split
        · rename_i hh
          rw [args_none _ _ _ _ hh.2 h4]; rfl
        · rfl
      rw [e1, ← key w r]
      unfold partsL
      dsimp only
      rw [if_neg]
      rintro ⟨_, hh⟩
      have hlt : ∀ j, j < 23 → (hasAt j).length < 4 := by decide +kernel
      have := hlt (opL w) (by have := opL_le w; omega)
      omega

end Go.Proofs.YtlhnbihpefgcbaaGreatDoor
