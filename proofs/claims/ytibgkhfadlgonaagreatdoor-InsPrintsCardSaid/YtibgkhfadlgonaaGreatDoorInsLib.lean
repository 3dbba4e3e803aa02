/-
  What the library's words on strings come to, said of lines: what is around a line, decimal digits, numbers, words.
  Conditions: none.
-/
import Derived.Test.YtibgkhfadlgonaaGreatDoorLine
import Derived.Lib.SlTrimSet
import Derived.Lib.ItoaMem
import Derived.Lib.Split
import Derived.Lib.Join
import Derived.Lib.ParseIntB
namespace Go.Proofs.YtibgkhfadlgonaaGreatDoor

/-- What is around a line, from the end first. -/
theorem trimR_cons (c : UInt8) (l : Str) : trimR (c :: l) = if trimR l = [] then (if isBlank c = true then [] else [c]) else c :: trimR l := by
  unfold trimR
  rw [List.reverse_cons, List.dropWhile_append]
  rcases h : List.dropWhile isBlank l.reverse with _ | ⟨x, y⟩
  · simp only [List.isEmpty_nil, if_true, List.reverse_nil, List.nil_append]
    cases hb : isBlank c
    · rw [List.dropWhile_cons_of_neg (by rw [hb]; simp)]; simp
    · rw [List.dropWhile_cons_of_pos hb]; simp
  · simp
theorem trimL_trimR (l : Str) : trimL (trimR l) = trimR (trimL l) := by
  induction l with
  | nil => rfl
  | cons c l ih =>
    cases hb : isBlank c
    · have e1 : trimL (c :: l) = c :: l := by unfold trimL; rw [List.dropWhile_cons_of_neg (by rw [hb]; simp)]
      rw [e1, trimR_cons, hb]
      split
      · show trimL [c] = [c]
        unfold trimL; rw [List.dropWhile_cons_of_neg (by rw [hb]; simp)]
      · unfold trimL; rw [List.dropWhile_cons_of_neg (by rw [hb]; simp)]
    · have e1 : trimL (c :: l) = trimL l := by unfold trimL; rw [List.dropWhile_cons_of_pos hb]
      rw [e1, ← ih, trimR_cons, hb]
      split
      · rename_i h0; rw [h0]; rfl
      · unfold trimL; rw [List.dropWhile_cons_of_pos hb]
theorem blank_set : (fun c : UInt8 => ([32, 9] : List UInt8).contains c) = isBlank := by
  funext c
  unfold isBlank
  have h1 : (c == 32) = (c.toNat == 32) := by
    rw [Bool.eq_iff_iff, beq_iff_eq, beq_iff_eq]
    exact ⟨fun h => by rw [h]; rfl, fun h => UInt8.toNat.inj (by rw [h]; rfl)⟩
  have h2 : (c == 9) = (c.toNat == 9) := by
    rw [Bool.eq_iff_iff, beq_iff_eq, beq_iff_eq]
    exact ⟨fun h => by rw [h]; rfl, fun h => UInt8.toNat.inj (by rw [h]; rfl)⟩
  rw [← h1, ← h2]
  simp only [List.contains, List.elem]
  cases (c == 32) <;> cases (c == 9) <;> rfl
theorem lib_trim (l : Str) : Lib.trimS l [32, 9] = trimS l := by
  unfold Lib.trimS Lib.trimLeftS Lib.trimRightS trimS
  rw [blank_set, ← trimL_trimR]
  rfl

/-- Decimal digits. -/
theorem lib_digits : ∀ f n, n < 10 ^ (f + 1) → Lib.decDigits n = decF (f + 1) n := by
  intro f
  induction f with
  | zero => intro n h; rw [Lib.decDigits_one (by omega)]; unfold decF; rw [if_pos (by omega)]
  | succ f ih =>
    intro n h
    rw [Lib.decDigits]
    unfold decF
    split
    · rfl
    · rw [ih (n / 10) (by rw [Nat.pow_succ] at h; omega)]
theorem lib_itoa {v : Int} (h0 : -9223372036854775808 ≤ v) (h1 : v ≤ 9223372036854775807) : Lib.itoa v = decI v := by
  unfold Lib.itoa decI decN
  split
  · rw [lib_digits 19 _ (by omega)]
    congr 2; omega
  · rw [lib_digits 19 _ (by omega)]

/-- Texts together. -/
theorem lib_join (a : Str) (ws : List Str) : Lib.join (a :: ws) [32] = a ++ ws.flatMap (fun w => 32 :: w) := by
  rw [Lib.join_cons]
  unfold Lib.joinTail
  rw [List.flatMap_def]
  rfl

/-- The first space. -/
theorem lib_index_none : ∀ {l : Str}, (∀ c ∈ l, c.toNat ≠ 32) → Lib.index l [32] = -1 := by
  intro l
  induction l with
  | nil => intro _; rfl
  | cons c l ih =>
    intro h
    have hc : ((32 : UInt8) == c) = false := by
      rw [beq_eq_false_iff_ne]
      intro e
      exact h c (by simp) (by rw [← e]; rfl)
    unfold Lib.index
    rw [List.isPrefixOf, hc, Bool.false_and, if_neg (by simp), ih (fun d hd => h d (by simp [hd])), if_pos (by rfl)]
theorem lib_index_at : ∀ {a : Str} (b : Str), (∀ c ∈ a, c.toNat ≠ 32) → Lib.index (a ++ 32 :: b) [32] = a.length := by
  intro a
  induction a with
  | nil => intro b _; simp [Lib.index, List.isPrefixOf]
  | cons c a ih =>
    intro b h
    have hc : ((32 : UInt8) == c) = false := by
      rw [beq_eq_false_iff_ne]
      intro e
      exact h c (by simp) (by rw [← e]; rfl)
    rw [List.cons_append]
    unfold Lib.index
    rw [List.isPrefixOf, hc, Bool.false_and, if_neg (by simp), ih b (fun d hd => h d (by simp [hd])), if_neg (by rw [beq_iff_eq]; omega)]
    rw [List.length_cons]; omega

theorem space_or (l : Str) : (∀ c ∈ l, c.toNat ≠ 32) ∨ ∃ a b, l = a ++ 32 :: b ∧ ∀ c ∈ a, c.toNat ≠ 32 := by
  induction l with
  | nil => exact .inl (fun c h => by cases h)
  | cons c l ih =>
    by_cases hc : c.toNat = 32
    · refine .inr ⟨[], l, ?_, fun d h => by cases h⟩
      rw [List.nil_append]; congr 1; exact UInt8.toNat.inj (by rw [hc]; rfl)
    · rcases ih with h | ⟨a, b, rfl, h⟩
      · refine .inl (fun d hd => ?_)
        rcases List.mem_cons.1 hd with rfl | hd
        · exact hc
        · exact h d hd
      · refine .inr ⟨c :: a, b, rfl, fun d hd => ?_⟩
        rcases List.mem_cons.1 hd with rfl | hd
        · exact hc
        · exact h d hd
theorem words_pos (l : Str) : 1 ≤ (wordsL l).length := by
  rcases space_or l with h | ⟨a, b, rfl, h⟩
  · rw [words_one _ h]; simp
  · rw [words_next _ _ h]; simp
theorem words_le (l : Str) : (wordsL l).length ≤ l.length + 1 := by
  induction l with
  | nil => simp [wordsL]
  | cons c l ih =>
    unfold wordsL
    split
    · simp only [List.length_cons]; omega
    · split <;> rename_i h <;> rw [h] at ih <;> simp only [List.length_cons, List.length_nil] at * <;> omega
/-- Cut at few spaces: the words; or so many of them, and in the last one a space. -/
theorem lib_split : ∀ (k : Nat) (l : Str), ((wordsL l).length ≤ k + 1 ∧ Lib.splitK [32] 0 k l = wordsL l) ∨
    (k + 1 < (wordsL l).length ∧ ∃ ws x, Lib.splitK [32] 0 k l = ws ++ [x] ∧ ws.length = k ∧ (32 : UInt8) ∈ x ∧ ws = (wordsL l).take k) := by
  intro k
  induction k with
  | zero =>
    intro l
    rcases space_or l with h | ⟨a, b, rfl, h⟩
    · left; rw [words_one _ h]; exact ⟨by simp, rfl⟩
    · right
      rw [words_next _ _ h]
      have := words_pos b
      refine ⟨by simp; omega, [], _, rfl, rfl, by simp, rfl⟩
  | succ k ih =>
    intro l
    rcases space_or l with h | ⟨a, b, rfl, h⟩
    · left
      rw [words_one _ h]
      refine ⟨by simp, ?_⟩
      unfold Lib.splitK
      rw [lib_index_none h, if_pos (by rfl)]
    · have e1 : Lib.splitK [32] 0 (k + 1) (a ++ 32 :: b) = a :: Lib.splitK [32] 0 k b := by
        rw [Lib.splitK, lib_index_at b h, if_neg (by rw [beq_iff_eq]; omega)]
        have e2 : ((a.length : Int)).toNat = a.length := by omega
        rw [e2, Nat.add_zero, List.take_left' rfl]
        congr 2
        rw [show a ++ 32 :: b = (a ++ [32]) ++ b by simp]
        exact List.drop_left' (by simp)
      rw [e1, words_next _ _ h]
      rcases ih b with ⟨h1, h2⟩ | ⟨h1, ws, x, h2, h3, h4, h5⟩
      · left; rw [h2]; exact ⟨by simp only [List.length_cons]; omega, rfl⟩
      · right
        refine ⟨by simp only [List.length_cons]; omega, a :: ws, x, by rw [h2]; rfl, by simp [h3], h4, ?_⟩
        rw [List.take_succ_cons, ← h5]

/-- Numbers. -/
theorem parse_digits : ∀ (l : Str) (acc : Nat), l.all isDig = true → acc < 10 ^ 18 → l.foldl (fun v c => v * 10 + (c.toNat - 48)) acc < 10 ^ 18 → Lib.parseUintM (2 ^ 64 - 1) acc l = .ok (l.foldl (fun v c => v * 10 + (c.toNat - 48)) acc) := by
  intro l
  induction l with
  | nil => intro acc _ _ _; rfl
  | cons c l ih =>
    intro acc h ha hf
    rw [List.all_cons, Bool.and_eq_true] at h
    have hc := h.1
    unfold isDig at hc
    simp only [Bool.and_eq_true, decide_eq_true_eq] at hc
    rw [List.foldl_cons] at hf ⊢
    have mono : ∀ (l : Str) (a : Nat), a ≤ l.foldl (fun v c => v * 10 + (c.toNat - 48)) a := by
      intro l
      induction l with
      | nil => intro a; exact Nat.le_refl _
      | cons c l ih => intro a; rw [List.foldl_cons]; exact Nat.le_trans (by omega) (ih _)
    have h1 := mono l (acc * 10 + (c.toNat - 48))
    unfold Lib.parseUintM
    rw [if_pos hc, if_neg (by omega), if_neg (by omega)]
    exact ih _ h.2 (by omega) hf
theorem val_lt {l : Str} (h : l.all isDig = true) (hl : l.length ≤ 18) : valL l < 10 ^ 18 := by
  by_cases h0 : l = []
  · subst h0; decide
  · have h1 : digsL l = some (valL l : Int) := by
      unfold digsL
      rw [if_pos ⟨by have := List.length_pos_iff.2 h0; omega, hl, h⟩]
    have := digsL_range h1
    omega
theorem uint_digits {l : Str} (h : l.all isDig = true) (h0 : l ≠ []) (hl : l.length ≤ 18) : Lib.parseUintB 64 l = .ok (valL l) := by
  unfold Lib.parseUintB
  rw [if_neg h0]
  exact parse_digits l 0 h (by decide) (val_lt h hl)
/-- The digits of a number: without what is ahead. -/
def unsign : Str → Str
  | [] => []
  | c :: r => if c.toNat = 45 then r else c :: r
theorem unsign_cons (c : UInt8) (r : Str) : unsign (c :: r) = if c.toNat = 45 then r else c :: r := rfl
theorem lib_unsign (l : Str) : Lib.trimPrefix l [45] = unsign l := by
  unfold Lib.trimPrefix Lib.hasPrefix
  match l with
  | [] => rfl
  | c :: r =>
    rw [unsign_cons]
    by_cases h : c.toNat = 45
    · have : c = 45 := UInt8.toNat.inj (by rw [h]; rfl)
      subst this
      rw [if_pos h, if_pos (by simp [List.isPrefixOf])]
      rfl
    · have : ((45 : UInt8) == c) = false := by
        rw [beq_eq_false_iff_ne]
        intro e
        exact h (by rw [← e]; rfl)
      rw [if_neg h, if_neg (by simp [List.isPrefixOf, this])]
theorem int_none {l : Str} (h : unsign l = []) : Lib.parseIntB 64 l = Lib.parseIntB 64 [] ∧ numL l = none := by
  match l with
  | [] => exact ⟨rfl, rfl⟩
  | c :: r =>
    rw [unsign_cons] at h
    split at h
    · rename_i hc
      subst h
      have : c = 45 := UInt8.toNat.inj (by rw [hc]; rfl)
      subst this
      exact ⟨by decide, by decide⟩
    · cases h
theorem int_some {l : Str} (h : (unsign l).all isDig = true) (h0 : unsign l ≠ []) (hl : (unsign l).length ≤ 18) : ∃ v, Lib.parseIntB 64 l = .ok v ∧ numL l = some v := by
  match l with
  | [] => exact absurd rfl h0
  | c :: r =>
    have h1 := val_lt h hl
    have h2 := uint_digits h h0 hl
    have h3 : digsL (unsign (c :: r)) = some (valL (unsign (c :: r)) : Int) := by
      unfold digsL
      rw [if_pos ⟨by have := List.length_pos_iff.2 h0; omega, hl, h⟩]
    rw [unsign_cons] at h h0 hl h1 h2 h3
    by_cases hc : c.toNat = 45
    · rw [if_pos hc] at h h0 hl h1 h2 h3
      refine ⟨-(valL r : Int), ?_, ?_⟩
      · unfold Lib.parseIntB
        simp only [hc, or_true, if_true, h2, not_true, false_and, if_false, true_and]
        rw [if_neg (by omega)]
      · show (if c.toNat = 45 then (digsL r).map (fun v => -v) else digsL (c :: r)) = _
        rw [if_pos hc, h3]; rfl
    · rw [if_neg hc] at h h0 hl h1 h2 h3
      have hd : isDig c = true := by rw [List.all_cons, Bool.and_eq_true] at h; exact h.1
      have hc3 : c.toNat ≠ 43 := by
        intro e
        unfold isDig at hd
        simp only [Bool.and_eq_true, decide_eq_true_eq] at hd
        omega
      refine ⟨(valL (c :: r) : Int), ?_, ?_⟩
      · unfold Lib.parseIntB
        simp only [hc, hc3, or_self, if_false, h2, not_false_eq_true, true_and, false_and]
        rw [if_neg (by omega)]
      · show (if c.toNat = 45 then (digsL r).map (fun v => -v) else digsL (c :: r)) = _
        rw [if_neg hc, h3]
theorem num_bad {l : Str} (h : 18 < (unsign l).length ∨ (unsign l).all isDig = false) : numL l = none := by
  have key : digsL (unsign l) = none := by
    unfold digsL
    rw [if_neg]
    rintro ⟨_, h1, h2⟩
    rcases h with h | h
    · omega
    · rw [h2] at h; cases h
  match l with
  | [] => rfl
  | c :: r =>
    show (if c.toNat = 45 then (digsL r).map (fun v => -v) else digsL (c :: r)) = none
    rw [unsign_cons] at key
    split <;> rename_i hc
    · rw [if_pos hc] at key; rw [key]; rfl
    · rw [if_neg hc] at key; exact key

end Go.Proofs.YtibgkhfadlgonaaGreatDoor
