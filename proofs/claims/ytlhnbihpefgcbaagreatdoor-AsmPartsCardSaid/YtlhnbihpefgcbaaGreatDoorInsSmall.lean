/-
  What the library's words on strings come to, said of lines: what is around a line, decimal digits, numbers, words.
  Conditions: none.
  What the library's calls on strings come to at this program, said of lines; the program's table in memory.
  Conditions: the table lies as the program's text lays it; strings of at most 100000 bytes.
  What the program's small calls of layer 7 come to: letters, digits, names, registers, numbers.
  Conditions: the table lies as the program's text lays it; strings of at most 100000 bytes.
-/
import Derived.Test.YtlhnbihpefgcbaaGreatDoorLine
import Derived.Lib.SlTrimSet
import Derived.Lib.ItoaMem
import Derived.Lib.Split
import Derived.Lib.Join
import Derived.Lib.ParseIntB
import Derived.Test.YtlhnbihpefgcbaaGreatDoorLays
import Derived.Test.YtlhnbihpefgcbaaGreatDoorLineStr
import Derived.Shelf.Strings.SlTrimAscii
import Derived.Shelf.Strings.Prefix
import Derived.Shelf.Strings.Split
import Derived.Shelf.Small.Strs
import Derived.Shelf.Strconv.ParseIntPublic10
import Derived.Shelf.Strconv.Clone
import Derived.Shelf.Strconv.Itoa3
import Derived.Laws.Concat
section
namespace Go.Proofs.YtlhnbihpefgcbaaGreatDoor

/-- What is around a line, from the end first. -/
theorem trimR_cons (c : UInt8) (l : Str) : trimR (c :: l) = if trimR l = [] then (if isBlank c = true then [] else [c]) else c :: trimR l := by
  unfold trimR
  rw [List.reverse_cons, List.dropWhile_append]
  rcases h : List.dropWhile isBlank l.reverse with _ | ⟨x, y⟩
  · simp only [List.isEmpty_nil, if_true, List.reverse_nil, List.nil_append]
    cases hb : isBlank c
    · rw [List.dropWhile_cons_of_neg (by rw [hb]; simp)]; simp
    · rw [List.dropWhile_cons_of_pos hb]; simp
  · simp
theorem trimL_trimR (l : Str) : trimL (trimR l) = trimR (trimL l) := by
  induction l with
  | nil => rfl
  | cons c l ih =>
    cases hb : isBlank c
    · have e1 : trimL (c :: l) = c :: l := by unfold trimL; rw [List.dropWhile_cons_of_neg (by rw [hb]; simp)]
      rw [e1, trimR_cons, hb]
      split
      · show trimL [c] = [c]
        unfold trimL; rw [List.dropWhile_cons_of_neg (by rw [hb]; simp)]
      · unfold trimL; rw [List.dropWhile_cons_of_neg (by rw [hb]; simp)]
    · have e1 : trimL (c :: l) = trimL l := by unfold trimL; rw [List.dropWhile_cons_of_pos hb]
      rw [e1, ← ih, trimR_cons, hb]
      split
      · rename_i h0; rw [h0]; rfl
      · unfold trimL; rw [List.dropWhile_cons_of_pos hb]
theorem blank_set : (fun c : UInt8 => ([32, 9] : List UInt8).contains c) = isBlank := by
  funext c
  unfold isBlank
  have h1 : (c == 32) = (c.toNat == 32) := by
    rw [Bool.eq_iff_iff, beq_iff_eq, beq_iff_eq]
    exact ⟨fun h => by rw [h]; rfl, fun h => UInt8.toNat.inj (by rw [h]; rfl)⟩
  have h2 : (c == 9) = (c.toNat == 9) := by
    rw [Bool.eq_iff_iff, beq_iff_eq, beq_iff_eq]
    exact ⟨fun h => by rw [h]; rfl, fun h => UInt8.toNat.inj (by rw [h]; rfl)⟩
  rw [← h1, ← h2]
  simp only [List.contains, List.elem]
  cases (c == 32) <;> cases (c == 9) <;> rfl
theorem lib_trim (l : Str) : Lib.trimS l [32, 9] = trimS l := by
  unfold Lib.trimS Lib.trimLeftS Lib.trimRightS trimS
  rw [blank_set, ← trimL_trimR]
  rfl

/-- Decimal digits. -/
theorem lib_digits : ∀ f n, n < 10 ^ (f + 1) → Lib.decDigits n = decF (f + 1) n := by
  intro f
  induction f with
  | zero => intro n h; rw [Lib.decDigits_one (by omega)]; unfold decF; rw [if_pos (by omega)]
  | succ f ih =>
    intro n h
    rw [Lib.decDigits]
    unfold decF
    split
    · rfl
    · rw [ih (n / 10) (by rw [Nat.pow_succ] at h; omega)]
theorem lib_itoa {v : Int} (h0 : -9223372036854775808 ≤ v) (h1 : v ≤ 9223372036854775807) : Lib.itoa v = decI v := by
  unfold Lib.itoa decI decN
  split
  · rw [lib_digits 19 _ (by omega)]
    congr 2; omega
  · rw [lib_digits 19 _ (by omega)]

/-- Texts together. -/
theorem lib_join (a : Str) (ws : List Str) : Lib.join (a :: ws) [32] = a ++ ws.flatMap (fun w => 32 :: w) := by
  rw [Lib.join_cons]
  unfold Lib.joinTail
  rw [List.flatMap_def]
  rfl

/-- The first space. -/
theorem lib_index_none : ∀ {l : Str}, (∀ c ∈ l, c.toNat ≠ 32) → Lib.index l [32] = -1 := by
  intro l
  induction l with
  | nil => intro _; rfl
  | cons c l ih =>
    intro h
    have hc : ((32 : UInt8) == c) = false := by
      rw [beq_eq_false_iff_ne]
      intro e
      exact h c (by simp) (by rw [← e]; rfl)
    unfold Lib.index
    rw [List.isPrefixOf, hc, Bool.false_and, if_neg (by simp), ih (fun d hd => h d (by simp [hd])), if_pos (by rfl)]
theorem lib_index_at : ∀ {a : Str} (b : Str), (∀ c ∈ a, c.toNat ≠ 32) → Lib.index (a ++ 32 :: b) [32] = a.length := by
  intro a
  induction a with
  | nil => intro b _; simp [Lib.index, List.isPrefixOf]
  | cons c a ih =>
    intro b h
    have hc : ((32 : UInt8) == c) = false := by
      rw [beq_eq_false_iff_ne]
      intro e
      exact h c (by simp) (by rw [← e]; rfl)
    rw [List.cons_append]
    unfold Lib.index
    rw [List.isPrefixOf, hc, Bool.false_and, if_neg (by simp), ih b (fun d hd => h d (by simp [hd])), if_neg (by rw [beq_iff_eq]; omega)]
    rw [List.length_cons]; omega

theorem space_or (l : Str) : (∀ c ∈ l, c.toNat ≠ 32) ∨ ∃ a b, l = a ++ 32 :: b ∧ ∀ c ∈ a, c.toNat ≠ 32 := by
  induction l with
  | nil => exact .inl (fun c h => by cases h)
  | cons c l ih =>
    by_cases hc : c.toNat = 32
    · refine .inr ⟨[], l, ?_, fun d h => by cases h⟩
      rw [List.nil_append]; congr 1; exact UInt8.toNat.inj (by rw [hc]; rfl)
    · rcases ih with h | ⟨a, b, rfl, h⟩
      · refine .inl (fun d hd => ?_)
        rcases List.mem_cons.1 hd with rfl | hd
        · exact hc
        · exact h d hd
      · refine .inr ⟨c :: a, b, rfl, fun d hd => ?_⟩
        rcases List.mem_cons.1 hd with rfl | hd
        · exact hc
        · exact h d hd
theorem words_pos (l : Str) : 1 ≤ (wordsL l).length := by
  rcases space_or l with h | ⟨a, b, rfl, h⟩
  · rw [words_one _ h]; simp
  · rw [words_next _ _ h]; simp
theorem words_le (l : Str) : (wordsL l).length ≤ l.length + 1 := by
  induction l with
  | nil => simp [wordsL]
  | cons c l ih =>
    unfold wordsL
    split
    · simp only [List.length_cons]; omega
    · split <;> rename_i h <;> rw [h] at ih <;> simp only [List.length_cons, List.length_nil] at * <;> omega
/-- Cut at few spaces: the words; or so many of them, and in the last one a space. -/
theorem lib_split : ∀ (k : Nat) (l : Str), ((wordsL l).length ≤ k + 1 ∧ Lib.splitK [32] 0 k l = wordsL l) ∨
    (k + 1 < (wordsL l).length ∧ ∃ ws x, Lib.splitK [32] 0 k l = ws ++ [x] ∧ ws.length = k ∧ (32 : UInt8) ∈ x ∧ ws = (wordsL l).take k) := by
  intro k
  induction k with
  | zero =>
    intro l
    rcases space_or l with h | ⟨a, b, rfl, h⟩
    · left; rw [words_one _ h]; exact ⟨by simp, rfl⟩
    · right
      rw [words_next _ _ h]
      have := words_pos b
      refine ⟨by simp; omega, [], _, rfl, rfl, by simp, rfl⟩
  | succ k ih =>
    intro l
    rcases space_or l with h | ⟨a, b, rfl, h⟩
    · left
      rw [words_one _ h]
      refine ⟨by simp, ?_⟩
      unfold Lib.splitK
      rw [lib_index_none h, if_pos (by rfl)]
    · have e1 : Lib.splitK [32] 0 (k + 1) (a ++ 32 :: b) = a :: Lib.splitK [32] 0 k b := by
        rw [Lib.splitK, lib_index_at b h, if_neg (by rw [beq_iff_eq]; omega)]
        have e2 : ((a.length : Int)).toNat = a.length := by omega
        rw [e2, Nat.add_zero, List.take_left' rfl]
        congr 2
        rw [show a ++ 32 :: b = (a ++ [32]) ++ b by simp]
        exact List.drop_left' (by simp)
      rw [e1, words_next _ _ h]
      rcases ih b with ⟨h1, h2⟩ | ⟨h1, ws, x, h2, h3, h4, h5⟩
      · left; rw [h2]; exact ⟨by simp only [List.length_cons]; omega, rfl⟩
      · right
        refine ⟨by simp only [List.length_cons]; omega, a :: ws, x, by rw [h2]; rfl, by simp [h3], h4, ?_⟩
        rw [List.take_succ_cons, ← h5]

/-- Numbers. -/
theorem parse_digits : ∀ (l : Str) (acc : Nat), l.all isDig = true → acc < 10 ^ 18 → l.foldl (fun v c => v * 10 + (c.toNat - 48)) acc < 10 ^ 18 → Lib.parseUintM (2 ^ 64 - 1) acc l = .ok (l.foldl (fun v c => v * 10 + (c.toNat - 48)) acc) := by
  intro l
  induction l with
  | nil => intro acc _ _ _; rfl
  | cons c l ih =>
    intro acc h ha hf
    rw [List.all_cons, Bool.and_eq_true] at h
    have hc := h.1
    unfold isDig at hc
    simp only [Bool.and_eq_true, decide_eq_true_eq] at hc
    rw [List.foldl_cons] at hf ⊢
    have mono : ∀ (l : Str) (a : Nat), a ≤ l.foldl (fun v c => v * 10 + (c.toNat - 48)) a := by
      intro l
      induction l with
      | nil => intro a; exact Nat.le_refl _
      | cons c l ih => intro a; rw [List.foldl_cons]; exact Nat.le_trans (by omega) (ih _)
    have h1 := mono l (acc * 10 + (c.toNat - 48))
    unfold Lib.parseUintM
    rw [if_pos hc, if_neg (by omega), if_neg (by omega)]
    exact ih _ h.2 (by omega) hf
theorem val_lt {l : Str} (h : l.all isDig = true) (hl : l.length ≤ 18) : valL l < 10 ^ 18 := by
  by_cases h0 : l = []
  · subst h0; decide
  · have h1 : digsL l = some (valL l : Int) := by
      unfold digsL
      rw [if_pos ⟨by have := List.length_pos_iff.2 h0; omega, hl, h⟩]
    have := digsL_range h1
    omega
theorem uint_digits {l : Str} (h : l.all isDig = true) (h0 : l ≠ []) (hl : l.length ≤ 18) : Lib.parseUintB 64 l = .ok (valL l) := by
  unfold Lib.parseUintB
  rw [if_neg h0]
  exact parse_digits l 0 h (by decide) (val_lt h hl)
/-- The digits of a number: without what is ahead. -/
def unsign : Str → Str
  | [] => []
  | c :: r => if c.toNat = 45 then r else c :: r
theorem unsign_cons (c : UInt8) (r : Str) : unsign (c :: r) = if c.toNat = 45 then r else c :: r := rfl
theorem lib_unsign (l : Str) : Lib.trimPrefix l [45] = unsign l := by
  unfold Lib.trimPrefix Lib.hasPrefix
  match l with
  | [] => rfl
  | c :: r =>
    rw [unsign_cons]
    by_cases h : c.toNat = 45
    · have : c = 45 := UInt8.toNat.inj (by rw [h]; rfl)
      subst this
      rw [if_pos h, if_pos (by simp [List.isPrefixOf])]
      rfl
    · have : ((45 : UInt8) == c) = false := by
        rw [beq_eq_false_iff_ne]
        intro e
        exact h (by rw [← e]; rfl)
      rw [if_neg h, if_neg (by simp [List.isPrefixOf, this])]
theorem int_none {l : Str} (h : unsign l = []) : Lib.parseIntB 64 l = Lib.parseIntB 64 [] ∧ numL l = none := by
  match l with
  | [] => exact ⟨rfl, rfl⟩
  | c :: r =>
    rw [unsign_cons] at h
    split at h
    · rename_i hc
      subst h
      have : c = 45 := UInt8.toNat.inj (by rw [hc]; rfl)
      subst this
      exact ⟨by decide, by decide⟩
    · cases h
theorem int_some {l : Str} (h : (unsign l).all isDig = true) (h0 : unsign l ≠ []) (hl : (unsign l).length ≤ 18) : ∃ v, Lib.parseIntB 64 l = .ok v ∧ numL l = some v := by
  match l with
  | [] => exact absurd rfl h0
  | c :: r =>
    have h1 := val_lt h hl
    have h2 := uint_digits h h0 hl
    have h3 : digsL (unsign (c :: r)) = some (valL (unsign (c :: r)) : Int) := by
      unfold digsL
      rw [if_pos ⟨by have := List.length_pos_iff.2 h0; omega, hl, h⟩]
    rw [unsign_cons] at h h0 hl h1 h2 h3
    by_cases hc : c.toNat = 45
    · rw [if_pos hc] at h h0 hl h1 h2 h3
      refine ⟨-(valL r : Int), ?_, ?_⟩
      · unfold Lib.parseIntB
        simp only [hc, or_true, if_true, h2, not_true, false_and, if_false, true_and]
        rw [if_neg (by omega)]
      · show (if c.toNat = 45 then (digsL r).map (fun v => -v) else digsL (c :: r)) = _
        rw [if_pos hc, h3]; rfl
    · rw [if_neg hc] at h h0 hl h1 h2 h3
      have hd : isDig c = true := by rw [List.all_cons, Bool.and_eq_true] at h; exact h.1
      have hc3 : c.toNat ≠ 43 := by
        intro e
        unfold isDig at hd
        simp only [Bool.and_eq_true, decide_eq_true_eq] at hd
        omega
      refine ⟨(valL (c :: r) : Int), ?_, ?_⟩
      · unfold Lib.parseIntB
        simp only [hc, hc3, or_self, if_false, h2, not_false_eq_true, true_and, false_and]
        rw [if_neg (by omega)]
      · show (if c.toNat = 45 then (digsL r).map (fun v => -v) else digsL (c :: r)) = _
        rw [if_neg hc, h3]
theorem num_bad {l : Str} (h : 18 < (unsign l).length ∨ (unsign l).all isDig = false) : numL l = none := by
  have key : digsL (unsign l) = none := by
    unfold digsL
    rw [if_neg]
    rintro ⟨_, h1, h2⟩
    rcases h with h | h
    · omega
    · rw [h2] at h; cases h
  match l with
  | [] => rfl
  | c :: r =>
    show (if c.toNat = 45 then (digsL r).map (fun v => -v) else digsL (c :: r)) = none
    rw [unsign_cons] at key
    split <;> rename_i hc
    · rw [if_pos hc] at key; rw [key]; rfl
    · rw [if_neg hc] at key; exact key

end Go.Proofs.YtlhnbihpefgcbaaGreatDoor
end
section
namespace Go.Proofs.YtlhnbihpefgcbaaGreatDoor
open Go.RowKit

/-- The variables that are read. -/
def Glob (k : Nat) : Prop := k = 4 ∨ k = 3 ∨ k = 5

/-- A word of the table, what it has, and the registers behind the first. -/
def wordAt (i : Nat) : Str := if i = 0 then [] else (specL (i : Int)).1
def hasAt (i : Nat) : Str := if i = 0 then [] else (specL (i : Int)).2
def behindAt (i : Nat) : Int := if i = 7 then 2 else 0
/-- A shape. -/
@[reducible] def shV (i : Nat) : Value := .agg #[.string (strS (wordAt i)), .string (strS (hasAt i)), .int .i64 (behindAt i)]
def shCells : List Value := (List.range 23).flatMap (fun i => [.string (strS (wordAt i)), .string (strS (hasAt i)), .int .i64 (behindAt i)])

/-- The table lies as the program's text lays it. -/
structure Laid (w : World) : Prop where
  low : ∀ k, Glob k → k < w.heap.size
  shapes : ∀ (k : Nat) v, shCells[k]? = some v → w.cell? ⟨4, k, none⟩ = some v
  most : ∃ m, w.cell? ⟨3, 0, none⟩ = some (.int .i64 m)
  syn : ∃ ev, w.cell? ⟨5, 0, none⟩ = some ev ∧ (ev = .nilIface ∨ ∃ te pe, ev = .iface te pe)
theorem Laid.on {S : Nat → Prop} {w w' : World} (h : Laid w) (hk : Kept S w w') (hS : ∀ k, Glob k → ¬ S k) : Laid w' := by
  have c : ∀ (g j : Nat), Glob g → w'.cell? ⟨g, j, none⟩ = w.cell? ⟨g, j, none⟩ := fun g j hg => hk.cell (p := ⟨g, j, none⟩) (h.low g hg) (hS g hg)
  refine ⟨fun k hg => Nat.lt_of_lt_of_le (h.low k hg) hk.size, fun k v hv => ?_, ?_, ?_⟩
  · rw [c _ _ (.inl rfl)]; exact h.shapes k v hv
  · obtain ⟨m, hm⟩ := h.most; exact ⟨m, by rw [c _ _ (.inr (.inl rfl))]; exact hm⟩
  · obtain ⟨ev, he, hev⟩ := h.syn; exact ⟨ev, by rw [c _ _ (.inr (.inr rfl))]; exact he, hev⟩
theorem Laid.on0 {w w' : World} (h : Laid w) (hk : Kept (fun _ => False) w w') : Laid w' := h.on hk (fun _ _ f => f)
theorem Laid.drewN {w : World} (h : Laid w) (n : Nat) : Laid (w.drewN n) := h.on0 ((Kept.refl _ w).drewN n)
theorem Laid.far {w : World} (h : Laid w) {b : Nat} (hb : w.heap.size ≤ b) : ∀ k, Glob k → ¬ (k = b) := fun k hg e => by have := h.low k hg; omega

theorem Kept.ofBelow {w w' : World} (h : Below w.heap.size w w') : Kept (fun _ => False) w w' := ⟨h.os, h.tape, h.output, h.size, fun k hk _ => h.block k hk⟩

theorem trim_any (s : ByteArray) (w : World) (hs : s.size ≤ 9223372036854775807) : Calls Tryz.prog 46 #[.string s, .string { data := #[32, 9] }] w fun e w' => e = .returned (.string (strS (trimS (bytesS s)))) ∧ Kept (fun _ => False) w w' :=
  (Any.strings_Trim_laid Tryz.lays160 (by kernel_rfl) s ⟨#[32, 9]⟩ w hs (by decide) (ascii_of_all (by decide))).mono fun e w' ⟨h1, h2⟩ => ⟨by rw [h1]; exact congrArg (fun l => Ending.returned (.string (strS l))) (lib_trim (bytesS s)), Kept.ofBelow h2⟩
theorem ends_colon (l : Str) : Lib.hasSuffix l [58] = decide (l.getLast?.map UInt8.toNat = some 58) := by
  unfold Lib.hasSuffix
  rw [Bool.eq_iff_iff, decide_eq_true_eq, List.isSuffixOf_iff_suffix]
  constructor
  · rintro ⟨t, rfl⟩; simp
  · intro h
    rcases hl : l.getLast? with _ | c
    · rw [hl] at h; cases h
    · rw [hl] at h
      have hc : c = 58 := by
        simp only [Option.map_some, Option.some.injEq] at h
        exact UInt8.toNat.inj (by rw [h]; rfl)
      subst hc
      obtain ⟨t, ht⟩ := List.getLast?_eq_some_iff.1 hl
      exact ⟨t, ht.symm⟩
theorem suffix_any (s : ByteArray) (w : World) (hs : s.size ≤ 9223372036854775807) : Calls Tryz.prog 48 #[.string s, .string { data := #[58] }] w fun e w' => e = .returned (.bool (decide ((bytesS s).getLast?.map UInt8.toNat = some 58))) ∧ w' = w :=
  (Any.strings_HasSuffix Tryz.lays100 s ⟨#[58]⟩ w hs).mono fun e w' ⟨h1, h2⟩ => ⟨by rw [h1]; exact congrArg (fun b => Ending.returned (.bool b)) (ends_colon (bytesS s)), h2⟩
theorem colon_cut {l : Str} (h : l.getLast?.map UInt8.toNat = some 58) : Lib.trimSuffix l [58] = l.dropLast := by
  unfold Lib.trimSuffix
  rw [ends_colon, if_pos (decide_eq_true h)]
  rw [List.dropLast_eq_take]
  rfl
theorem cut_any (s : ByteArray) (w : World) (hs : s.size ≤ 9223372036854775807) (h : (bytesS s).getLast?.map UInt8.toNat = some 58) : Calls Tryz.prog 69 #[.string s, .string { data := #[58] }] w fun e w' => e = .returned (.string (strS (bytesS s).dropLast)) ∧ w' = w :=
  (Any.strings_TrimSuffix Tryz.lays102 s ⟨#[58]⟩ w hs).mono fun e w' ⟨h1, h2⟩ => ⟨by rw [h1]; exact congrArg (fun l => Ending.returned (.string (strS l))) (colon_cut h), h2⟩
theorem unsign_any (s : ByteArray) (w : World) : Calls Tryz.prog 92 #[.string s, .string { data := #[45] }] w fun e w' => e = .returned (.string (strS (unsign (bytesS s)))) ∧ w' = w :=
  (Any.strings_TrimPrefix Tryz.lays101 s ⟨#[45]⟩ w).mono fun e w' ⟨h1, h2⟩ => ⟨by rw [h1]; exact congrArg (fun l => Ending.returned (.string (strS l))) (lib_unsign (bytesS s)), h2⟩
theorem clone_any (s : ByteArray) (w : World) (hs : s.size ≤ 281474976710656) : Calls Tryz.prog 97 #[.string s] w fun e w' => e = .returned (.string s) ∧ Kept (fun _ => False) w w' :=
  (Any.stringslite_Clone Tryz.laysM316 s w hs).mono fun _ _ ⟨h1, h2⟩ => ⟨h1, Kept.ofBelow h2⟩
theorem itoa_any (i : Nat) (hi : i < 100) (w : World) : Calls Tryz.prog 102 #[.int .i64 i] w fun e w' => e = .returned (.string (strS (decI i))) ∧ w' = w :=
  (Any.strconv_Itoa_small Tryz.lays171 i hi w).mono fun e w' ⟨h1, h2⟩ => ⟨by
    rw [h1]
    have e1 : Lib.decDigits i = decI i := by
      unfold decI decN
      rw [if_neg (by omega), lib_digits 19 _ (by omega)]
      rfl
    rw [e1]; rfl, h2⟩
theorem bytesWorld_kept (w : World) (e : TypeId) (t : ByteArray) : Kept (fun _ => False) w (Lib.bytesWorld w e t) := by
  unfold Lib.bytesWorld
  exact Kept.ofBelow (Lib.below_freeze (Kept.below (((Kept.refl (fun _ => False) w).drew).alloc _) (Nat.le_refl _) (fun _ f => f.elim)) (Nat.le_refl _) _)
theorem int_yes (s : ByteArray) (w : World) (hs : s.size ≤ 100000) {v : Int} (h : Lib.parseIntB 64 (bytesS s) = .ok v) : Calls Tryz.prog 94 #[.string s, .int .i64 10, .int .i64 64] w fun e w' => e = .returned (.tuple #[.int .i64 v, .nilIface]) ∧ Kept (fun _ => False) w w' :=
  (Any.strconv_ParseInt_10_at64_ok Tryz.laysC174 s (by omega) v h w).mono fun e w' ⟨h1, h2⟩ => ⟨h1, by
    rcases h2 with rfl | ⟨t, rfl⟩
    · exact Kept.refl _ _
    · exact bytesWorld_kept _ _ _⟩
theorem int_no (s : ByteArray) (w : World) (hL : Laid w) (hs : s.size ≤ 100000) (h : Lib.parseIntB 64 (bytesS s) = Lib.parseIntB 64 []) : Calls Tryz.prog 94 #[.string s, .int .i64 10, .int .i64 64] w fun e w' => ∃ t p, e = .returned (.tuple #[.int .i64 0, .iface t p]) ∧ Kept (fun _ => False) w w' := by
  obtain ⟨ev, he, hev⟩ := hL.syn
  exact (Any.strconv_ParseInt_10_at64_syntax Tryz.laysC174 s (by omega) (h.trans rfl) ev w he hev).mono fun e w' ⟨N, h1, _, _, h2⟩ => ⟨_, _, h1, Kept.ofBelow h2⟩
/-- The cells behind a split. -/
def cutCells (l : Str) (n : Nat) : Array Value := Lib.cellsOf (Lib.splitB ⟨#[32]⟩ 0 (min 4 (n + 1) - 1) (strS l)) (min 4 (n + 1))
theorem split_any (s : ByteArray) (w : World) (hL : Laid w) (hs : s.size ≤ 100000) : Calls Tryz.prog 62 #[.string s, .string { data := #[32] }, .int .i64 4] w fun e w' =>
    ∃ ps : List Str, ∃ c, ps = Lib.splitK [32] 0 (min 4 (s.size + 1) - 1) (bytesS s) ∧ ps.length ≤ 4 ∧ ps.length ≤ c ∧ c ≤ 4 ∧ (0 < s.size → c ≠ 1) ∧ e = .returned (.slice (some ⟨w.heap.size, 0, none⟩) ps.length c) ∧ Kept (fun _ => False) w w' ∧
      w'.heap[w.heap.size]? = some (.cells ((ps.map (fun p => Value.string (strS p)) ++ List.replicate (c - ps.length) (Value.string ByteArray.empty)).toArray) 9 (0, 0)) := by
  obtain ⟨m, hm⟩ := hL.most
  refine (Any.strings_SplitN Tryz.lays147 (by kernel_rfl) s ⟨#[32]⟩ 4 m w (by omega) hm (by decide) (by omega) (by omega)).mono fun e w' ⟨h1, h2⟩ => ?_
  have hd := Lib.splitB_data ⟨#[32]⟩ 0 (min 4 (s.size + 1) - 1) s
  have hl := Lib.splitB_length_le ⟨#[32]⟩ 0 (min 4 (s.size + 1) - 1) s
  refine ⟨(Lib.splitB ⟨#[32]⟩ 0 (min 4 (s.size + 1) - 1) s).map bytesS, min 4 (s.size + 1), hd, ?_, ?_, ?_, ?_, ?_, ?_, ?_⟩
  · rw [List.length_map]; omega
  · rw [List.length_map]; omega
  · omega
  · omega
  · rw [h1, List.length_map]
  · rw [h2]; exact (Kept.refl _ w).alloc _
  · rw [h2]
    unfold World.alloc
    rw [Array.getElem?_push_size]
    unfold Lib.cellsOf
    simp only [List.length_map, List.map_map]
    rfl
theorem byte_in (l : Str) (c : UInt8) : decide (Lib.indexByte l c ≥ 0) = l.any (fun d => d.toNat == c.toNat) := by
  induction l with
  | nil => rfl
  | cons d l ih =>
    unfold Lib.indexByte
    rw [List.any_cons]
    by_cases h : d = c
    · subst h
      simp
    · have h1 : (d == c) = false := by rw [beq_eq_false_iff_ne]; exact h
      have h2 : (d.toNat == c.toNat) = false := by rw [beq_eq_false_iff_ne]; exact fun e => h (UInt8.toNat.inj e)
      rw [h1, h2, Bool.false_or, ← ih]
      have := Lib.indexByte_ge l c
      simp only [Bool.false_eq_true, if_false]
      split
      · rename_i h3; rw [beq_iff_eq] at h3; rw [h3]
      · rename_i h3
        rw [beq_iff_eq] at h3
        rw [decide_eq_true (by omega), decide_eq_true (by omega)]
theorem index_any (s : ByteArray) (c : UInt8) (w : World) : Calls Tryz.prog 98 #[.string s, .int .u8 c.toNat] w fun e w' => e = .returned (.int .i64 (Lib.indexByte (bytesS s) c)) ∧ w' = w :=
  (Any.strings_IndexByte Tryz.lays137 s c.toNat w).mono fun e w' ⟨h1, h2⟩ => ⟨by
    have hc : (c.toNat : Int).toNat.toUInt8 = c := by simp
    rw [h1, hc]; rfl, h2⟩

end Go.Proofs.YtlhnbihpefgcbaaGreatDoor
end
section
namespace Go.Proofs.YtlhnbihpefgcbaaGreatDoor
open Go.RowKit

theorem isLetter_any (c : UInt8) (w : World) : Calls Tryz.prog 96 #[.int .u8 c.toNat] w fun e w' => e = .returned (.bool (isLow c)) ∧ w' = w := by
  by_cases h : 97 ≤ c.toNat
  · by_cases h2 : c.toNat ≤ 122
    · have e : isLow c = true := by unfold isLow; rw [decide_eq_true h, decide_eq_true h2]; rfl
      rw [e]
      have h1 : (97 : Int) ≤ (c.toNat : Int) := by omega
      have h3 : (c.toNat : Int) ≤ 122 := by omega
      clear e h h2
      go_enter Tryz.func96, Tryz.ntmps96
      go_wp2_with fail
      go_ret
      exact ⟨rfl, rfl⟩
    · have e : isLow c = false := by unfold isLow; rw [decide_eq_true h, decide_eq_false h2]; rfl
      rw [e]
      have h1 : (97 : Int) ≤ (c.toNat : Int) := by omega
      have h3 : ¬ (c.toNat : Int) ≤ 122 := by omega
      clear e h h2
      go_enter Tryz.func96, Tryz.ntmps96
      go_wp2_with fail
      go_ret
      exact ⟨rfl, rfl⟩
  · have e : isLow c = false := by unfold isLow; rw [decide_eq_false h]; rfl
    rw [e]
    have h1 : ¬ (97 : Int) ≤ (c.toNat : Int) := by omega
    clear e h
    go_enter Tryz.func96, Tryz.ntmps96
    go_wp2_with fail
    go_ret
    exact ⟨rfl, rfl⟩
theorem isDigit_any (c : UInt8) (w : World) : Calls Tryz.prog 93 #[.int .u8 c.toNat] w fun e w' => e = .returned (.bool (isDig c)) ∧ w' = w := by
  by_cases h : 48 ≤ c.toNat
  · by_cases h2 : c.toNat ≤ 57
    · have e : isDig c = true := by unfold isDig; rw [decide_eq_true h, decide_eq_true h2]; rfl
      rw [e]
      have h1 : (48 : Int) ≤ (c.toNat : Int) := by omega
      have h3 : (c.toNat : Int) ≤ 57 := by omega
      clear e h h2
      go_enter Tryz.func93, Tryz.ntmps93
      go_wp2_with fail
      go_ret
      exact ⟨rfl, rfl⟩
    · have e : isDig c = false := by unfold isDig; rw [decide_eq_true h, decide_eq_false h2]; rfl
      rw [e]
      have h1 : (48 : Int) ≤ (c.toNat : Int) := by omega
      have h3 : ¬ (c.toNat : Int) ≤ 57 := by omega
      clear e h h2
      go_enter Tryz.func93, Tryz.ntmps93
      go_wp2_with fail
      go_ret
      exact ⟨rfl, rfl⟩
  · have e : isDig c = false := by unfold isDig; rw [decide_eq_false h]; rfl
    rw [e]
    have h1 : ¬ (48 : Int) ≤ (c.toNat : Int) := by omega
    clear e h
    go_enter Tryz.func93, Tryz.ntmps93
    go_wp2_with fail
    go_ret
    exact ⟨rfl, rfl⟩

end Go.Proofs.YtlhnbihpefgcbaaGreatDoor
end
