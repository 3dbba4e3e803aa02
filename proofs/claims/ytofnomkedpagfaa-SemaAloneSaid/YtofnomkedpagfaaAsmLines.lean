/-
  Texts of lines as code, plain mathematics: the lines of texts; what is amiss first, or the code and the labels; that texts together are their lines, that a line that is neither changes nothing but the numbers, that instructions ahead move all labels by as many.
  Conditions: none.
  A text's lines, one after another: lemmas for the loops that cut them.
  Conditions: none; plain mathematics.
-/
import Derived.Test.YtofnomkedpagfaaLine
section
namespace Go.Proofs.Ytofnomkedpagfaa

/-- A text's lines. -/
def linesL : Str → List Str
  | [] => [[]]
  | c :: l => if c.toNat = 10 then [] :: linesL l else match linesL l with
    | [] => [[c]]
    | w :: ws => (c :: w) :: ws
def textsL (ts : List Str) : List Str := ts.flatMap linesL
/-- Texts as one, a new line between them. -/
def joinL : List Str → Str
  | [] => []
  | t :: ts => ts.foldl (fun a t => a ++ 10 :: t) t

theorem lines_ne (l : Str) : linesL l ≠ [] := by
  cases l with
  | nil => simp [linesL]
  | cons c l =>
    unfold linesL
    split
    · simp
    · split <;> simp
theorem lines_new (c : UInt8) (l : Str) (h : c.toNat = 10) : linesL (c :: l) = [] :: linesL l := by
  conv => lhs; unfold linesL
  rw [if_pos h]
theorem lines_cons (c : UInt8) (l : Str) (h : c.toNat ≠ 10) : ∃ w ws, linesL l = w :: ws ∧ linesL (c :: l) = (c :: w) :: ws := by
  cases e : linesL l with
  | nil => exact absurd e (lines_ne l)
  | cons w ws =>
    refine ⟨w, ws, rfl, ?_⟩
    unfold linesL
    rw [if_neg h, e]
theorem lines_more (b : Str) : ∀ a : Str, linesL (a ++ 10 :: b) = linesL a ++ linesL b
  | [] => rfl
  | c :: a => by
    by_cases h : c.toNat = 10
    · rw [List.cons_append, lines_new c _ h, lines_new c _ h, lines_more b a]
      rfl
    · obtain ⟨w, ws, h1, h2⟩ := lines_cons c a h
      obtain ⟨w', ws', h3, h4⟩ := lines_cons c (a ++ 10 :: b) h
      rw [List.cons_append, h4, h2]
      rw [lines_more b a, h1, List.cons_append] at h3
      injection h3 with h5 h6
      subst h5; subst h6
      rfl
theorem lines_fold : ∀ (ts : List Str) (a : Str), linesL (ts.foldl (fun a t => a ++ 10 :: t) a) = linesL a ++ textsL ts
  | [], a => by simp [textsL]
  | t :: ts, a => by
    rw [List.foldl_cons, lines_fold ts, lines_more]
    simp [textsL]
theorem lines_join {ts : List Str} (h : ts ≠ []) : textsL [joinL ts] = textsL ts := by
  cases ts with
  | nil => exact absurd rfl h
  | cons t ts =>
    have e := lines_fold ts t
    simp only [textsL, joinL, List.flatMap_cons, List.flatMap_nil, List.append_nil] at e ⊢
    exact e

/-- Labels and their places. -/
abbrev Labs := List (Str × Nat)
def findA (l : Labs) (n : Str) : Option Nat := (l.find? (fun p => decide (p.1 = n))).map (·.2)
/-- All lines, from number i on: what is amiss first, and where; or the instructions and the labels. -/
def oneA : Nat → List Str → List Ln → Labs → Except (Nat × Nat) (List Ln × Labs)
  | _, [], c, l => .ok (c, l)
  | i, s :: r, c, l => match parseL s with
    | none => .error (2, i)
    | some x =>
      if x.label ≠ [] ∧ (findA l x.label).isSome = true then .error (5, i)
      else if 0 < x.op ∧ 1024 ≤ c.length then .error (8, i)
      else oneA (i + 1) r (if 0 < x.op then c ++ [x] else c) (if x.label ≠ [] then l ++ [(x.label, c.length)] else l)
/-- The first line, from number i on, that goes to a name that isn't there. -/
def twoA : Nat → List Str → Labs → Option Nat
  | _, [], _ => none
  | i, s :: r, l => match parseL s with
    | none => twoA (i + 1) r l
    | some x => if x.target ≠ [] ∧ (findA l x.target).isNone = true then some i else twoA (i + 1) r l
/-- An instruction with its place. -/
def fixA (l : Labs) (x : Ln) : Ln := if x.target ≠ [] then { x with n := ((findA l x.target).getD 0 : Nat) } else x
/-- What texts are: an error and its place, or the code and the labels. -/
def asmA (ls : List Str) : Except (Nat × Nat) (List Ln × Labs) :=
  match oneA 0 ls [] [] with
  | .error e => .error e
  | .ok (c, l) => match twoA 0 ls l with
    | some i => .error (4, i)
    | none => .ok (c.map (fixA l), l)

theorem one_cons (i : Nat) (s : Str) (r : List Str) (c : List Ln) (l : Labs) : oneA i (s :: r) c l = match parseL s with
    | none => .error (2, i)
    | some x =>
      if x.label ≠ [] ∧ (findA l x.label).isSome = true then .error (5, i)
      else if 0 < x.op ∧ 1024 ≤ c.length then .error (8, i)
      else oneA (i + 1) r (if 0 < x.op then c ++ [x] else c) (if x.label ≠ [] then l ++ [(x.label, c.length)] else l) := rfl
theorem two_cons (i : Nat) (s : Str) (r : List Str) (l : Labs) : twoA i (s :: r) l = match parseL s with
    | none => twoA (i + 1) r l
    | some x => if x.target ≠ [] ∧ (findA l x.target).isNone = true then some i else twoA (i + 1) r l := rfl

/-! ### A line more ahead -/
def upE (r : Except (Nat × Nat) (List Ln × Labs)) (k : Nat) : Except (Nat × Nat) (List Ln × Labs) := match r with
  | .error (e, i) => .error (e, i + k)
  | .ok x => .ok x
theorem one_shift (k : Nat) : ∀ (ls : List Str) (i : Nat) (c : List Ln) (l : Labs), oneA (i + k) ls c l = upE (oneA i ls c l) k
  | [], i, c, l => rfl
  | s :: r, i, c, l => by
    unfold oneA
    cases parseL s with
    | none => rfl
    | some x =>
      dsimp only
      split
      · rfl
      split
      · rfl
      rw [show i + k + 1 = (i + 1) + k by omega]
      exact one_shift k r (i + 1) _ _
theorem two_shift (k : Nat) : ∀ (ls : List Str) (i : Nat) (l : Labs), twoA (i + k) ls l = (twoA i ls l).map (· + k)
  | [], i, l => rfl
  | s :: r, i, l => by
    unfold twoA
    cases parseL s with
    | none =>
      dsimp only
      rw [show i + k + 1 = (i + 1) + k by omega]
      exact two_shift k r (i + 1) l
    | some x =>
      dsimp only
      split
      · rfl
      rw [show i + k + 1 = (i + 1) + k by omega]
      exact two_shift k r (i + 1) l
/-- A line that is neither, ahead of all. -/
theorem asm_empty {s : Str} (hs : parseL s = some zeroLn) (ls : List Str) : asmA (s :: ls) = upE (asmA ls) 1 := by
  have h1 : oneA 0 (s :: ls) [] [] = upE (oneA 0 ls [] []) 1 := by
    rw [← one_shift 1 ls 0]
    conv => lhs; unfold oneA
    rw [hs]
    rfl
  have h2 : ∀ l, twoA 0 (s :: ls) l = (twoA 0 ls l).map (· + 1) := fun l => by
    rw [← two_shift 1 ls 0]
    conv => lhs; unfold twoA
    rw [hs]
    rfl
  unfold asmA
  rw [h1]
  cases oneA 0 ls [] [] with
  | error e => rfl
  | ok p =>
    obtain ⟨c, l⟩ := p
    dsimp only [upE]
    rw [h2]
    cases twoA 0 ls l <;> rfl

/-! ### Instructions ahead -/
/-- Labels, moved. -/
def moveA (n : Nat) (l : Labs) : Labs := l.map (fun p => (p.1, p.2 + n))
theorem find_move (n : Nat) (s : Str) : ∀ l : Labs, findA (moveA n l) s = (findA l s).map (· + n)
  | [] => rfl
  | p :: l => by
    have ih := find_move n s l
    unfold findA moveA at ih ⊢
    rw [List.map_cons, List.find?_cons, List.find?_cons]
    by_cases h : p.1 = s
    · simp [h]
    · simp only [h, decide_false]
      exact ih
theorem one_grows : ∀ (ls : List Str) (i : Nat) (c : List Ln) (l : Labs) (c' : List Ln) (l' : Labs), oneA i ls c l = .ok (c', l') → c.length ≤ c'.length
  | [], i, c, l, c', l', h => by
    unfold oneA at h
    injection h with h; injection h with h1 h2; subst h1; exact Nat.le_refl _
  | s :: r, i, c, l, c', l', h => by
    unfold oneA at h
    cases e : parseL s with
    | none => rw [e] at h; cases h
    | some x =>
      rw [e] at h
      dsimp only at h
      split at h
      · cases h
      split at h
      · cases h
      have := one_grows r _ _ _ _ _ h
      refine Nat.le_trans ?_ this
      split <;> simp
theorem one_move (F : List Ln) (k : Nat) : ∀ (ls : List Str) (i : Nat) (c : List Ln) (l : Labs) (c' : List Ln) (l' : Labs), oneA i ls c l = .ok (c', l') → c'.length + F.length ≤ 1024 →
    oneA (i + k) ls (F ++ c) (moveA F.length l) = .ok (F ++ c', moveA F.length l')
  | [], i, c, l, c', l', h, hn => by
    unfold oneA at h ⊢
    injection h with h; injection h with h1 h2; subst h1; subst h2; rfl
  | s :: r, i, c, l, c', l', h, hn => by
    unfold oneA at h ⊢
    cases e : parseL s with
    | none => rw [e] at h; cases h
    | some x =>
      rw [e] at h
      dsimp only at h ⊢
      split at h
      · cases h
      rename_i h1
      split at h
      · cases h
      rename_i h2
      have hg := one_grows r _ _ _ _ _ h
      rw [find_move, Option.isSome_map, if_neg h1, if_neg]
      · rw [show i + k + 1 = (i + 1) + k by omega, ← one_move F k r (i + 1) _ _ _ _ h hn]
        congr 1
        · split <;> simp
        · split
          · simp [moveA, Nat.add_comm]
          · rfl
      · rintro ⟨g1, g2⟩
        rw [if_pos g1] at hg
        simp only [List.length_append, List.length_cons, List.length_nil] at hg g2
        omega
theorem one_append : ∀ (ls ms : List Str) (i : Nat) (c : List Ln) (l : Labs), oneA i (ls ++ ms) c l = match oneA i ls c l with
    | .error e => .error e
    | .ok (c', l') => oneA (i + ls.length) ms c' l'
  | [], ms, i, c, l => rfl
  | s :: r, ms, i, c, l => by
    rw [List.cons_append, one_cons, one_cons]
    cases parseL s with
    | none => rfl
    | some x =>
      dsimp only
      split
      · rfl
      split
      · rfl
      rw [one_append r ms (i + 1)]
      simp only [List.length_cons, Nat.add_assoc, Nat.add_comm 1 r.length]
theorem two_append : ∀ (ls ms : List Str) (i : Nat) (l : Labs), twoA i (ls ++ ms) l = match twoA i ls l with
    | some j => some j
    | none => twoA (i + ls.length) ms l
  | [], ms, i, l => rfl
  | s :: r, ms, i, l => by
    rw [List.cons_append, two_cons, two_cons]
    cases parseL s with
    | none =>
      dsimp only
      rw [two_append r ms (i + 1)]
      simp only [List.length_cons, Nat.add_assoc, Nat.add_comm 1 r.length]
    | some x =>
      dsimp only
      split
      · rfl
      rw [two_append r ms (i + 1)]
      simp only [List.length_cons, Nat.add_assoc, Nat.add_comm 1 r.length]
theorem two_move (n : Nat) : ∀ (ls : List Str) (i : Nat) (l : Labs), twoA i ls (moveA n l) = twoA i ls l
  | [], i, l => rfl
  | s :: r, i, l => by
    unfold twoA
    cases parseL s with
    | none => dsimp only; exact two_move n r (i + 1) l
    | some x =>
      dsimp only
      rw [find_move, Option.isNone_map, two_move n r (i + 1) l]

/-- "now r1". -/
def nowS : Str := [110, 111, 119, 32, 114, 49]
def nowLn : Ln := ⟨[], 18, 1, 0, 0, 0, []⟩
def frontL : Nat → Str
  | 0 => []
  | n + 1 => nowS ++ 10 :: frontL n
theorem front_lines : ∀ n, linesL (frontL n) = List.replicate n nowS ++ [[]]
  | 0 => rfl
  | n + 1 => by
    unfold frontL
    rw [lines_more, front_lines n]
    rfl
theorem front_more (n : Nat) : frontL (n + 1) = frontL n ++ (nowS ++ [10]) := by
  induction n with
  | zero => rfl
  | succ n ih =>
    have e : ∀ m, frontL (m + 1) = nowS ++ 10 :: frontL m := fun _ => rfl
    rw [e n] at ih
    rw [e (n + 1), e n]
    simp only [List.append_assoc, List.cons_append]
    rw [ih]
theorem now_is : parseL nowS = some nowLn := by decide +kernel
theorem one_front : ∀ (n i : Nat) (c : List Ln) (l : Labs), c.length + n ≤ 1024 → oneA i (List.replicate n nowS ++ [[]]) c l = .ok (c ++ List.replicate n nowLn, l)
  | 0, i, c, l, h => by simp [one_cons, oneA, show parseL [] = some zeroLn from rfl, zeroLn]
  | n + 1, i, c, l, h => by
    rw [List.replicate_succ, List.cons_append, one_cons, now_is]
    dsimp only
    rw [if_neg (by simp [nowLn]), if_neg (by rintro ⟨_, g⟩; omega), if_pos (by decide), if_neg (by simp [nowLn]), one_front n (i + 1) _ _ (by simp; omega)]
    rw [List.replicate_succ, List.append_assoc]
    rfl
theorem two_front : ∀ (n i : Nat) (l : Labs), twoA i (List.replicate n nowS ++ [[]]) l = none
  | 0, i, l => by simp [two_cons, twoA, show parseL [] = some zeroLn from rfl, zeroLn]
  | n + 1, i, l => by
    rw [List.replicate_succ, List.cons_append, two_cons, now_is]
    dsimp only
    rw [if_neg (by simp [nowLn])]
    exact two_front n (i + 1) l
/-- Goes it to a name? Its place is moved too. -/
def goA (n : Nat) (x : Ln) : Ln := if x.target ≠ [] then { x with n := x.n + n } else x
/-- Each place that is told is there, if no name is missing. -/
theorem two_there : ∀ (ls : List Str) (i : Nat) (l : Labs), twoA i ls l = none → ∀ s ∈ ls, ∀ x, parseL s = some x → x.target ≠ [] → ∃ k, findA l x.target = some k
  | [], i, l, _, s, hs, x, _, _ => by cases hs
  | s :: r, i, l, h, s', hs, x, hx, ht => by
    rw [two_cons] at h
    rcases List.mem_cons.1 hs with rfl | hs
    · rw [hx] at h
      dsimp only at h
      split at h
      · cases h
      rename_i g
      cases e : findA l x.target with
      | none => exact absurd ⟨ht, by rw [e]; rfl⟩ g
      | some k => exact ⟨k, rfl⟩
    · cases e : parseL s with
      | none => rw [e] at h; exact two_there r _ l h s' hs x hx ht
      | some y =>
        rw [e] at h
        dsimp only at h
        split at h
        · cases h
        · exact two_there r _ l h s' hs x hx ht
/-- All instructions are lines' own. -/
theorem one_from : ∀ (ls : List Str) (i : Nat) (c : List Ln) (l : Labs) (c' : List Ln) (l' : Labs), oneA i ls c l = .ok (c', l') → ∀ x ∈ c', x ∈ c ∨ (0 < x.op ∧ ∃ s ∈ ls, parseL s = some x)
  | [], i, c, l, c', l', h, x, hx => by
    unfold oneA at h
    injection h with h; injection h with h1 h2; subst h1; exact .inl hx
  | s :: r, i, c, l, c', l', h, x, hx => by
    rw [one_cons] at h
    cases e : parseL s with
    | none => rw [e] at h; cases h
    | some y =>
      rw [e] at h
      dsimp only at h
      split at h
      · cases h
      split at h
      · cases h
      rcases one_from r _ _ _ _ _ h x hx with g | ⟨g0, s', g1, g2⟩
      · split at g
        · rename_i hy
          rcases List.mem_append.1 g with g | g
          · exact .inl g
          · obtain rfl := List.mem_singleton.1 g
            exact .inr ⟨hy, s, List.mem_cons_self, e⟩
        · exact .inl g
      · exact .inr ⟨g0, s', List.mem_cons_of_mem _ g1, g2⟩
/-- Instructions ahead: all labels are moved, and what goes to them. -/
theorem asm_move {ls : List Str} {c : List Ln} {l : Labs} (n : Nat) (h : asmA ls = .ok (c, l)) (hn : c.length + n ≤ 1024) :
    asmA (linesL (frontL n) ++ ls) = .ok (List.replicate n nowLn ++ c.map (goA n), moveA n l) := by
  unfold asmA at h
  cases h1 : oneA 0 ls [] [] with
  | error e => rw [h1] at h; cases h
  | ok p =>
    obtain ⟨c0, l0⟩ := p
    rw [h1] at h
    dsimp only at h
    cases h2 : twoA 0 ls l0 with
    | some i => rw [h2] at h; cases h
    | none =>
      rw [h2] at h
      dsimp only at h
      injection h with h; injection h with h3 h4
      subst h3; subst h4
      have hF : (List.replicate n nowLn).length = n := List.length_replicate
      have hm := one_move (List.replicate n nowLn) (linesL (frontL n)).length ls 0 [] [] c0 l0 h1 (by rw [hF]; rw [List.length_map] at hn; exact hn)
      rw [hF, List.append_nil] at hm
      unfold asmA
      rw [one_append]
      have hfr : oneA 0 (linesL (frontL n)) [] [] = .ok ([] ++ List.replicate n nowLn, []) := by
        rw [front_lines]
        exact one_front n 0 [] [] (by rw [List.length_map] at hn; simp; omega)
      rw [hfr]
      dsimp only
      rw [List.nil_append]
      have hm' : oneA (0 + (linesL (frontL n)).length) ls (List.replicate n nowLn) [] = .ok (List.replicate n nowLn ++ c0, moveA n l0) := hm
      rw [hm']
      dsimp only
      rw [two_append]
      have ht : twoA 0 (linesL (frontL n)) (moveA n l0) = none := by rw [front_lines]; exact two_front n 0 _
      rw [ht]
      dsimp only
      rw [two_shift, two_move, h2]
      simp only [Option.map_none, List.map_append, List.map_replicate, List.map_map]
      have e1 : fixA (moveA n l0) nowLn = nowLn := rfl
      rw [e1]
      have e2 : c0.map (fixA (moveA n l0)) = c0.map (goA n ∘ fixA l0) := by
        refine List.map_congr_left (fun x hx => ?_)
        rcases one_from ls 0 [] [] c0 l0 h1 x hx with g | ⟨g0, s, g1, g2⟩
        · cases g
        by_cases ht : x.target ≠ []
        · obtain ⟨k, hk⟩ := two_there ls 0 l0 h2 s g1 x g2 ht
          simp only [fixA, goA, Function.comp, if_pos ht, find_move, hk, Option.map_some, Option.getD_some]
          rfl
        · simp only [fixA, goA, Function.comp, if_neg ht]
      rw [e2]
/-- What goes to a name: jumps and calls. -/
theorem goes_is {s : Str} {x : Ln} (h : parseL s = some x) (h0 : 0 < x.op) : x.label = [] ∧ (x.target ≠ [] ↔ 8 ≤ x.op ∧ x.op ≤ 12) := by
  have hf := core_fits h
  unfold fitsL at hf
  split at hf
  · rename_i hl
    simp only [Bool.and_eq_true, decide_eq_true_eq] at hf
    have : ({ x with label := [] } : Ln).op = zeroLn.op := by rw [hf.2]
    exact absurd (show x.op = 0 from this) (by omega)
  rename_i hl
  refine ⟨by simpa using hl, ?_⟩
  rw [if_neg (by omega)] at hf
  simp only [Bool.and_eq_true] at hf
  split at hf
  · rename_i hg
    simp only [Bool.and_eq_true] at hf
    have hne : x.target ≠ [] := by
      intro e
      rw [e] at hf
      exact absurd hf.2.2 (by decide)
    exact ⟨fun _ => hg, fun _ => hne⟩
  · rename_i hg
    simp only [decide_eq_true_eq] at hf
    exact ⟨fun g => absurd hf.2 g, fun g => absurd g hg⟩
end Go.Proofs.Ytofnomkedpagfaa
end
section
namespace Go.Proofs.Ytofnomkedpagfaa

theorem lines_one : ∀ (w : Str), (∀ c ∈ w, c.toNat ≠ 10) → linesL w = [w]
  | [], _ => rfl
  | c :: w, h => by
    obtain ⟨a, b, h1, h2⟩ := lines_cons c w (h c List.mem_cons_self)
    rw [lines_one w (fun d hd => h d (List.mem_cons_of_mem _ hd))] at h1
    injection h1 with h3 h4
    subst h3; subst h4
    exact h2
theorem lines_step {l : Str} {f i : Nat} (hf : f ≤ i) (hi : l[i]? = some 10) (hno : ∀ (j : Nat) (d : UInt8), f ≤ j → j < i → l[j]? = some d → d.toNat ≠ 10) :
    linesL (l.drop f) = (l.drop f).take (i - f) :: linesL (l.drop (i + 1)) := by
  have e : l.drop f = (l.drop f).take (i - f) ++ 10 :: l.drop (i + 1) := by
    have h1 : l.drop i = 10 :: l.drop (i + 1) := by
      obtain ⟨h1, h2⟩ := List.getElem?_eq_some_iff.1 hi
      rw [← h2]; exact List.drop_eq_getElem_cons h1
    rw [← h1]
    have h2 : (l.drop f).drop (i - f) = l.drop i := by rw [List.drop_drop]; congr 1; omega
    rw [← h2, List.take_append_drop]
  conv => lhs; rw [e]
  rw [lines_more, lines_one]
  · rfl
  intro c hc
  obtain ⟨j, hj⟩ := List.getElem?_of_mem hc
  rw [List.getElem?_take] at hj
  split at hj
  · rw [List.getElem?_drop] at hj
    exact hno (f + j) c (by omega) (by omega) hj
  · cases hj
theorem lines_end {l : Str} {f : Nat} (hno : ∀ (j : Nat) (d : UInt8), f ≤ j → j < l.length → l[j]? = some d → d.toNat ≠ 10) : linesL (l.drop f) = [(l.drop f).take (l.length - f)] := by
  rw [List.take_of_length_le (by rw [List.length_drop]; omega)]
  refine lines_one _ (fun c hc => ?_)
  obtain ⟨j, hj⟩ := List.getElem?_of_mem hc
  rw [List.getElem?_drop] at hj
  exact hno (f + j) c (by omega) (List.getElem?_eq_some_iff.1 hj).1 hj
theorem lines_len : ∀ l : Str, (linesL l).length ≤ l.length + 1
  | [] => by simp [linesL]
  | c :: l => by
    have ih := lines_len l
    by_cases h : c.toNat = 10
    · rw [lines_new c l h]; simp; omega
    · obtain ⟨a, b, h1, h2⟩ := lines_cons c l h
      rw [h1] at ih
      rw [h2]; simp at ih ⊢; omega
/-- A line is no longer than its text. -/
theorem lines_short : ∀ l : Str, ∀ s ∈ linesL l, s.length ≤ l.length
  | [], s, hs => by simp [linesL] at hs; subst hs; simp
  | c :: l, s, hs => by
    have ih := lines_short l
    by_cases h : c.toNat = 10
    · rw [lines_new c l h] at hs
      rcases List.mem_cons.1 hs with rfl | hs
      · simp
      · have := ih s hs; simp; omega
    · obtain ⟨a, b, h1, h2⟩ := lines_cons c l h
      rw [h2] at hs
      rw [h1] at ih
      rcases List.mem_cons.1 hs with rfl | hs
      · have := ih a List.mem_cons_self; simp; omega
      · have := ih s (List.mem_cons_of_mem _ hs); simp; omega
/-- How many lines texts have, at most. -/
def sizeL (ts : List Str) : Nat := (ts.map (fun t => t.length + 1)).sum
theorem texts_len : ∀ ts : List Str, (textsL ts).length ≤ sizeL ts
  | [] => by simp [textsL, sizeL]
  | t :: ts => by
    have ih := texts_len ts
    have := lines_len t
    simp only [textsL, sizeL, List.flatMap_cons, List.length_append, List.map_cons, List.sum_cons] at ih ⊢
    omega
theorem texts_short {ts : List Str} {n : Nat} (h : ∀ t ∈ ts, t.length ≤ n) : ∀ s ∈ textsL ts, s.length ≤ n := by
  intro s hs
  obtain ⟨t, ht, hs⟩ := List.mem_flatMap.1 hs
  exact Nat.le_trans (lines_short t s hs) (h t ht)
theorem texts_snoc {ts : List Str} {i : Nat} {t : Str} (h : ts[i]? = some t) : textsL (ts.take (i + 1)) = textsL (ts.take i) ++ linesL t := by
  have hi := (List.getElem?_eq_some_iff.1 h).1
  rw [List.take_succ_eq_append_getElem hi, textsL, List.flatMap_append, (List.getElem?_eq_some_iff.1 h).2]
  simp [textsL]
theorem size_snoc {ts : List Str} {i : Nat} {t : Str} (h : ts[i]? = some t) : sizeL (ts.take i) + (t.length + 1) ≤ sizeL ts := by
  have hi := (List.getElem?_eq_some_iff.1 h).1
  have e : ts = ts.take i ++ t :: ts.drop (i + 1) := by
    rw [← (List.getElem?_eq_some_iff.1 h).2, ← List.drop_eq_getElem_cons hi, List.take_append_drop]
  conv => rhs; rw [e]
  simp only [sizeL, List.map_append, List.sum_append, List.map_cons, List.sum_cons]
  omega

end Go.Proofs.Ytofnomkedpagfaa
end
