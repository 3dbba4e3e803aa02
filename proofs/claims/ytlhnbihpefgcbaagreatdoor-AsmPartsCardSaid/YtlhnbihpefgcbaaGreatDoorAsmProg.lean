/-
  How the program makes code of lines, plain mathematics: line by line, jumps are noted, and linked when all lines are taken; that this is what the document asks.
  Conditions: none.
-/
import Derived.Test.YtlhnbihpefgcbaaGreatDoorAsmLines
namespace Go.Proofs.YtlhnbihpefgcbaaGreatDoor

/-- Jumps: the place in the code, the line, the name. -/
abbrev Jmps := List (Nat × Nat × Str)
/-- What came of the lines so far. -/
structure Bst where
  code : List Ln
  labs : Labs
  jmps : Jmps
  line : Nat
def bst0 : Bst := ⟨[], [], [], 0⟩
/-- A line of a label. -/
def addLabA (b : Bst) (s : Str) : Except (Nat × Nat) Bst :=
  if (findA b.labs s).isSome = true then .error (5, b.line) else .ok ⟨b.code, b.labs ++ [(s, b.code.length)], b.jmps, b.line⟩
/-- A line of an instruction. -/
def addInsA (b : Bst) (x : Ln) : Except (Nat × Nat) Bst :=
  if b.code.length = 1024 then .error (8, b.line) else .ok ⟨b.code ++ [x], b.labs, if x.target ≠ [] then b.jmps ++ [(b.code.length, b.line, x.target)] else b.jmps, b.line⟩
def nextA (b : Bst) : Bst := ⟨b.code, b.labs, b.jmps, b.line + 1⟩
/-- The next line. -/
def addA (b : Bst) (s : Str) : Except (Nat × Nat) Bst := match parseL s with
  | none => .error (2, b.line)
  | some x => if x.label ≠ [] then (addLabA b x.label).map nextA else if x.op ≠ 0 then (addInsA b x).map nextA else .ok (nextA b)
/-- All lines. -/
def runA : Bst → List Str → Except (Nat × Nat) Bst
  | b, [] => .ok b
  | b, s :: r => match addA b s with
    | .error e => .error e
    | .ok b' => runA b' r
/-- Jumps get their places. -/
def linkA (l : Labs) : List Ln → Jmps → Except Nat (List Ln)
  | c, [] => .ok c
  | c, (a, i, t) :: r => match findA l t with
    | none => .error i
    | some k => linkA l (c.modify a (fun x => { x with n := k })) r
def progA (ls : List Str) : Except (Nat × Nat) (List Ln × Labs) := match runA bst0 ls with
  | .error e => .error e
  | .ok b => match linkA b.labs b.code b.jmps with
    | .error i => .error (4, i)
    | .ok c => .ok (c, b.labs)

theorem run_cons (b : Bst) (s : Str) (r : List Str) : runA b (s :: r) = match addA b s with
    | .error e => .error e
    | .ok b' => runA b' r := rfl
theorem link_cons (l : Labs) (c : List Ln) (a i : Nat) (t : Str) (r : Jmps) : linkA l c ((a, i, t) :: r) = match findA l t with
    | none => .error i
    | some k => linkA l (c.modify a (fun x => { x with n := k })) r := rfl
/-- The lines' jumps, from line i and place a on. -/
def jmpA : Nat → Nat → List Str → Jmps
  | _, _, [] => []
  | i, a, s :: r => match parseL s with
    | none => jmpA (i + 1) a r
    | some x => (if x.target ≠ [] then [(a, i, x.target)] else []) ++ jmpA (i + 1) (if 0 < x.op then a + 1 else a) r

theorem op_low {s : Str} {x : Ln} (h : parseL s = some x) : 0 ≤ x.op := by
  have hf := core_fits h
  unfold fitsL at hf
  split at hf
  · simp only [Bool.and_eq_true, decide_eq_true_eq] at hf
    have : ({ x with label := [] } : Ln).op = zeroLn.op := by rw [hf.2]
    rw [show x.op = 0 from this]
    exact Int.le_refl 0
  split at hf
  · simp only [decide_eq_true_eq] at hf
    rw [hf]
    exact Int.le_refl 0
  · unfold mayL at hf
    simp only [Bool.and_eq_true, decide_eq_true_eq] at hf
    omega
theorem target_low {s : Str} {x : Ln} (h : parseL s = some x) (ht : x.target ≠ []) : 0 < x.op := by
  have hf := core_fits h
  unfold fitsL at hf
  split at hf
  · simp only [Bool.and_eq_true, decide_eq_true_eq] at hf
    have : ({ x with label := [] } : Ln).target = zeroLn.target := by rw [hf.2]
    exact absurd this ht
  split at hf
  · simp only [decide_eq_true_eq] at hf
    rw [hf] at ht
    exact absurd rfl ht
  · unfold mayL at hf
    simp only [Bool.and_eq_true, decide_eq_true_eq] at hf
    omega
/-- A line taken, in the document's words. -/
theorem add_is (b : Bst) (s : Str) (hb : b.code.length ≤ 1024) : addA b s = match parseL s with
    | none => .error (2, b.line)
    | some x => if x.label ≠ [] ∧ (findA b.labs x.label).isSome = true then .error (5, b.line)
      else if 0 < x.op ∧ 1024 ≤ b.code.length then .error (8, b.line)
      else .ok ⟨if 0 < x.op then b.code ++ [x] else b.code, if x.label ≠ [] then b.labs ++ [(x.label, b.code.length)] else b.labs, b.jmps ++ (if x.target ≠ [] then [(b.code.length, b.line, x.target)] else []), b.line + 1⟩ := by
  unfold addA
  cases e : parseL s with
  | none => rfl
  | some x =>
    dsimp only
    have h0 := op_low e
    by_cases hl : x.label ≠ []
    · have hop : ¬ 0 < x.op := fun h => hl (goes_is e h).1
      have htar : ¬ x.target ≠ [] := fun h => hop (target_low e h)
      rw [if_pos hl, if_neg hop, if_pos hl, if_neg htar, if_neg (show ¬ (0 < x.op ∧ 1024 ≤ b.code.length) from fun h => hop h.1), List.append_nil]
      unfold addLabA
      by_cases hf : (findA b.labs x.label).isSome = true
      · rw [if_pos hf, if_pos ⟨hl, hf⟩]; rfl
      · rw [if_neg hf, if_neg (fun h => hf h.2)]; rfl
    · rw [if_neg hl, if_neg hl, if_neg (show ¬ (x.label ≠ [] ∧ (findA b.labs x.label).isSome = true) from fun h => hl h.1)]
      by_cases hop : 0 < x.op
      · rw [if_pos (show x.op ≠ 0 by omega), if_pos hop]
        unfold addInsA
        by_cases hn : b.code.length = 1024
        · rw [if_pos hn, if_pos ⟨hop, by omega⟩]; rfl
        · rw [if_neg hn, if_neg (show ¬ (0 < x.op ∧ 1024 ≤ b.code.length) from fun h => by omega)]
          by_cases ht : x.target ≠ []
          · rw [if_pos ht, if_pos ht]; rfl
          · rw [if_neg ht, if_neg ht, List.append_nil]; rfl
      · have htar : ¬ x.target ≠ [] := fun h => hop (target_low e h)
        rw [if_neg (show ¬ x.op ≠ 0 by omega), if_neg hop, if_neg htar, List.append_nil, if_neg (show ¬ (0 < x.op ∧ 1024 ≤ b.code.length) from fun h => hop h.1)]
        rfl
theorem add_short {b b' : Bst} {s : Str} (hb : b.code.length ≤ 1024) (h : addA b s = .ok b') : b'.code.length ≤ 1024 ∧ b'.line = b.line + 1 ∧ b'.labs.length ≤ b.labs.length + 1 ∧ b'.jmps.length ≤ b.jmps.length + 1 := by
  rw [add_is b s hb] at h
  cases e : parseL s with
  | none => rw [e] at h; cases h
  | some x =>
    rw [e] at h
    dsimp only at h
    split at h
    · cases h
    split at h
    · cases h
    rename_i h2
    injection h with h
    subst h
    refine ⟨?_, rfl, ?_, ?_⟩
    · dsimp only
      split
      · rename_i hop
        rw [List.length_append]
        simp only [List.length_cons, List.length_nil]
        have : ¬ 1024 ≤ b.code.length := fun h => h2 ⟨hop, h⟩
        omega
      · exact hb
    · dsimp only; split <;> simp
    · dsimp only; split <;> simp
theorem run_is : ∀ (ls : List Str) (b : Bst), b.code.length ≤ 1024 → runA b ls = match oneA b.line ls b.code b.labs with
    | .error e => .error e
    | .ok (c, l) => .ok ⟨c, l, b.jmps ++ jmpA b.line b.code.length ls, b.line + ls.length⟩
  | [], b, hb => by simp [runA, oneA, jmpA]
  | s :: r, b, hb => by
    rw [run_cons, add_is b s hb, one_cons]
    cases e : parseL s with
    | none => rfl
    | some x =>
      dsimp only
      by_cases h1 : x.label ≠ [] ∧ (findA b.labs x.label).isSome = true
      · rw [if_pos h1, if_pos h1]
      rw [if_neg h1, if_neg h1]
      by_cases h2 : 0 < x.op ∧ 1024 ≤ b.code.length
      · rw [if_pos h2, if_pos h2]
      rw [if_neg h2, if_neg h2]
      dsimp only
      have hlen : (if 0 < x.op then b.code ++ [x] else b.code).length = if 0 < x.op then b.code.length + 1 else b.code.length := by split <;> simp
      rw [run_is r]
      · dsimp only
        cases oneA (b.line + 1) r (if 0 < x.op then b.code ++ [x] else b.code) (if x.label ≠ [] then b.labs ++ [(x.label, b.code.length)] else b.labs) with
        | error e => rfl
        | ok p =>
          obtain ⟨c, l⟩ := p
          dsimp only
          rw [hlen]
          conv => rhs; unfold jmpA
          rw [e]
          dsimp only
          rw [List.append_assoc, List.length_cons, Nat.add_assoc, Nat.add_comm 1 r.length]
      · dsimp only
        rw [hlen]
        split
        · rename_i hop
          have : ¬ 1024 ≤ b.code.length := fun h => h2 ⟨hop, h⟩
          omega
        · exact hb
/-- The lines' instructions. -/
def insA (ls : List Str) : List Ln := ls.filterMap (fun s => (parseL s).bind (fun x => if 0 < x.op then some x else none))
theorem one_insA : ∀ (ls : List Str) (i : Nat) (c : List Ln) (l : Labs) (c' : List Ln) (l' : Labs), oneA i ls c l = .ok (c', l') → c' = c ++ insA ls ∧ ∀ s ∈ ls, ∃ x, parseL s = some x
  | [], i, c, l, c', l', h => by
    unfold oneA at h
    injection h with h; injection h with h1 h2; subst h1
    exact ⟨by simp [insA], fun s hs => by cases hs⟩
  | s :: r, i, c, l, c', l', h => by
    rw [one_cons] at h
    cases e : parseL s with
    | none => rw [e] at h; cases h
    | some x =>
      rw [e] at h
      dsimp only at h
      split at h
      · cases h
      split at h
      · cases h
      obtain ⟨h1, h2⟩ := one_insA r _ _ _ _ _ h
      refine ⟨?_, fun t ht => ?_⟩
      · rw [h1]
        by_cases hx : 0 < x.op
        · rw [if_pos hx]; simp [insA, e, hx]
        · rw [if_neg hx]; simp [insA, e, hx]
      · rcases List.mem_cons.1 ht with rfl | ht
        · exact ⟨x, e⟩
        · exact h2 t ht
theorem modify_at (P : List Ln) (x : Ln) (r : List Ln) (f : Ln → Ln) : (P ++ x :: r).modify P.length f = P ++ f x :: r := by
  induction P with
  | nil => rfl
  | cons p P ih => simpa using ih
theorem link_is (l : Labs) : ∀ (ls : List Str) (i : Nat) (P : List Ln), (∀ s ∈ ls, ∃ x, parseL s = some x) → linkA l (P ++ insA ls) (jmpA i P.length ls) = match twoA i ls l with
    | some j => .error j
    | none => .ok (P ++ (insA ls).map (fixA l))
  | [], i, P, _ => by simp [insA, jmpA, linkA, twoA]
  | s :: r, i, P, h => by
    obtain ⟨x, e⟩ := h s List.mem_cons_self
    have hr : ∀ t ∈ r, ∃ x, parseL t = some x := fun t ht => h t (List.mem_cons_of_mem _ ht)
    rw [two_cons]
    unfold jmpA
    rw [e]
    dsimp only
    have hi : insA (s :: r) = (if 0 < x.op then [x] else []) ++ insA r := by
      unfold insA
      by_cases h0 : 0 < x.op <;> simp [e, h0]
    rw [hi]
    by_cases ht : x.target ≠ []
    · have hop := target_low e ht
      rw [if_pos ht, if_pos hop, if_pos hop]
      rw [List.cons_append, List.nil_append, List.cons_append, List.nil_append, link_cons]
      cases ef : findA l x.target with
      | none =>
        rw [if_pos (show x.target ≠ [] ∧ (none : Option Nat).isNone = true from ⟨ht, rfl⟩)]
      | some k =>
        rw [if_neg (show ¬ (x.target ≠ [] ∧ (some k).isNone = true) from fun g => by cases g.2)]
        dsimp only
        rw [modify_at]
        have hfx : ({ x with n := (k : Int) } : Ln) = fixA l x := by
          unfold fixA
          rw [if_pos ht, ef]
          rfl
        rw [hfx]
        have ih := link_is l r (i + 1) (P ++ [fixA l x]) hr
        rw [List.append_assoc, List.cons_append, List.nil_append, List.length_append, List.length_cons, List.length_nil, Nat.zero_add] at ih
        rw [ih]
        cases twoA (i + 1) r l with
        | some j => rfl
        | none => simp
    · rw [if_neg ht, if_neg (show ¬ (x.target ≠ [] ∧ (findA l x.target).isNone = true) from fun h => ht h.1), List.nil_append]
      have hfx : fixA l x = x := by unfold fixA; rw [if_neg ht]
      by_cases hop : 0 < x.op
      · rw [if_pos hop, if_pos hop]
        have ih := link_is l r (i + 1) (P ++ [x]) hr
        rw [List.append_assoc, List.length_append, List.length_cons, List.length_nil, Nat.zero_add] at ih
        rw [ih]
        cases twoA (i + 1) r l with
        | some j => rfl
        | none => simp [hfx]
      · rw [if_neg hop, if_neg hop, List.nil_append, link_is l r (i + 1) P hr]
/-- The program's way is the document's. -/
theorem prog_is (ls : List Str) : progA ls = asmA ls := by
  unfold progA asmA
  rw [run_is ls bst0 (by show 0 ≤ 1024; omega)]
  have e0 : oneA bst0.line ls bst0.code bst0.labs = oneA 0 ls [] [] := rfl
  rw [e0]
  cases e : oneA 0 ls [] [] with
  | error e => rfl
  | ok p =>
    obtain ⟨c, l⟩ := p
    dsimp only
    obtain ⟨h1, h2⟩ := one_insA ls 0 [] [] c l e
    rw [List.nil_append] at h1
    subst h1
    have := link_is l ls 0 [] h2
    rw [List.nil_append, List.length_nil] at this
    rw [show bst0.jmps ++ jmpA bst0.line bst0.code.length ls = jmpA 0 0 ls from List.nil_append _, this]
    cases twoA 0 ls l with
    | some j => rfl
    | none => rfl
/-- Lines on and on. -/
theorem run_append : ∀ (ls ms : List Str) (b : Bst), runA b (ls ++ ms) = match runA b ls with
    | .error e => .error e
    | .ok b' => runA b' ms
  | [], ms, b => rfl
  | s :: r, ms, b => by
    rw [List.cons_append, run_cons, run_cons]
    cases addA b s with
    | error e => rfl
    | ok b' => exact run_append r ms b'
end Go.Proofs.YtlhnbihpefgcbaaGreatDoor
