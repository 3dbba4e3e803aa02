/-
  Numbers as bytes, scripts as bytes, and what is read of them: plain mathematics.
  Conditions: none.
-/
import Derived.Test.YtkicpbnphbcdaaaScr
namespace Go.Proofs.Ytkicpbnphbcdaaa

/-- A number's seven-bit digits, the lowest first. -/
def dig (u : Nat) : List Nat := if u < 128 then [u] else (u % 128 + 128) :: dig (u / 128)
termination_by u
decreasing_by omega

theorem dig_small {u : Nat} (h : u < 128) : dig u = [u] := by rw [dig, if_pos h]
theorem dig_big {u : Nat} (h : 128 ≤ u) : dig u = (u % 128 + 128) :: dig (u / 128) := by rw [dig, if_neg (by omega)]

def foldN (n : Int) : Nat := if n < 0 then (-(n + 1)).toNat * 2 + 1 else n.toNat * 2
def unfoldN (u : Nat) : Int := if u % 2 = 1 then -((u / 2 : Nat) : Int) - 1 else ((u / 2 : Nat) : Int)
/-- A number's bytes. -/
def numB (n : Int) : List Nat := dig (foldN n)
/-- A number of 64 bits. -/
def InR (n : Int) : Prop := -9223372036854775808 ≤ n ∧ n ≤ 9223372036854775807

theorem unfold_fold (n : Int) : unfoldN (foldN n) = n := by
  unfold unfoldN foldN
  by_cases h : n < 0
  · rw [if_pos h, if_pos (by omega)]; omega
  · rw [if_neg h, if_neg (by omega)]; omega
theorem fold_unfold (u : Nat) : foldN (unfoldN u) = u := by
  unfold unfoldN foldN
  by_cases h : u % 2 = 1
  · rw [if_pos h, if_pos (by omega)]; omega
  · rw [if_neg h, if_neg (by omega)]; omega
theorem fold_lt {n : Int} (h : InR n) : foldN n < 18446744073709551616 := by
  obtain ⟨h1, h2⟩ := h
  unfold foldN
  split <;> omega
theorem unfold_in {u : Nat} (h : u < 18446744073709551616) : InR (unfoldN u) := by
  unfold unfoldN InR
  split <;> omega

theorem dig_pos (u : Nat) : 1 ≤ (dig u).length := by
  by_cases h : u < 128
  · rw [dig_small h]; simp
  · rw [dig_big (by omega)]; simp
theorem dig_len : ∀ (k u : Nat), u < 128 ^ (k + 1) → (dig u).length ≤ k + 1 := by
  intro k
  induction k with
  | zero => intro u h; rw [dig_small (by simpa using h)]; simp
  | succ k ih =>
    intro u h
    by_cases hu : u < 128
    · rw [dig_small hu]; simp
    · rw [dig_big (by omega), List.length_cons]
      have := ih (u / 128) (by rw [Nat.div_lt_iff_lt_mul (by omega), ← Nat.pow_succ]; exact h)
      omega
theorem numB_len {n : Int} (h : InR n) : (numB n).length ≤ 10 := by
  have := fold_lt h
  exact dig_len 9 _ (by omega)
theorem dig_lt : ∀ (u : Nat), ∀ b ∈ dig u, b < 256 := by
  intro u
  induction u using Nat.strongRecOn with
  | ind u ih =>
    intro b hb
    by_cases hu : u < 128
    · rw [dig_small hu] at hb; simp at hb; omega
    · rw [dig_big (by omega)] at hb
      rcases List.mem_cons.1 hb with rfl | hb
      · omega
      · exact ih _ (by omega) b hb

/-- The digits at the front of bytes, of which i were ahead, and came to acc. -/
def readD (i acc : Nat) : List Nat → Option (Nat × List Nat)
  | [] => none
  | c :: r => if (i = 9 ∧ 1 < c) ∨ (0 < i ∧ c = 0) ∨ 256 ≤ c then none
    else if c < 128 then some (acc + c % 128 * 128 ^ i, r) else readD (i + 1) (acc + c % 128 * 128 ^ i) r

theorem readD_dig : ∀ (u i acc : Nat) (r : List Nat), i ≤ 9 → u * 128 ^ i < 18446744073709551616 → (0 < i → u ≠ 0) → readD i acc (dig u ++ r) = some (acc + u * 128 ^ i, r) := by
  intro u
  induction u using Nat.strongRecOn with
  | ind u ih =>
    intro i acc r hi hb h0
    by_cases hu : u < 128
    · rw [dig_small hu, List.singleton_append]
      unfold readD
      have h9 : ¬ (i = 9 ∧ 1 < u) := by
        rintro ⟨rfl, h⟩
        omega
      rw [if_neg (by omega), if_pos hu, Nat.mod_eq_of_lt hu]
    · rw [dig_big (by omega), List.cons_append]
      unfold readD
      have h9 : i ≠ 9 := by
        rintro rfl
        omega
      have hp : (u / 128) * 128 ^ (i + 1) ≤ u * 128 ^ i := by
        rw [Nat.pow_succ, Nat.mul_comm (128 ^ i) 128, ← Nat.mul_assoc]
        exact Nat.mul_le_mul_right _ (by omega)
      rw [if_neg (by omega), if_neg (by omega), ih _ (by omega) (i + 1) _ r (by omega) (by omega) (by omega)]
      congr 2
      have e : (u % 128 + 128) % 128 = u % 128 := by omega
      have e2 : u * 128 ^ i = (u % 128 + u / 128 * 128) * 128 ^ i := by
        have : u % 128 + u / 128 * 128 = u := by omega
        rw [this]
      rw [e, e2, Nat.add_mul, Nat.pow_succ, Nat.mul_assoc (u / 128) 128, Nat.mul_comm 128 (128 ^ i), Nat.add_assoc]

theorem readD_sound : ∀ (bs : List Nat) (i acc v : Nat) (r : List Nat), i ≤ 9 → readD i acc bs = some (v, r) → ∃ u, bs = dig u ++ r ∧ v = acc + u * 128 ^ i ∧ u * 128 ^ i < 18446744073709551616 ∧ (0 < i → u ≠ 0) := by
  intro bs
  induction bs with
  | nil => intro i acc v r _ h; simp [readD] at h
  | cons c bs ih =>
    intro i acc v r hi h
    unfold readD at h
    split at h
    · cases h
    rename_i hn
    have n9 : i = 9 → c ≤ 1 := by omega
    have n0 : 0 < i → c ≠ 0 := by omega
    have n256 : c < 256 := by omega
    clear hn
    split at h
    · rename_i hc
      simp only [Option.some.injEq, Prod.mk.injEq] at h
      obtain ⟨rfl, rfl⟩ := h
      refine ⟨c, by rw [dig_small hc]; rfl, by rw [Nat.mod_eq_of_lt hc], ?_, n0⟩
      by_cases h9 : i = 9
      · have := n9 h9
        subst h9
        calc c * 128 ^ 9 ≤ 1 * 128 ^ 9 := Nat.mul_le_mul_right _ this
          _ < 18446744073709551616 := by decide
      · calc c * 128 ^ i ≤ 127 * 128 ^ 8 := Nat.mul_le_mul (by omega) (Nat.pow_le_pow_right (by omega) (by omega))
          _ < 18446744073709551616 := by decide
    · rename_i hc
      have h9 : i ≠ 9 := by omega
      obtain ⟨u, rfl, rfl, hb, h0⟩ := ih _ _ _ _ (by omega) h
      have hu := h0 (by omega)
      have e1 : (c % 128 + 128 * u) % 128 + 128 = c := by omega
      have e2 : (c % 128 + 128 * u) / 128 = u := by omega
      refine ⟨c % 128 + 128 * u, ?_, ?_, ?_, fun _ => by omega⟩
      · rw [dig_big (u := c % 128 + 128 * u) (by omega), List.cons_append, e1, e2]
      · rw [Nat.add_mul, Nat.pow_succ, Nat.add_assoc, Nat.mul_comm (128 ^ i) 128, ← Nat.mul_assoc u, Nat.mul_comm u 128]
      · have hc128 : c % 128 ≤ 127 := by omega
        have e3 : (c % 128 + 128 * u) * 128 ^ i = c % 128 * 128 ^ i + u * 128 ^ (i + 1) := by
          rw [Nat.add_mul, Nat.pow_succ, Nat.mul_comm (128 ^ i) 128, ← Nat.mul_assoc u, Nat.mul_comm u 128]
        rw [e3]
        clear e1 e2 e3 ih h h0 n9 n0 hc
        have hx : c % 128 * 128 ^ i ≤ 127 * 128 ^ i := Nat.mul_le_mul_right _ hc128
        generalize c % 128 * 128 ^ i = x at hx
        rcases (by omega : i = 0 ∨ i = 1 ∨ i = 2 ∨ i = 3 ∨ i = 4 ∨ i = 5 ∨ i = 6 ∨ i = 7 ∨ i = 8) with rfl | rfl | rfl | rfl | rfl | rfl | rfl | rfl | rfl <;> simp only [Nat.reducePow, Nat.reduceAdd, Nat.reduceMul] at hb hx ⊢ <;> omega

/-- What a reader takes from the front of what is left; none: it is bad. -/
def numP : Option (List Nat) → Int × Option (List Nat)
  | none => (0, none)
  | some bs => match readD 0 0 bs with
    | none => (0, none)
    | some (u, r) => (unfoldN u, some r)

/-- What there is to take numbers from. -/
structure Tok (β : Type) where
  e : Int → List β
  tok : Option (List β) → Int × Option (List β)
  bad : tok none = (0, none)
  gone : ∀ s n, tok s = (n, none) → n = 0
  back : ∀ n r, InR n → tok (some (e n ++ r)) = (n, some r)
  sound : ∀ s n r, tok s = (n, some r) → s = some (e n ++ r) ∧ InR n

def byteTok : Tok Nat where
  e := numB
  tok := numP
  bad := rfl
  gone := by
    intro s n h
    match s with
    | none => simp [numP] at h; omega
    | some bs =>
      simp only [numP] at h
      split at h <;> simp at h
      omega
  back := by
    intro n r h
    simp only [numP, numB]
    rw [readD_dig _ 0 0 r (by omega) (by have := fold_lt h; omega) (by omega)]
    simp [unfold_fold]
  sound := by
    intro s n r h
    match s with
    | none => simp [numP] at h
    | some bs =>
      simp only [numP] at h
      split at h
      · simp at h
      · rename_i u r' he
        simp only [Prod.mk.injEq, Option.some.injEq] at h
        obtain ⟨rfl, rfl⟩ := h
        obtain ⟨v, rfl, rfl, hb, _⟩ := readD_sound _ _ _ _ _ (by omega) he
        simp only [Nat.zero_add, Nat.pow_zero, Nat.mul_one] at hb ⊢
        exact ⟨by rw [numB, fold_unfold], unfold_in hb⟩

def inR (n : Int) : Bool := decide (-9223372036854775808 ≤ n) && decide (n ≤ 9223372036854775807)
theorem inR_iff {n : Int} : inR n = true ↔ InR n := by unfold inR InR; simp

def intP : Option (List Int) → Int × Option (List Int)
  | none => (0, none)
  | some [] => (0, none)
  | some (n :: r) => if inR n then (n, some r) else (0, none)

def intTok : Tok Int where
  e n := [n]
  tok := intP
  bad := rfl
  gone := by
    intro s n h
    match s with
    | none => simp [intP] at h; omega
    | some [] => simp [intP] at h; omega
    | some (m :: r) =>
      simp only [intP] at h
      split at h <;> simp at h
      omega
  back := by
    intro n r h
    simp only [List.singleton_append, intP]
    rw [if_pos (inR_iff.2 h)]
  sound := by
    intro s n r h
    match s with
    | none => simp [intP] at h
    | some [] => simp [intP] at h
    | some (m :: r') =>
      simp only [intP] at h
      split at h
      · rename_i hm
        simp only [Prod.mk.injEq, Option.some.injEq] at h
        obtain ⟨rfl, rfl⟩ := h
        exact ⟨rfl, inR_iff.1 hm⟩
      · simp at h

def truthN (b : Bool) : Int := if b then 1 else 0
theorem truth_in (b : Bool) : InR (truthN b) := by cases b <;> exact ⟨by decide, by decide⟩
theorem truth_one (b : Bool) : (truthN b == 1) = b := by cases b <;> rfl
theorem truth_inj {n : Int} (h0 : 0 ≤ n) (h1 : n ≤ 1) : truthN (n == 1) = n := by
  rcases (by omega : n = 0 ∨ n = 1) with rfl | rfl <;> rfl

section
variable {β α : Type} (T : Tok β)

def cntP (s : Option (List β)) : Nat × Option (List β) := if (T.tok s).1 < 0 ∨ 65536 < (T.tok s).1 then (0, none) else ((T.tok s).1.toNat, (T.tok s).2)
def flgP (s : Option (List β)) : Bool × Option (List β) := ((T.tok s).1 == 1, if (T.tok s).1 < 0 ∨ 1 < (T.tok s).1 then none else (T.tok s).2)
def loopP (get : Option (List β) → α × Option (List β)) : Nat → List α → Option (List β) → List α × Option (List β)
  | 0, acc, s => (acc, s)
  | n + 1, acc, s => match get s with
    | (_, none) => ([], none)
    | (x, some r) => loopP get n (acc ++ [x]) (some r)
def listP (get : Option (List β) → α × Option (List β)) (s : Option (List β)) : List α × Option (List β) := loopP get (cntP T s).1 [] (cntP T s).2

def obP (s : Option (List β)) : Ob × Option (List β) :=
  (⟨(T.tok s).1, (flgP T (T.tok s).2).1, (T.tok (flgP T (T.tok s).2).2).1⟩, (T.tok (flgP T (T.tok s).2).2).2)
def piP (s : Option (List β)) : Pi × Option (List β) := (⟨(T.tok s).1, (T.tok (T.tok s).2).1⟩, (T.tok (T.tok s).2).2)
def clP (s : Option (List β)) : Cl × Option (List β) :=
  (⟨(T.tok s).1, (T.tok (T.tok s).2).1, (T.tok (T.tok (T.tok s).2).2).1, (T.tok (T.tok (T.tok (T.tok s).2).2).2).1, (flgP T (T.tok (T.tok (T.tok (T.tok s).2).2).2).2).1⟩,
    (flgP T (T.tok (T.tok (T.tok (T.tok s).2).2).2).2).2)
def prP (s : Option (List β)) : List Cl × Option (List β) := listP T (clP T) s

/-- A script's parts. -/
structure Parts where
  obs : List Ob
  prs : List (List Cl)
  pis : List Pi

def scP (s : Option (List β)) : Parts × Option (List β) :=
  (⟨(listP T (obP T) s).1, (listP T (prP T) (listP T (obP T) s).2).1, (listP T (piP T) (listP T (prP T) (listP T (obP T) s).2).2).1⟩,
    (listP T (piP T) (listP T (prP T) (listP T (obP T) s).2).2).2)

def listE (enc : α → List β) (xs : List α) : List β := T.e xs.length ++ xs.flatMap enc
def obE (x : Ob) : List β := T.e x.kind ++ T.e (truthN x.fair) ++ T.e x.n
def clE (x : Cl) : List β := T.e x.kind ++ T.e x.obj ++ T.e x.n ++ T.e x.wait ++ T.e (truthN x.breaks)
def piE (x : Pi) : List β := T.e x.kind ++ T.e x.n
def prE (xs : List Cl) : List β := listE T (clE T) xs
/-- A script, written. -/
def scE (x : Parts) : List β := listE T (obE T) x.obs ++ listE T (prE T) x.prs ++ listE T (piE T) x.pis

def obOk (x : Ob) : Prop := InR x.kind ∧ InR x.n
def clOk (x : Cl) : Prop := InR x.kind ∧ InR x.obj ∧ InR x.n ∧ InR x.wait
def piOk (x : Pi) : Prop := InR x.kind ∧ InR x.n
def listOk (ok : α → Prop) (xs : List α) : Prop := xs.length ≤ 65536 ∧ ∀ x ∈ xs, ok x
def prOk (xs : List Cl) : Prop := listOk clOk xs
def scOk (x : Parts) : Prop := listOk obOk x.obs ∧ listOk prOk x.prs ∧ listOk piOk x.pis

def Back (get : Option (List β) → α × Option (List β)) (enc : α → List β) (ok : α → Prop) : Prop := ∀ x r, ok x → get (some (enc x ++ r)) = (x, some r)
def Sound (get : Option (List β) → α × Option (List β)) (enc : α → List β) (ok : α → Prop) : Prop := ∀ s x r, get s = (x, some r) → s = some (enc x ++ r) ∧ ok x

theorem tok_eq {s : Option (List β)} {r : List β} (h : (T.tok s).2 = some r) : s = some (T.e (T.tok s).1 ++ r) ∧ InR (T.tok s).1 := T.sound s _ r (by rw [← h])
theorem tok_none : (T.tok none).2 = none := by rw [T.bad]
theorem flg_none : (flgP T none).2 = none := by simp [flgP, T.bad]
theorem tok_some {s : Option (List β)} {r : List β} (h : (T.tok s).2 = some r) : ∃ t, s = some t := ⟨_, (tok_eq T h).1⟩

theorem flg_back (b : Bool) (r : List β) : flgP T (some (T.e (truthN b) ++ r)) = (b, some r) := by
  unfold flgP
  rw [T.back _ _ (truth_in b)]
  cases b <;> rfl
theorem flg_sound {s : Option (List β)} {r : List β} (h : (flgP T s).2 = some r) : s = some (T.e (truthN (flgP T s).1) ++ r) := by
  unfold flgP at h ⊢
  dsimp only at h ⊢
  split at h
  · cases h
  · rename_i hn
    rw [truth_inj (by omega) (by omega)]
    exact (tok_eq T h).1
theorem flg_some {s : Option (List β)} {r : List β} (h : (flgP T s).2 = some r) : ∃ t, s = some t := ⟨_, flg_sound T h⟩

theorem ob_back : Back (obP T) (obE T) obOk := by
  intro x r ⟨h1, h2⟩
  unfold obP obE
  rw [List.append_assoc, List.append_assoc, T.back _ _ h1]
  dsimp only
  rw [flg_back]
  dsimp only
  rw [T.back _ _ h2]
theorem ob_sound : Sound (obP T) (obE T) obOk := by
  intro s x r h
  unfold obP at h
  simp only [Prod.mk.injEq] at h
  obtain ⟨rfl, h⟩ := h
  obtain ⟨e3, k3⟩ := tok_eq T h
  have e2 := flg_sound T e3
  obtain ⟨e1, k1⟩ := tok_eq T e2
  refine ⟨?_, k1, k3⟩
  unfold obE
  rw [List.append_assoc, List.append_assoc]
  exact e1
theorem pi_back : Back (piP T) (piE T) piOk := by
  intro x r ⟨h1, h2⟩
  unfold piP piE
  rw [List.append_assoc, T.back _ _ h1]
  dsimp only
  rw [T.back _ _ h2]
theorem pi_sound : Sound (piP T) (piE T) piOk := by
  intro s x r h
  unfold piP at h
  simp only [Prod.mk.injEq] at h
  obtain ⟨rfl, h⟩ := h
  obtain ⟨e2, k2⟩ := tok_eq T h
  obtain ⟨e1, k1⟩ := tok_eq T e2
  refine ⟨?_, k1, k2⟩
  unfold piE
  rw [List.append_assoc]
  exact e1
theorem cl_back : Back (clP T) (clE T) clOk := by
  intro x r ⟨h1, h2, h3, h4⟩
  unfold clP clE
  rw [List.append_assoc, List.append_assoc, List.append_assoc, List.append_assoc, T.back _ _ h1]
  dsimp only
  rw [T.back _ _ h2]
  dsimp only
  rw [T.back _ _ h3]
  dsimp only
  rw [T.back _ _ h4]
  dsimp only
  rw [flg_back]
theorem cl_sound : Sound (clP T) (clE T) clOk := by
  intro s x r h
  unfold clP at h
  simp only [Prod.mk.injEq] at h
  obtain ⟨rfl, h⟩ := h
  have e5 := flg_sound T h
  obtain ⟨e4, k4⟩ := tok_eq T e5
  obtain ⟨e3, k3⟩ := tok_eq T e4
  obtain ⟨e2, k2⟩ := tok_eq T e3
  obtain ⟨e1, k1⟩ := tok_eq T e2
  refine ⟨?_, k1, k2, k3, k4⟩
  unfold clE
  rw [List.append_assoc, List.append_assoc, List.append_assoc, List.append_assoc]
  exact e1

variable {get : Option (List β) → α × Option (List β)} {enc : α → List β} {ok : α → Prop}

theorem loop_back (h : Back get enc ok) : ∀ (xs acc : List α) (r : List β), (∀ x ∈ xs, ok x) → loopP get xs.length acc (some (xs.flatMap enc ++ r)) = (acc ++ xs, some r)
  | [], acc, r, _ => by simp [loopP]
  | x :: xs, acc, r, hx => by
    rw [List.length_cons, loopP, List.flatMap_cons, List.append_assoc, h x _ (hx x (by simp))]
    dsimp only
    rw [loop_back h xs _ r (fun y hy => hx y (by simp [hy])), List.append_assoc]
    rfl
theorem loop_sound (h : Sound get enc ok) : ∀ (n : Nat) (acc ys : List α) (s : Option (List β)) (r : List β), loopP get n acc s = (ys, some r) → ∃ xs, ys = acc ++ xs ∧ xs.length = n ∧ s = some (xs.flatMap enc ++ r) ∧ ∀ x ∈ xs, ok x
  | 0, acc, ys, s, r, e => by
    simp only [loopP, Prod.mk.injEq] at e
    obtain ⟨rfl, rfl⟩ := e
    exact ⟨[], by simp, rfl, by simp, by simp⟩
  | n + 1, acc, ys, s, r, e => by
    simp only [loopP] at e
    split at e
    · simp at e
    · rename_i x r' hg
      obtain ⟨rfl, hok⟩ := h _ _ _ hg
      obtain ⟨xs, rfl, rfl, hs, hx⟩ := loop_sound h n _ _ _ _ e
      simp only [Option.some.injEq] at hs
      subst hs
      refine ⟨x :: xs, by simp, rfl, by simp, fun y hy => ?_⟩
      rcases List.mem_cons.1 hy with rfl | hy
      · exact hok
      · exact hx y hy

theorem list_back (h : Back get enc ok) : Back (listP T get) (listE T enc) (listOk ok) := by
  intro xs r ⟨hl, hx⟩
  unfold listP listE cntP
  rw [List.append_assoc, T.back _ _ ⟨by omega, by omega⟩]
  dsimp only
  rw [if_neg (by omega)]
  dsimp only
  rw [Int.toNat_natCast, loop_back h xs [] r hx]
  rfl
theorem list_sound (h : Sound get enc ok) : Sound (listP T get) (listE T enc) (listOk ok) := by
  intro s xs r e
  unfold listP at e
  obtain ⟨ys, rfl, hl, hs, hx⟩ := loop_sound h _ _ _ _ _ e
  unfold cntP at hl hs
  split at hs
  · cases hs
  · rename_i hn
    rw [if_neg hn] at hl
    dsimp only at hl hs
    obtain ⟨e1, _⟩ := tok_eq T hs
    refine ⟨?_, by omega, hx⟩
    unfold listE
    rw [List.append_assoc, hl, Int.toNat_of_nonneg (by omega)]
    exact e1
theorem pr_back : Back (prP T) (prE T) prOk := list_back T (cl_back T)
theorem pr_sound : Sound (prP T) (prE T) prOk := list_sound T (cl_sound T)
theorem sc_back : Back (scP T) (scE T) scOk := by
  intro x r ⟨h1, h2, h3⟩
  unfold scP scE
  rw [List.append_assoc, List.append_assoc, list_back T (ob_back T) _ _ h1]
  dsimp only
  rw [list_back T (pr_back T) _ _ h2]
  dsimp only
  rw [list_back T (pi_back T) _ _ h3]
theorem sc_sound : Sound (scP T) (scE T) scOk := by
  intro s x r h
  unfold scP at h
  simp only [Prod.mk.injEq] at h
  obtain ⟨rfl, h⟩ := h
  obtain ⟨e3, k3⟩ := list_sound T (pi_sound T) _ _ _ (Prod.ext rfl h)
  obtain ⟨e2, k2⟩ := list_sound T (pr_sound T) _ _ _ (Prod.ext rfl e3)
  obtain ⟨e1, k1⟩ := list_sound T (ob_sound T) _ _ _ (Prod.ext rfl e2)
  refine ⟨?_, k1, k2, k3⟩
  unfold scE
  rw [List.append_assoc, List.append_assoc]
  exact e1

/-- Scripts that are unlike have unlike bytes. -/
theorem sc_inj {x y : Parts} (hx : scOk x) (hy : scOk y) (h : scE T x = scE T y) : x = y := by
  have h1 := sc_back T x [] hx
  rw [h, sc_back T y [] hy] at h1
  simpa using h1.symm
end

/-- A script's bytes are its numbers' bytes. -/
theorem flat_numB {α : Type} (enc : α → List Nat) (enc' : α → List Int) (h : ∀ x, enc x = (enc' x).flatMap numB) (xs : List α) : listE byteTok enc xs = (listE intTok enc' xs).flatMap numB := by
  have e : xs.flatMap enc = (xs.flatMap enc').flatMap numB := by
    rw [List.flatMap_assoc]; congr 1; funext x; exact h x
  unfold listE
  rw [e]
  simp [byteTok, intTok]
theorem scE_flat (x : Parts) : scE byteTok x = (scE intTok x).flatMap numB := by
  have h1 : ∀ x, obE byteTok x = (obE intTok x).flatMap numB := by intro x; simp [obE, byteTok, intTok]
  have h2 : ∀ x, clE byteTok x = (clE intTok x).flatMap numB := by intro x; simp [clE, byteTok, intTok]
  have h3 : ∀ x, piE byteTok x = (piE intTok x).flatMap numB := by intro x; simp [piE, byteTok, intTok]
  have h4 : ∀ xs, prE byteTok xs = (prE intTok xs).flatMap numB := flat_numB _ _ h2
  unfold scE
  rw [flat_numB _ _ h1, flat_numB _ _ h4, flat_numB _ _ h3]
  simp

end Go.Proofs.Ytkicpbnphbcdaaa
