/-
  Lines of the assembly, plain mathematics: what a line is, its text, and that a text that was printed is parsed as it was.
  Conditions: none.
-/
import Derived.Test.YtofnomkedpagfaaKept
namespace Go.Proofs.Ytofnomkedpagfaa

/-- Bytes. -/
abbrev Str := List UInt8

def isBlank (c : UInt8) : Bool := c.toNat == 32 || c.toNat == 9
def trimL (l : Str) : Str := l.dropWhile isBlank
def trimR (l : Str) : Str := (l.reverse.dropWhile isBlank).reverse
def trimS (l : Str) : Str := trimR (trimL l)

def isLow (c : UInt8) : Bool := decide (97 ≤ c.toNat) && decide (c.toNat ≤ 122)
def isDig (c : UInt8) : Bool := decide (48 ≤ c.toNat) && decide (c.toNat ≤ 57)
def inName (c : UInt8) : Bool := isLow c || isDig c || c.toNat == 95 || c.toNat == 46
def isName (l : Str) : Bool := match l with
  | [] => false
  | c :: _ => decide (l.length ≤ 24) && isLow c && l.all inName

/-- A number of decimal digits. -/
def valL (l : Str) : Nat := l.foldl (fun v c => v * 10 + (c.toNat - 48)) 0
def digsL (l : Str) : Option Int := if 1 ≤ l.length ∧ l.length ≤ 18 ∧ l.all isDig = true then some (valL l : Int) else none
def numL : Str → Option Int
  | [] => none
  | c :: r => if c.toNat = 45 then (digsL r).map (fun v => -v) else digsL (c :: r)
def decF : Nat → Nat → Str
  | 0, _ => []
  | f + 1, n => if n < 10 then [UInt8.ofNat (48 + n)] else decF f (n / 10) ++ [UInt8.ofNat (48 + n % 10)]
def decN (n : Nat) : Str := decF 20 n
def decI (v : Int) : Str := if v < 0 then 45 :: decN (-v).toNat else decN v.toNat
def regT (a : Int) : Str := 114 :: decI a
def regL (l : Str) : Option Int := ((List.range 16).find? (fun (i : Nat) => l == regT (i : Int))).map (fun (i : Nat) => (i : Int))

/-- A line: a label, or an instruction and where it goes to, or neither. -/
structure Ln where
  label : Str
  op : Int
  a : Int
  b : Int
  c : Int
  n : Int
  target : Str
  deriving DecidableEq
def zeroLn : Ln := ⟨[], 0, 0, 0, 0, 0, []⟩

/-- The instructions' words, and what they have. -/
def specs : List (Str × Str) := [
  ([115, 101, 116], [65, 78]),
  ([109, 111, 118], [65, 66]),
  ([97, 100, 100], [65, 66, 67]),
  ([97, 100, 100, 105], [65, 66, 78]),
  ([108, 100], [65, 66, 78]),
  ([115, 116], [65, 66, 78]),
  ([99, 97, 115], [65, 66, 78]),
  ([106, 109, 112], [84]),
  ([106, 101, 113], [65, 66, 84]),
  ([106, 110, 101], [65, 66, 84]),
  ([106, 108, 116], [65, 66, 84]),
  ([99, 97, 108, 108], [84]),
  ([114, 101, 116], []),
  ([112, 97, 114, 107], [65]),
  ([117, 110, 112, 97, 114, 107], [65]),
  ([97, 108, 108, 111, 99], [65, 78]),
  ([115, 101, 108, 102], [65]),
  ([110, 111, 119], [65]),
  ([105, 110, 116, 114], [65]),
  ([115, 101, 116, 105, 110, 116], []),
  ([109, 97, 114, 107], [78, 65]),
  ([100, 111, 110, 101], [65])]

/-- What one of the things that an instruction has makes of a line. -/
def argL (h : UInt8) (w : Str) (x : Ln) : Option Ln :=
  if h.toNat = 65 then (regL w).map fun r => { x with a := r }
  else if h.toNat = 66 then (regL w).map fun r => { x with b := r }
  else if h.toNat = 67 then (regL w).map fun r => { x with c := r }
  else if h.toNat = 78 then (numL w).map fun n => { x with n := n }
  else if isName w then some { x with target := w } else none
def argsL : Str → List Str → Ln → Option Ln
  | h :: hs, w :: ws, x => (argL h w x).bind (argsL hs ws)
  | _, _, x => some x
def findL : Nat → List (Str × Str) → Str → Nat → Option (Nat × Str)
  | _, [], _, _ => none
  | i, (wd, has) :: t, w, k => if wd = w ∧ has.length = k then some (i, has) else findL (i + 1) t w k
/-- What stands between single spaces. -/
def wordsL : Str → List Str
  | [] => [[]]
  | c :: l => if c.toNat = 32 then [] :: wordsL l else match wordsL l with
    | [] => [[c]]
    | w :: ws => (c :: w) :: ws
def casOk (x : Ln) : Option Ln := if x.op = 7 ∧ 13 < x.a then none else some x
def insL : List Str → Option Ln
  | [] => none
  | w :: r => (findL 1 specs w r.length).bind fun (op, has) => (argsL has r { zeroLn with op := op }).bind casOk
/-- A line's text, without what is around it. -/
def coreL (l : Str) : Option Ln := match l with
  | [] => some zeroLn
  | c :: _ => if c.toNat = 59 then some zeroLn
    else if l.getLast?.map UInt8.toNat = some 58 then (if isName l.dropLast then some { zeroLn with label := l.dropLast } else none)
    else insL (wordsL l)
def parseL (l : Str) : Option Ln := coreL (trimS l)

def fieldL (h : UInt8) (x : Ln) : Str :=
  if h.toNat = 65 then regT x.a
  else if h.toNat = 66 then regT x.b
  else if h.toNat = 67 then regT x.c
  else if h.toNat = 78 then decI x.n
  else x.target
def specL (op : Int) : Str × Str := (specs[(op - 1).toNat]?).getD ([], [])
def printL (x : Ln) : Str :=
  if x.label ≠ [] then x.label ++ [58]
  else if x.op < 1 ∨ 22 < x.op then []
  else (specL x.op).1 ++ (specL x.op).2.flatMap (fun h => 32 :: fieldL h x)

def hasL (h : Nat) (op : Int) : Bool := (specL op).2.any (fun c => c.toNat == h)
def small (v : Int) : Bool := decide (-999999999999999999 ≤ v) && decide (v ≤ 999999999999999999)
/-- Is it an instruction? -/
def mayL (op a b c n : Int) : Bool :=
  decide (1 ≤ op) && decide (op ≤ 22) && decide (0 ≤ a) && decide (a ≤ 15) && decide (0 ≤ b) && decide (b ≤ 15) && decide (0 ≤ c) && decide (c ≤ 15) &&
  (hasL 65 op || a == 0) && (hasL 66 op || b == 0) && (hasL 67 op || c == 0) && (hasL 78 op || hasL 84 op || n == 0) && (hasL 84 op || small n) && (op != 7 || decide (a ≤ 13))
/-- Is a line parsed as this one? -/
def fitsL (x : Ln) : Bool :=
  if x.label ≠ [] then isName x.label && decide ({ x with label := [] } = zeroLn)
  else if x.op = 0 then decide (x = zeroLn)
  else mayL x.op x.a x.b x.c x.n && (if 8 ≤ x.op ∧ x.op ≤ 12 then x.n == 0 && isName x.target else decide (x.target = []))

/-- From the end. -/
theorem snoc_ind {α : Type} {P : List α → Prop} (h0 : P []) (h1 : ∀ l x, P l → P (l ++ [x])) (l : List α) : P l := by
  have key : ∀ r : List α, P r.reverse := by
    intro r
    induction r with
    | nil => exact h0
    | cons x r ih => rw [List.reverse_cons]; exact h1 _ _ ih
  have := key l.reverse
  rwa [List.reverse_reverse] at this

/-- Decimal digits. -/
theorem ofNat_toNat {n : Nat} (h : n < 256) : (UInt8.ofNat n).toNat = n := by simp; omega
theorem decF_dig : ∀ f n, ∀ c ∈ decF f n, isDig c = true := by
  intro f
  induction f with
  | zero => intro n c h; simp [decF] at h
  | succ f ih =>
    intro n c h
    unfold decF at h
    split at h
    · simp only [List.mem_singleton] at h
      subst h
      unfold isDig
      rw [ofNat_toNat (by omega)]
      simp; omega
    · rcases List.mem_append.1 h with h | h
      · exact ih _ c h
      · simp only [List.mem_singleton] at h
        subst h
        unfold isDig
        rw [ofNat_toNat (by omega)]
        simp; omega
theorem valL_snoc (l : Str) (c : UInt8) : valL (l ++ [c]) = valL l * 10 + (c.toNat - 48) := by simp [valL]
theorem decF_val : ∀ f n, n < 10 ^ f → valL (decF f n) = n := by
  intro f
  induction f with
  | zero => intro n h; simp at h; subst h; rfl
  | succ f ih =>
    intro n h
    unfold decF
    split
    · rename_i h10
      simp only [valL, List.foldl]
      rw [ofNat_toNat (by omega)]; omega
    · rw [valL_snoc, ih _ (by rw [Nat.pow_succ] at h; omega), ofNat_toNat (by omega)]; omega
theorem decF_len : ∀ f n, (decF f n).length ≤ f := by
  intro f
  induction f with
  | zero => intro n; simp [decF]
  | succ f ih =>
    intro n
    unfold decF
    split
    · simp
    · have := ih (n / 10); simp; omega
theorem decF_more : ∀ f g n, n < 10 ^ f → f ≤ g → 1 ≤ f → decF g n = decF f n := by
  intro f
  induction f with
  | zero => intro g n _ _ h; omega
  | succ f ih =>
    intro g n h hg _
    obtain ⟨g, rfl⟩ : ∃ g', g = g' + 1 := ⟨g - 1, by omega⟩
    unfold decF
    split
    · rfl
    · rename_i h10
      rw [Nat.pow_succ] at h
      rcases Nat.eq_zero_or_pos f with h0 | h0
      · subst h0; simp at h; omega
      · rw [ih g (n / 10) (by omega) (by omega) h0]
theorem decN_len {n : Nat} (h : n < 10 ^ 18) : (decN n).length ≤ 18 := by
  unfold decN
  rw [decF_more 18 20 n h (by omega) (by omega)]
  exact decF_len 18 n
theorem decF_pos (f n : Nat) : 1 ≤ (decF (f + 1) n).length := by unfold decF; split <;> simp
theorem decN_digs {n : Nat} (h : n < 10 ^ 18) : digsL (decN n) = some (n : Int) := by
  unfold digsL
  rw [if_pos ⟨decF_pos 19 n, decN_len h, List.all_eq_true.2 (decF_dig 20 n)⟩]
  unfold decN
  rw [decF_val 20 n (by omega)]
theorem dig_ne {c : UInt8} (h : isDig c = true) : c.toNat ≠ 45 ∧ c.toNat ≠ 32 ∧ c.toNat ≠ 9 ∧ c.toNat ≠ 58 ∧ c.toNat ≠ 59 := by
  unfold isDig at h
  simp only [Bool.and_eq_true, decide_eq_true_eq] at h
  omega
theorem decI_num {v : Int} (h : small v = true) : numL (decI v) = some v := by
  unfold small at h
  simp only [Bool.and_eq_true, decide_eq_true_eq] at h
  unfold decI
  split
  · rename_i hv
    show (if (45 : UInt8).toNat = 45 then (digsL (decN (-v).toNat)).map (fun v => -v) else digsL (45 :: decN (-v).toNat)) = some v
    rw [if_pos (by decide), decN_digs (by omega)]
    simp; omega
  · rename_i hv
    have h1 := decN_digs (n := v.toNat) (by omega)
    rcases hd : decN v.toNat with _ | ⟨c, r⟩
    · rw [hd] at h1; simp [digsL] at h1
    · have hc : isDig c = true := decF_dig 20 v.toNat c (by show c ∈ decN v.toNat; rw [hd]; simp)
      show (if c.toNat = 45 then (digsL r).map (fun v => -v) else digsL (c :: r)) = some v
      rw [if_neg (dig_ne hc).1, ← hd, h1]
      simp; omega
theorem regT_reg {a : Int} (h0 : 0 ≤ a) (h1 : a ≤ 15) : regL (regT a) = some a := by
  have : a = 0 ∨ a = 1 ∨ a = 2 ∨ a = 3 ∨ a = 4 ∨ a = 5 ∨ a = 6 ∨ a = 7 ∨ a = 8 ∨ a = 9 ∨ a = 10 ∨ a = 11 ∨ a = 12 ∨ a = 13 ∨ a = 14 ∨ a = 15 := by omega
  rcases this with rfl | rfl | rfl | rfl | rfl | rfl | rfl | rfl | rfl | rfl | rfl | rfl | rfl | rfl | rfl | rfl <;> decide +kernel
theorem regL_range {l : Str} {a : Int} (h : regL l = some a) : 0 ≤ a ∧ a ≤ 15 ∧ l = regT a := by
  unfold regL at h
  rw [Option.map_eq_some_iff] at h
  obtain ⟨i, h1, rfl⟩ := h
  have h2 := List.mem_of_find?_eq_some h1
  have h3 := List.find?_some h1
  rw [List.mem_range] at h2
  exact ⟨by omega, by omega, by simpa using h3⟩
theorem digsL_range {l : Str} {v : Int} (h : digsL l = some v) : 0 ≤ v ∧ v ≤ 999999999999999999 := by
  unfold digsL at h
  split at h
  · rename_i hh
    simp only [Option.some.injEq] at h
    have key : ∀ l : Str, l.all isDig = true → valL l < 10 ^ l.length := by
      refine snoc_ind (P := fun l => l.all isDig = true → valL l < 10 ^ l.length) ?_ ?_
      · intro _; simp [valL]
      · intro l c ih hl
        rw [List.all_append, Bool.and_eq_true] at hl
        have h1 := ih hl.1
        have h2 : isDig c = true := by simpa using hl.2
        unfold isDig at h2
        simp only [Bool.and_eq_true, decide_eq_true_eq] at h2
        rw [valL_snoc, List.length_append, List.length_singleton, Nat.pow_succ]
        omega
    have h1 := key l hh.2.2
    have h2 : 10 ^ l.length ≤ 10 ^ 18 := Nat.pow_le_pow_right (by omega) hh.2.1
    omega
  · cases h
theorem numL_range {l : Str} {v : Int} (h : numL l = some v) : small v = true := by
  unfold small
  simp only [Bool.and_eq_true, decide_eq_true_eq]
  match l, h with
  | c :: r, h =>
    replace h : (if c.toNat = 45 then (digsL r).map (fun v => -v) else digsL (c :: r)) = some v := h
    split at h
    · rw [Option.map_eq_some_iff] at h
      obtain ⟨u, h1, rfl⟩ := h
      have := digsL_range h1
      omega
    · have := digsL_range h
      omega

/-- Blanks. -/
theorem dropWhile_all {p : Str} (l : Str) (h : p.all isBlank = true) : (p ++ l).dropWhile isBlank = l.dropWhile isBlank := by
  induction p with
  | nil => rfl
  | cons c p ih =>
    rw [List.all_cons, Bool.and_eq_true] at h
    rw [List.cons_append, List.dropWhile_cons_of_pos h.1, ih h.2]
theorem trimL_all {p : Str} (l : Str) (h : p.all isBlank = true) : trimL (p ++ l) = trimL l := dropWhile_all l h
theorem trimR_all {q : Str} (l : Str) (h : q.all isBlank = true) : trimR (l ++ q) = trimR l := by
  unfold trimR
  rw [List.reverse_append, dropWhile_all]
  rw [List.all_reverse]; exact h
theorem trimL_end {q : Str} (l : Str) (h : q.all isBlank = true) : trimR (trimL (l ++ q)) = trimR (trimL l) := by
  induction l with
  | nil =>
    have h1 : trimL q = [] := by
      have := dropWhile_all (p := q) [] h
      rw [List.append_nil] at this
      exact this
    rw [List.nil_append, h1]; rfl
  | cons c l ih =>
    cases hc : isBlank c
    · have e1 : trimL (c :: l ++ q) = c :: l ++ q := by unfold trimL; rw [List.cons_append, List.dropWhile_cons_of_neg (by rw [hc]; simp)]
      have e2 : trimL (c :: l) = c :: l := by unfold trimL; rw [List.dropWhile_cons_of_neg (by rw [hc]; simp)]
      rw [e1, e2, trimR_all _ h]
    · have e1 : trimL (c :: l ++ q) = trimL (l ++ q) := by unfold trimL; rw [List.cons_append, List.dropWhile_cons_of_pos hc]
      have e2 : trimL (c :: l) = trimL l := by unfold trimL; rw [List.dropWhile_cons_of_pos hc]
      rw [e1, e2, ih]
theorem trimS_around {p q : Str} (l : Str) (hp : p.all isBlank = true) (hq : q.all isBlank = true) : trimS (p ++ l ++ q) = trimS l := by
  unfold trimS
  rw [List.append_assoc, trimL_all _ hp, trimL_end _ hq]
theorem parseL_around {p q : Str} (l : Str) (hp : p.all isBlank = true) (hq : q.all isBlank = true) : parseL (p ++ l ++ q) = parseL l := by
  unfold parseL; rw [trimS_around l hp hq]
theorem trimS_id {c d : UInt8} {l r : Str} (h : l = c :: r) (hc : isBlank c = false) (hd : l.getLast? = some d) (hdb : isBlank d = false) : trimS l = l := by
  have e1 : trimL l = l := by rw [h]; unfold trimL; rw [List.dropWhile_cons_of_neg (by rw [hc]; simp)]
  unfold trimS
  rw [e1]
  unfold trimR
  have e2 : l.reverse.head? = some d := by rw [List.head?_reverse]; exact hd
  rcases hr : l.reverse with _ | ⟨x, y⟩
  · rw [hr] at e2; cases e2
  · rw [hr] at e2
    simp only [List.head?_cons, Option.some.injEq] at e2
    subst e2
    rw [List.dropWhile_cons_of_neg (by rw [hdb]; simp), ← hr, List.reverse_reverse]

/-- A byte that may stand in a word. -/
def okC (c : UInt8) : Bool := c.toNat != 32 && c.toNat != 9 && c.toNat != 58 && c.toNat != 59
theorem okC_blank {c : UInt8} (h : okC c = true) : isBlank c = false ∧ c.toNat ≠ 32 ∧ c.toNat ≠ 58 ∧ c.toNat ≠ 59 := by
  unfold okC at h
  simp only [Bool.and_eq_true, bne_iff_ne, ne_eq] at h
  refine ⟨?_, h.1.1.1, h.1.2, h.2⟩
  unfold isBlank
  simp only [Bool.or_eq_false_iff, beq_eq_false_iff_ne, ne_eq]
  exact ⟨h.1.1.1, h.1.1.2⟩
theorem dig_ok {c : UInt8} (h : isDig c = true) : okC c = true := by
  have := dig_ne h
  unfold okC
  simp only [Bool.and_eq_true, bne_iff_ne, ne_eq]
  omega
theorem name_ok {c : UInt8} (h : inName c = true) : okC c = true := by
  unfold inName isLow isDig at h
  unfold okC
  simp only [Bool.or_eq_true, Bool.and_eq_true, decide_eq_true_eq, beq_iff_eq, bne_iff_ne, ne_eq] at *
  omega
theorem isName_ok {l : Str} (h : isName l = true) : l ≠ [] ∧ (∀ c ∈ l, okC c = true) ∧ ∀ c r, l = c :: r → isLow c = true := by
  match l, h with
  | c :: r, h =>
    unfold isName at h
    simp only [Bool.and_eq_true, decide_eq_true_eq] at h
    refine ⟨by simp, fun d hd => name_ok (List.all_eq_true.1 h.2 d hd), fun d s e => ?_⟩
    simp only [List.cons.injEq] at e
    rw [← e.1]; exact h.1.2
theorem decI_ok (v : Int) : decI v ≠ [] ∧ ∀ c ∈ decI v, okC c = true := by
  have h0 : ∀ n, decN n ≠ [] := fun n e => by have := decF_pos 19 n; unfold decN at e; rw [e] at this; simp at this
  have h1 : ∀ n, ∀ c ∈ decN n, okC c = true := fun n c hc => dig_ok (decF_dig 20 n c hc)
  unfold decI
  split
  · refine ⟨by simp, fun c hc => ?_⟩
    rcases List.mem_cons.1 hc with rfl | hc
    · decide
    · exact h1 _ c hc
  · exact ⟨h0 _, h1 _⟩
theorem regT_ok (v : Int) : regT v ≠ [] ∧ ∀ c ∈ regT v, okC c = true := by
  refine ⟨by simp [regT], fun c hc => ?_⟩
  rcases List.mem_cons.1 hc with rfl | hc
  · decide
  · exact (decI_ok v).2 c hc

/-- Words. -/
theorem words_cons (c : UInt8) (l : Str) : wordsL (c :: l) = if c.toNat = 32 then [] :: wordsL l else match wordsL l with
    | [] => [[c]]
    | w :: ws => (c :: w) :: ws := rfl
theorem words_one : ∀ (w : Str), (∀ c ∈ w, c.toNat ≠ 32) → wordsL w = [w] := by
  intro w
  induction w with
  | nil => intro _; rfl
  | cons c w ih =>
    intro h
    rw [words_cons, if_neg (h c (by simp)), ih (fun d hd => h d (by simp [hd]))]
theorem words_next (r : Str) : ∀ (w : Str), (∀ c ∈ w, c.toNat ≠ 32) → wordsL (w ++ 32 :: r) = w :: wordsL r := by
  intro w
  induction w with
  | nil => intro _; show wordsL (32 :: r) = _; rw [words_cons, if_pos (by decide)]
  | cons c w ih =>
    intro h
    show wordsL (c :: (w ++ 32 :: r)) = _
    rw [words_cons, if_neg (h c (by simp)), ih (fun d hd => h d (by simp [hd]))]
theorem words_join : ∀ (ws : List Str) (w : Str), (∀ c ∈ w, c.toNat ≠ 32) → (∀ v ∈ ws, ∀ c ∈ v, c.toNat ≠ 32) → wordsL (w ++ ws.flatMap (fun v => 32 :: v)) = w :: ws := by
  intro ws
  induction ws with
  | nil => intro w h _; rw [List.flatMap_nil, List.append_nil]; exact words_one w h
  | cons v ws ih =>
    intro w h hw
    rw [List.flatMap_cons, List.cons_append, words_next _ w h, ih v (hw v (by simp)) (fun u hu => hw u (by simp [hu]))]
theorem words_ne (l : Str) : wordsL l ≠ [] := by
  cases l with
  | nil => simp [wordsL]
  | cons c l =>
    unfold wordsL
    split
    · simp
    · split <;> simp
theorem last_ok {w : Str} {ws : List Str} (hw : w ≠ []) (hw2 : ∀ c ∈ w, okC c = true) (h : ∀ v ∈ ws, v ≠ [] ∧ ∀ c ∈ v, okC c = true) : ∃ d, (w ++ ws.flatMap (fun v => 32 :: v)).getLast? = some d ∧ okC d = true := by
  have key : ∀ (x y : Str), y ≠ [] → (∀ c ∈ y, okC c = true) → ∃ d, (x ++ y).getLast? = some d ∧ okC d = true := by
    intro x y hy hy2
    refine ⟨y.getLast hy, ?_, hy2 _ (List.getLast_mem hy)⟩
    rw [List.getLast?_append, List.getLast?_eq_some_getLast hy]; rfl
  refine snoc_ind (P := fun ws => (∀ v ∈ ws, v ≠ [] ∧ ∀ c ∈ v, okC c = true) → ∃ d, (w ++ ws.flatMap (fun v => 32 :: v)).getLast? = some d ∧ okC d = true) ?_ ?_ ws h
  · intro _
    have := key [] w hw hw2
    simpa using this
  · intro ws v _ h
    have hv := h v (by simp)
    rw [List.flatMap_append, ← List.append_assoc]
    have e : [v].flatMap (fun v => (32 : UInt8) :: v) = [32] ++ v := by simp
    rw [e, ← List.append_assoc]
    exact key _ v hv.1 hv.2

/-- Instructions. -/
theorem specs_find : ∀ k : Nat, k < 22 → findL 1 specs (specL ((k : Int) + 1)).1 (specL ((k : Int) + 1)).2.length = some (k + 1, (specL ((k : Int) + 1)).2) := by decide +kernel
theorem specs_ok : ∀ k : Nat, k < 22 → (specL ((k : Int) + 1)).1 ≠ [] ∧ (specL ((k : Int) + 1)).1.all okC = true := by decide +kernel
theorem specs_go : ∀ k : Nat, k < 22 → hasL 84 ((k : Int) + 1) = (decide (8 ≤ (k : Int) + 1) && decide ((k : Int) + 1 ≤ 12)) ∧ (hasL 84 ((k : Int) + 1) = true → hasL 78 ((k : Int) + 1) = false) ∧
    (specL ((k : Int) + 1)).2.all (fun h => h.toNat == 65 || h.toNat == 66 || h.toNat == 67 || h.toNat == 78 || h.toNat == 84) = true := by decide +kernel
theorem find_sound : ∀ (L : List (Str × Str)) (i : Nat) (w : Str) (k j : Nat) (has : Str), findL i L w k = some (j, has) → ∃ m, L[m]? = some (w, has) ∧ j = i + m ∧ has.length = k := by
  intro L
  induction L with
  | nil => intro i w k j has h; simp [findL] at h
  | cons p L ih =>
    intro i w k j has h
    obtain ⟨wd, hs⟩ := p
    unfold findL at h
    split at h
    · rename_i hh
      simp only [Option.some.injEq, Prod.mk.injEq] at h
      obtain ⟨rfl, rfl⟩ := h
      obtain ⟨rfl, h2⟩ := hh
      exact ⟨0, rfl, by omega, h2⟩
    · obtain ⟨m, h1, h2, h3⟩ := ih _ _ _ _ _ h
      exact ⟨m + 1, by simpa using h1, by omega, h3⟩

def setL (h : UInt8) (x y : Ln) : Ln :=
  if h.toNat = 65 then { y with a := x.a }
  else if h.toNat = 66 then { y with b := x.b }
  else if h.toNat = 67 then { y with c := x.c }
  else if h.toNat = 78 then { y with n := x.n }
  else { y with target := x.target }
def argOk (h : UInt8) (x : Ln) : Prop :=
  if h.toNat = 65 then 0 ≤ x.a ∧ x.a ≤ 15
  else if h.toNat = 66 then 0 ≤ x.b ∧ x.b ≤ 15
  else if h.toNat = 67 then 0 ≤ x.c ∧ x.c ≤ 15
  else if h.toNat = 78 then small x.n = true
  else isName x.target = true
theorem arg_back (h : UInt8) (x y : Ln) (hok : argOk h x) : argL h (fieldL h x) y = some (setL h x y) := by
  unfold argOk at hok
  unfold argL fieldL setL
  by_cases h1 : h.toNat = 65
  · rw [if_pos h1] at hok
    rw [if_pos h1, if_pos h1, if_pos h1, regT_reg hok.1 hok.2]; rfl
  rw [if_neg h1] at hok
  rw [if_neg h1, if_neg h1, if_neg h1]
  by_cases h2 : h.toNat = 66
  · rw [if_pos h2] at hok
    rw [if_pos h2, if_pos h2, if_pos h2, regT_reg hok.1 hok.2]; rfl
  rw [if_neg h2] at hok
  rw [if_neg h2, if_neg h2, if_neg h2]
  by_cases h3 : h.toNat = 67
  · rw [if_pos h3] at hok
    rw [if_pos h3, if_pos h3, if_pos h3, regT_reg hok.1 hok.2]; rfl
  rw [if_neg h3] at hok
  rw [if_neg h3, if_neg h3, if_neg h3]
  by_cases h4 : h.toNat = 78
  · rw [if_pos h4] at hok
    rw [if_pos h4, if_pos h4, if_pos h4, decI_num hok]; rfl
  rw [if_neg h4] at hok
  rw [if_neg h4, if_neg h4, if_neg h4, if_pos hok]
theorem args_back (x : Ln) : ∀ (has : Str) (y : Ln), (∀ h ∈ has, argOk h x) → argsL has (has.map (fun h => fieldL h x)) y = some (has.foldl (fun y h => setL h x y) y) := by
  intro has
  induction has with
  | nil => intro y _; rfl
  | cons h has ih =>
    intro y hok
    show (argL h (fieldL h x) y).bind (argsL has (has.map fun h => fieldL h x)) = _
    rw [arg_back h x y (hok h (by simp)), Option.bind_some, ih _ (fun g hg => hok g (by simp [hg]))]
    rfl
theorem fold_set (x : Ln) : ∀ (has : Str) (y : Ln), has.all (fun h => h.toNat == 65 || h.toNat == 66 || h.toNat == 67 || h.toNat == 78 || h.toNat == 84) = true →
    has.foldl (fun y h => setL h x y) y = ⟨y.label, y.op, if has.any (fun c => c.toNat == 65) then x.a else y.a, if has.any (fun c => c.toNat == 66) then x.b else y.b, if has.any (fun c => c.toNat == 67) then x.c else y.c,
      if has.any (fun c => c.toNat == 78) then x.n else y.n, if has.any (fun c => c.toNat == 84) then x.target else y.target⟩ := by
  intro has
  induction has with
  | nil => intro y _; rfl
  | cons h has ih =>
    intro y hall
    rw [List.all_cons, Bool.and_eq_true] at hall
    rw [List.foldl_cons, ih _ hall.2]
    have h1 := hall.1
    simp only [Bool.or_eq_true, beq_iff_eq] at h1
    simp only [List.any_cons]
    rcases h1 with (((h1 | h1) | h1) | h1) | h1 <;> simp [setL, h1]
theorem field_ok (h : UInt8) (x : Ln) (hok : argOk h x) : fieldL h x ≠ [] ∧ ∀ c ∈ fieldL h x, okC c = true := by
  unfold argOk at hok
  unfold fieldL
  by_cases h1 : h.toNat = 65
  · rw [if_pos h1]; exact regT_ok _
  by_cases h2 : h.toNat = 66
  · rw [if_neg h1, if_pos h2]; exact regT_ok _
  by_cases h3 : h.toNat = 67
  · rw [if_neg h1, if_neg h2, if_pos h3]; exact regT_ok _
  by_cases h4 : h.toNat = 78
  · rw [if_neg h1, if_neg h2, if_neg h3, if_pos h4]; exact decI_ok _
  rw [if_neg h1, if_neg h2, if_neg h3, if_neg h4] at hok
  rw [if_neg h1, if_neg h2, if_neg h3, if_neg h4]
  have := isName_ok hok
  exact ⟨this.1, this.2.1⟩

/-- What was printed is parsed as it was. -/
theorem core_back {x : Ln} (h : fitsL x = true) : parseL (printL x) = some x := by
  unfold fitsL at h
  unfold printL
  by_cases hl : x.label = []
  case neg =>
    rw [if_pos hl] at h
    rw [if_pos hl]
    simp only [Bool.and_eq_true, decide_eq_true_eq] at h
    obtain ⟨h1, h2⟩ := h
    obtain ⟨n1, n2, n3⟩ := isName_ok h1
    rcases hx : x.label with _ | ⟨c, r⟩
    · exact absurd hx hl
    have hc := n2 c (by rw [hx]; simp)
    have hcb := okC_blank hc
    have hlast : (c :: r ++ [58]).getLast? = some 58 := List.getLast?_concat
    unfold parseL
    rw [trimS_id (c := c) (d := 58) (l := c :: r ++ [58]) (r := r ++ [58]) rfl hcb.1 hlast (by decide)]
    show coreL (c :: (r ++ [58])) = some x
    unfold coreL
    have e1 : (c :: (r ++ [58])).getLast? = some 58 := hlast
    have e2 : (c :: (r ++ [58])).dropLast = x.label := by
      rw [hx]
      show (c :: r ++ [58]).dropLast = _
      rw [List.dropLast_concat]
    dsimp only
    rw [if_neg hcb.2.2.2, e1, if_pos (by decide), e2, if_pos h1]
    obtain ⟨lb, op, a, b, c', n, t⟩ := x
    simp only [zeroLn, Ln.mk.injEq, true_and] at h2 ⊢
    obtain ⟨rfl, rfl, rfl, rfl, rfl, rfl⟩ := h2
    rfl
  rw [if_neg (by simp [hl])] at h
  rw [if_neg (by simp [hl])]
  by_cases h0 : x.op = 0
  · rw [if_pos h0, decide_eq_true_eq] at h
    subst h
    rfl
  rw [if_neg h0, Bool.and_eq_true] at h
  obtain ⟨hm, ht⟩ := h
  unfold mayL at hm
  simp only [Bool.and_eq_true, decide_eq_true_eq] at hm
  obtain ⟨⟨⟨⟨⟨⟨⟨⟨⟨⟨⟨⟨⟨hop1, hop2⟩, ha0⟩, ha1⟩, hb0⟩, hb1⟩, hc0⟩, hc1⟩, hza⟩, hzb⟩, hzc⟩, hzn⟩, hsm⟩, hcas⟩ := hm
  rw [if_neg (by omega)]
  obtain ⟨k, hk⟩ : ∃ k : Nat, x.op = (k : Int) + 1 := ⟨(x.op - 1).toNat, by omega⟩
  have hk22 : k < 22 := by omega
  have f1 := specs_find k hk22
  have f2 := specs_ok k hk22
  have f3 := specs_go k hk22
  rw [← hk] at f1 f2 f3
  have hall := List.all_eq_true.1 f3.2.2
  have hgo : hasL 84 x.op = true → isName x.target = true ∧ x.n = 0 := by
    intro hg
    rw [f3.1, Bool.and_eq_true, decide_eq_true_eq, decide_eq_true_eq] at hg
    rw [if_pos hg] at ht
    simp only [Bool.and_eq_true, beq_iff_eq] at ht
    exact ⟨ht.2, ht.1⟩
  have hno : hasL 84 x.op = false → x.target = [] ∧ small x.n = true := by
    intro hg
    have hg2 : ¬ (8 ≤ x.op ∧ x.op ≤ 12) := by
      rw [f3.1] at hg
      intro hh
      rw [decide_eq_true hh.1, decide_eq_true hh.2] at hg
      cases hg
    rw [if_neg hg2, decide_eq_true_eq] at ht
    rw [hg] at hsm
    exact ⟨ht, by simpa using hsm⟩
  have hargs : ∀ h ∈ (specL x.op).2, argOk h x := by
    intro h hh
    unfold argOk
    by_cases h1 : h.toNat = 65
    · rw [if_pos h1]; exact ⟨ha0, ha1⟩
    by_cases h2 : h.toNat = 66
    · rw [if_neg h1, if_pos h2]; exact ⟨hb0, hb1⟩
    by_cases h3 : h.toNat = 67
    · rw [if_neg h1, if_neg h2, if_pos h3]; exact ⟨hc0, hc1⟩
    by_cases h4 : h.toNat = 78
    · rw [if_neg h1, if_neg h2, if_neg h3, if_pos h4]
      have h78 : hasL 78 x.op = true := List.any_eq_true.2 ⟨h, hh, by simpa using h4⟩
      cases hg : hasL 84 x.op
      · exact (hno hg).2
      · rw [f3.2.1 hg] at h78; cases h78
    rw [if_neg h1, if_neg h2, if_neg h3, if_neg h4]
    have h84 : h.toNat = 84 := by
      have := hall h hh
      simp only [Bool.or_eq_true, beq_iff_eq] at this
      omega
    exact (hgo (List.any_eq_true.2 ⟨h, hh, by simpa using h84⟩)).1
  have hfs : ∀ v ∈ (specL x.op).2.map (fun h => fieldL h x), v ≠ [] ∧ ∀ c ∈ v, okC c = true := by
    intro v hv
    obtain ⟨h, hh, rfl⟩ := List.mem_map.1 hv
    exact field_ok h x (hargs h hh)
  have hwd := List.all_eq_true.1 f2.2
  have e0 : (specL x.op).2.flatMap (fun h => 32 :: fieldL h x) = ((specL x.op).2.map (fun h => fieldL h x)).flatMap (fun v => 32 :: v) := by rw [List.flatMap_map]
  rw [e0]
  obtain ⟨d, hd1, hd2⟩ := last_ok f2.1 hwd hfs
  have hwords := words_join ((specL x.op).2.map (fun h => fieldL h x)) (specL x.op).1 (fun c hc => (okC_blank (hwd c hc)).2.1) (fun v hv c hc => (okC_blank ((hfs v hv).2 c hc)).2.1)
  rcases hw : (specL x.op).1 with _ | ⟨c, r⟩
  · exact absurd hw f2.1
  have hcb := okC_blank (hwd c (by rw [hw]; simp))
  rw [hw] at hd1 hwords f1
  unfold parseL
  rw [trimS_id (c := c) (d := d) (l := c :: r ++ ((specL x.op).2.map (fun h => fieldL h x)).flatMap (fun v => 32 :: v)) rfl hcb.1 hd1 (okC_blank hd2).1]
  show coreL (c :: (r ++ _)) = some x
  unfold coreL
  dsimp only
  rw [if_neg hcb.2.2.2]
  have e1 : (c :: (r ++ ((specL x.op).2.map (fun h => fieldL h x)).flatMap (fun v => 32 :: v))).getLast? = some d := hd1
  have e2 : wordsL (c :: (r ++ ((specL x.op).2.map (fun h => fieldL h x)).flatMap (fun v => 32 :: v))) = (c :: r) :: (specL x.op).2.map (fun h => fieldL h x) := hwords
  rw [e1, e2, if_neg (by simp; exact (okC_blank hd2).2.2.1)]
  unfold insL
  dsimp only
  rw [List.length_map, f1, Option.bind_some]
  dsimp only
  rw [args_back x _ _ hargs, fold_set x _ _ f3.2.2, Option.bind_some]
  have hx : (⟨zeroLn.label, ((k + 1 : Nat) : Int), if hasL 65 x.op then x.a else zeroLn.a, if hasL 66 x.op then x.b else zeroLn.b, if hasL 67 x.op then x.c else zeroLn.c, if hasL 78 x.op then x.n else zeroLn.n, if hasL 84 x.op then x.target else zeroLn.target⟩ : Ln) = x := by
    have q1 : (if hasL 65 x.op then x.a else zeroLn.a) = x.a := by
      cases hh : hasL 65 x.op
      · rw [hh] at hza; simp at hza; rw [hza]; rfl
      · rfl
    have q2 : (if hasL 66 x.op then x.b else zeroLn.b) = x.b := by
      cases hh : hasL 66 x.op
      · rw [hh] at hzb; simp at hzb; rw [hzb]; rfl
      · rfl
    have q3 : (if hasL 67 x.op then x.c else zeroLn.c) = x.c := by
      cases hh : hasL 67 x.op
      · rw [hh] at hzc; simp at hzc; rw [hzc]; rfl
      · rfl
    have q4 : (if hasL 78 x.op then x.n else zeroLn.n) = x.n := by
      cases hh : hasL 78 x.op
      · cases hg : hasL 84 x.op
        · rw [hh, hg] at hzn; simp at hzn; rw [hzn]; rfl
        · rw [(hgo hg).2]; rfl
      · rfl
    have q5 : (if hasL 84 x.op then x.target else zeroLn.target) = x.target := by
      cases hg : hasL 84 x.op
      · rw [(hno hg).1]; rfl
      · rfl
    rw [q1, q2, q3, q4, q5, show ((k + 1 : Nat) : Int) = x.op by omega, show zeroLn.label = x.label from hl.symm]
  have hx2 := hx
  unfold hasL at hx2
  show casOk ⟨zeroLn.label, ((k + 1 : Nat) : Int), _, _, _, _, _⟩ = some x
  rw [hx2]
  unfold casOk
  rw [if_neg]
  intro hh
  rw [hh.1] at hcas
  simp at hcas
  omega
theorem parse_back {x : Ln} (h : fitsL x = true) {p q : Str} (hp : p.all isBlank = true) (hq : q.all isBlank = true) : parseL (p ++ printL x ++ q) = some x := by
  rw [parseL_around _ hp hq]; exact core_back h
theorem print_inj {x y : Ln} (hx : fitsL x = true) (hy : fitsL y = true) (h : printL x = printL y) : x = y := by
  have a := core_back hx
  rw [h, core_back hy] at a
  exact (Option.some.inj a).symm

/-- What was parsed may be printed. -/
theorem arg_keeps {h : UInt8} {w : Str} {y x : Ln} (e : argL h w y = some x) :
    x.label = y.label ∧ x.op = y.op ∧ (x.a = y.a ∨ (h.toNat = 65 ∧ 0 ≤ x.a ∧ x.a ≤ 15)) ∧ (x.b = y.b ∨ (h.toNat = 66 ∧ 0 ≤ x.b ∧ x.b ≤ 15)) ∧ (x.c = y.c ∨ (h.toNat = 67 ∧ 0 ≤ x.c ∧ x.c ≤ 15)) ∧
      (x.n = y.n ∨ (h.toNat = 78 ∧ small x.n = true)) ∧ ((h.toNat = 65 ∨ h.toNat = 66 ∨ h.toNat = 67 ∨ h.toNat = 78) ∧ x.target = y.target ∨ ¬ (h.toNat = 65 ∨ h.toNat = 66 ∨ h.toNat = 67 ∨ h.toNat = 78) ∧ isName x.target = true) := by
  unfold argL at e
  by_cases h1 : h.toNat = 65
  · rw [if_pos h1, Option.map_eq_some_iff] at e
    obtain ⟨r, hr, rfl⟩ := e
    have := regL_range hr
    exact ⟨rfl, rfl, .inr ⟨h1, this.1, this.2.1⟩, .inl rfl, .inl rfl, .inl rfl, .inl ⟨.inl h1, rfl⟩⟩
  rw [if_neg h1] at e
  by_cases h2 : h.toNat = 66
  · rw [if_pos h2, Option.map_eq_some_iff] at e
    obtain ⟨r, hr, rfl⟩ := e
    have := regL_range hr
    exact ⟨rfl, rfl, .inl rfl, .inr ⟨h2, this.1, this.2.1⟩, .inl rfl, .inl rfl, .inl ⟨.inr (.inl h2), rfl⟩⟩
  rw [if_neg h2] at e
  by_cases h3 : h.toNat = 67
  · rw [if_pos h3, Option.map_eq_some_iff] at e
    obtain ⟨r, hr, rfl⟩ := e
    have := regL_range hr
    exact ⟨rfl, rfl, .inl rfl, .inl rfl, .inr ⟨h3, this.1, this.2.1⟩, .inl rfl, .inl ⟨.inr (.inr (.inl h3)), rfl⟩⟩
  rw [if_neg h3] at e
  by_cases h4 : h.toNat = 78
  · rw [if_pos h4, Option.map_eq_some_iff] at e
    obtain ⟨r, hr, rfl⟩ := e
    exact ⟨rfl, rfl, .inl rfl, .inl rfl, .inl rfl, .inr ⟨h4, numL_range hr⟩, .inl ⟨.inr (.inr (.inr h4)), rfl⟩⟩
  rw [if_neg h4] at e
  split at e
  · rename_i hn
    simp only [Option.some.injEq] at e
    subst e
    exact ⟨rfl, rfl, .inl rfl, .inl rfl, .inl rfl, .inl rfl, .inr ⟨by omega, hn⟩⟩
  · cases e
theorem args_keep : ∀ (has : Str) (ws : List Str) (y x : Ln), has.length = ws.length → argsL has ws y = some x → 0 ≤ y.a → y.a ≤ 15 → 0 ≤ y.b → y.b ≤ 15 → 0 ≤ y.c → y.c ≤ 15 → small y.n = true →
    x.label = y.label ∧ x.op = y.op ∧ (0 ≤ x.a ∧ x.a ≤ 15 ∧ (has.any (fun c => c.toNat == 65) = true ∨ x.a = y.a)) ∧ (0 ≤ x.b ∧ x.b ≤ 15 ∧ (has.any (fun c => c.toNat == 66) = true ∨ x.b = y.b)) ∧
      (0 ≤ x.c ∧ x.c ≤ 15 ∧ (has.any (fun c => c.toNat == 67) = true ∨ x.c = y.c)) ∧ (small x.n = true ∧ (has.any (fun c => c.toNat == 78) = true ∨ x.n = y.n)) ∧
      ((has.any (fun h => !(h.toNat == 65 || h.toNat == 66 || h.toNat == 67 || h.toNat == 78)) = true ∧ isName x.target = true) ∨ (has.any (fun h => !(h.toNat == 65 || h.toNat == 66 || h.toNat == 67 || h.toNat == 78)) = false ∧ x.target = y.target)) := by
  intro has
  induction has with
  | nil =>
    intro ws y x hl e
    cases ws with
    | cons w ws => simp at hl
    | nil =>
      simp only [argsL, Option.some.injEq] at e
      subst e
      intro a1 a2 b1 b2 c1 c2 hn
      exact ⟨rfl, rfl, ⟨a1, a2, .inr rfl⟩, ⟨b1, b2, .inr rfl⟩, ⟨c1, c2, .inr rfl⟩, ⟨hn, .inr rfl⟩, .inr ⟨rfl, rfl⟩⟩
  | cons h has ih =>
    intro ws y x hl e a1 a2 b1 b2 c1 c2 hn
    cases ws with
    | nil => simp at hl
    | cons w ws =>
      have e2 : (argL h w y).bind (argsL has ws) = some x := e
      rw [Option.bind_eq_some_iff] at e2
      obtain ⟨z, hz, hx⟩ := e2
      obtain ⟨k1, k2, k3, k4, k5, k6, k7⟩ := arg_keeps hz
      have hz1 : 0 ≤ z.a ∧ z.a ≤ 15 := by rcases k3 with k | k; rw [k]; exact ⟨a1, a2⟩; exact k.2
      have hz2 : 0 ≤ z.b ∧ z.b ≤ 15 := by rcases k4 with k | k; rw [k]; exact ⟨b1, b2⟩; exact k.2
      have hz3 : 0 ≤ z.c ∧ z.c ≤ 15 := by rcases k5 with k | k; rw [k]; exact ⟨c1, c2⟩; exact k.2
      have hz4 : small z.n = true := by rcases k6 with k | k; rw [k]; exact hn; exact k.2
      obtain ⟨j1, j2, ⟨j3, j3', j3''⟩, ⟨j4, j4', j4''⟩, ⟨j5, j5', j5''⟩, ⟨j6, j6'⟩, j7⟩ := ih ws z x (by simpa using hl) hx hz1.1 hz1.2 hz2.1 hz2.2 hz3.1 hz3.2 hz4
      simp only [List.any_cons, Bool.or_eq_true, beq_iff_eq]
      refine ⟨j1.trans k1, j2.trans k2, ⟨j3, j3', ?_⟩, ⟨j4, j4', ?_⟩, ⟨j5, j5', ?_⟩, ⟨j6, ?_⟩, ?_⟩
      · rcases j3'' with j | j
        · exact .inl (.inr j)
        · rcases k3 with k | k
          · exact .inr (j.trans k)
          · exact .inl (.inl k.1)
      · rcases j4'' with j | j
        · exact .inl (.inr j)
        · rcases k4 with k | k
          · exact .inr (j.trans k)
          · exact .inl (.inl k.1)
      · rcases j5'' with j | j
        · exact .inl (.inr j)
        · rcases k5 with k | k
          · exact .inr (j.trans k)
          · exact .inl (.inl k.1)
      · rcases j6' with j | j
        · exact .inl (.inr j)
        · rcases k6 with k | k
          · exact .inr (j.trans k)
          · exact .inl (.inl k.1)
      · rcases j7 with ⟨j, j'⟩ | ⟨j, j'⟩
        · exact .inl ⟨.inr j, j'⟩
        · rcases k7 with ⟨k, k'⟩ | ⟨k, k'⟩
          · refine .inr ⟨?_, j'.trans k'⟩
            rw [j, Bool.or_false, Bool.not_eq_false']
            simp only [Bool.or_eq_true, beq_iff_eq]
            omega
          · refine .inl ⟨.inl ?_, by rw [j']; exact k'⟩
            rw [Bool.not_eq_true']
            simp only [Bool.or_eq_false_iff, beq_eq_false_iff_ne, ne_eq]
            omega
theorem core_fits {l : Str} {x : Ln} (h : parseL l = some x) : fitsL x = true := by
  unfold parseL at h
  generalize trimS l = t at h
  have hz : fitsL zeroLn = true := by decide
  match t, h with
  | [], h =>
    simp only [coreL, Option.some.injEq] at h
    subst h; exact hz
  | c :: r, h =>
    unfold coreL at h
    dsimp only at h
    split at h
    · simp only [Option.some.injEq] at h
      subst h; exact hz
    split at h
    · split at h
      · rename_i hn
        simp only [Option.some.injEq] at h
        subst h
        have hne := (isName_ok hn).1
        unfold fitsL
        rw [if_pos hne, hn]
        rfl
      · cases h
    · unfold insL at h
      rcases hw : wordsL (c :: r) with _ | ⟨w, ws⟩
      · exact absurd hw (words_ne _)
      rw [hw] at h
      dsimp only at h
      rw [Option.bind_eq_some_iff] at h
      obtain ⟨⟨op, has⟩, h1, h2⟩ := h
      obtain ⟨m, hm1, hm2, hm3⟩ := find_sound _ _ _ _ _ _ h1
      dsimp only at h2
      rw [Option.bind_eq_some_iff] at h2
      obtain ⟨z, h3, h4⟩ := h2
      unfold casOk at h4
      split at h4
      · cases h4
      rename_i hcas
      simp only [Option.some.injEq] at h4
      subst h4
      have hm22 : m < 22 := by
        have := (List.getElem?_eq_some_iff.1 hm1).1
        exact this
      have hsp : specL ((m : Int) + 1) = (w, has) := by
        unfold specL
        rw [show ((m : Int) + 1 - 1).toNat = m by omega, hm1]; rfl
      obtain ⟨k1, k2, ⟨k3, k3', k3''⟩, ⟨k4, k4', k4''⟩, ⟨k5, k5', k5''⟩, ⟨k6, k6'⟩, k7⟩ := args_keep has ws _ _ hm3 h3 (Int.le_refl 0) (show (0 : Int) ≤ 15 by decide) (Int.le_refl 0) (show (0 : Int) ≤ 15 by decide) (Int.le_refl 0) (show (0 : Int) ≤ 15 by decide) (show small 0 = true by decide)
      have hop : z.op = (m : Int) + 1 := by rw [k2]; show ((op : Nat) : Int) = _; omega
      have f3 := specs_go m hm22
      have hh : ∀ n, hasL n z.op = has.any (fun c => c.toNat == n) := fun n => by unfold hasL; rw [hop, hsp]
      rw [← hop] at f3
      have hall := f3.2.2
      rw [hop, hsp] at hall
      have h84 : has.any (fun h => !(h.toNat == 65 || h.toNat == 66 || h.toNat == 67 || h.toNat == 78)) = hasL 84 z.op := by
        rw [hh]
        rw [Bool.eq_iff_iff, List.any_eq_true, List.any_eq_true]
        constructor
        · rintro ⟨x, hx, hx2⟩
          refine ⟨x, hx, ?_⟩
          have := List.all_eq_true.1 hall x hx
          simp only [Bool.or_eq_true, beq_iff_eq, Bool.not_eq_true', Bool.or_eq_false_iff, beq_eq_false_iff_ne, ne_eq] at this hx2 ⊢
          omega
        · rintro ⟨x, hx, hx2⟩
          refine ⟨x, hx, ?_⟩
          simp only [beq_iff_eq, Bool.not_eq_true', Bool.or_eq_false_iff, beq_eq_false_iff_ne, ne_eq] at hx2 ⊢
          omega
      rw [h84] at k7
      have hlab : z.label = [] := k1
      unfold fitsL
      rw [if_neg (by simp [hlab]), if_neg (by omega), Bool.and_eq_true]
      have e0 : ∀ v : Int, (v == 0) = true ↔ v = 0 := fun v => beq_iff_eq
      refine ⟨?_, ?_⟩
      · unfold mayL
        simp only [Bool.and_eq_true, decide_eq_true_eq, Bool.or_eq_true, e0, bne_iff_ne, ne_eq]
        rw [hh, hh, hh, hh]
        refine ⟨⟨⟨⟨⟨⟨⟨⟨⟨⟨⟨⟨⟨by omega, by omega⟩, k3⟩, k3'⟩, k4⟩, k4'⟩, k5⟩, k5'⟩, k3''⟩, k4''⟩, k5''⟩, ?_⟩, .inr k6⟩, ?_⟩
        · rcases k6' with k | k
          · exact .inl (.inl k)
          · exact .inr k
        · by_cases h7 : z.op = 7
          · right; omega
          · exact .inl h7
      · cases hg : hasL 84 z.op
        · rw [hg] at k7 f3
          have : ¬ (8 ≤ z.op ∧ z.op ≤ 12) := by
            intro hq
            have := f3.1
            rw [decide_eq_true hq.1, decide_eq_true hq.2] at this
            cases this
          rw [if_neg this, decide_eq_true_eq]
          rcases k7 with k | k
          · cases k.1
          · exact k.2
        · rw [hg] at k7 f3
          have h8 : 8 ≤ z.op ∧ z.op ≤ 12 := by
            have := f3.1.symm
            rw [Bool.and_eq_true, decide_eq_true_eq, decide_eq_true_eq] at this
            exact this
          rw [if_pos h8, Bool.and_eq_true, e0]
          refine ⟨?_, ?_⟩
          · rcases k6' with k | k
            · rw [← hh, f3.2.1 rfl] at k; cases k
            · exact k
          · rcases k7 with k | k
            · exact k.2
            · cases k.1

end Go.Proofs.Ytofnomkedpagfaa
