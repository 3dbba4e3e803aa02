/-
  The document's machine over numbers that hang on letters: what a run over letters comes to it comes to for all their values, within their bounds.
  Conditions: none; plain mathematics.
-/
import Derived.Test.YtofnomkedpagfaaMach
namespace Go.Proofs.Ytofnomkedpagfaa
open Go.RowKit

/-- A number that hangs on letters: a constant, and how often each letter is in it. -/
structure Lin where
  k : Int
  c : List Int
deriving DecidableEq
def dotL : List Int → List Int → Int
  | a :: l, x :: xs => a * x + dotL l xs
  | _, _ => 0
def Lin.ev (e : List Int) (l : Lin) : Int := l.k + dotL l.c e
def addC : List Int → List Int → List Int
  | x :: a, y :: b => (x + y) :: addC a b
  | [], b => b
  | a, [] => a
def Lin.add (a b : Lin) : Lin := ⟨a.k + b.k, addC a.c b.c⟩
def Lin.neg (a : Lin) : Lin := ⟨-a.k, a.c.map (fun x => -x)⟩
def Lin.sub (a b : Lin) : Lin := a.add b.neg
def Lin.num (k : Int) : Lin := ⟨k, []⟩
/-- Letter number i. -/
def Lin.at (i : Nat) : Lin := ⟨0, List.replicate i 0 ++ [1]⟩
theorem dot_nil_r : ∀ c, dotL c [] = 0
  | [] => rfl
  | _ :: _ => rfl
theorem dot_add : ∀ a b e, dotL (addC a b) e = dotL a e + dotL b e
  | x :: a, y :: b, z :: e => by
    have := dot_add a b e
    simp only [addC, dotL, this, Int.add_mul]
    omega
  | [], b, e => by simp [addC, dotL]
  | x :: a, [], e => by
    cases e <;> simp [addC, dotL]
  | x :: a, y :: b, [] => by simp [addC, dotL]
theorem dot_neg : ∀ a e, dotL (a.map (fun x => -x)) e = -dotL a e
  | x :: a, z :: e => by
    have := dot_neg a e
    simp only [List.map_cons, dotL, this, Int.neg_mul]
    omega
  | [], e => by simp [dotL]
  | x :: a, [] => by simp [dotL]
theorem ev_add (a b : Lin) (e : List Int) : (a.add b).ev e = a.ev e + b.ev e := by
  simp only [Lin.ev, Lin.add, dot_add]; omega
theorem ev_neg (a : Lin) (e : List Int) : a.neg.ev e = -a.ev e := by
  simp only [Lin.ev, Lin.neg, dot_neg]; omega
theorem ev_sub (a b : Lin) (e : List Int) : (a.sub b).ev e = a.ev e - b.ev e := by
  unfold Lin.sub; rw [ev_add, ev_neg]; omega
theorem ev_num (k : Int) (e : List Int) : (Lin.num k).ev e = k := by simp [Lin.ev, Lin.num, dotL]
def Lin.zero : Lin := Lin.num 0
theorem getD_set_self {α : Type} {l : List α} {k : Nat} (v d : α) (h : k < l.length) : (l.set k v).getD k d = v := by
  rw [List.getD_eq_getElem?_getD, List.getElem?_set_self h]; rfl
theorem getD_set_ne {α : Type} {l : List α} {k j : Nat} (v d : α) (h : j ≠ k) : (l.set k v).getD j d = l.getD j d := by
  rw [List.getD_eq_getElem?_getD, List.getD_eq_getElem?_getD, List.getElem?_set_ne (Ne.symm h)]
theorem ev_zero (e : List Int) : Lin.zero.ev e = 0 := ev_num 0 e

/-- Letters' bounds. -/
def Within : List Int → List (Int × Int) → Prop
  | x :: e, b :: bs => b.1 ≤ x ∧ x ≤ b.2 ∧ Within e bs
  | [], _ => True
  | _ :: _, [] => False
def minC : List Int → List (Int × Int) → Int
  | a :: l, b :: bs => (if 0 ≤ a then a * b.1 else a * b.2) + minC l bs
  | _, _ => 0
def maxC : List Int → List (Int × Int) → Int
  | a :: l, b :: bs => (if 0 ≤ a then a * b.2 else a * b.1) + maxC l bs
  | _, _ => 0
theorem within_dot : ∀ {c e bs}, Within e bs → e.length = bs.length → minC c bs ≤ dotL c e ∧ dotL c e ≤ maxC c bs
  | [], e, bs, _, _ => by cases e <;> cases bs <;> simp [minC, maxC, dotL]
  | a :: c, [], bs, h, hl => by
    cases bs with
    | nil => simp [minC, maxC, dotL]
    | cons b bs => simp at hl
  | a :: c, x :: e, [], h, _ => h.elim
  | a :: c, x :: e, b :: bs, h, hl => by
    obtain ⟨h1, h2, h3⟩ := h
    obtain ⟨i1, i2⟩ := within_dot (c := c) h3 (by simpa using hl)
    simp only [minC, maxC, dotL]
    by_cases ha : 0 ≤ a
    · rw [if_pos ha, if_pos ha]
      have := Int.mul_le_mul_of_nonneg_left h1 ha
      have := Int.mul_le_mul_of_nonneg_left h2 ha
      omega
    · rw [if_neg ha, if_neg ha]
      have ha' : a ≤ 0 := by omega
      have := Int.mul_le_mul_of_nonpos_left ha' h1
      have := Int.mul_le_mul_of_nonpos_left ha' h2
      omega

/-- What is known of letters: bounds, and signs: below 0 (0), not below (1), 0 (2), not 0 (3). -/
structure Known where
  bs : List (Int × Int)
  fs : List (Lin × Nat)
def factOk (e : List Int) (f : Lin × Nat) : Prop :=
  (f.2 = 0 → f.1.ev e < 0) ∧ (f.2 = 1 → 0 ≤ f.1.ev e) ∧ (f.2 = 2 → f.1.ev e = 0) ∧ (f.2 = 3 → f.1.ev e ≠ 0)
structure Known.ok (K : Known) (e : List Int) : Prop where
  len : e.length = K.bs.length
  bs : Within e K.bs
  fs : ∀ f ∈ K.fs, factOk e f
def Known.lo (K : Known) (l : Lin) : Int := l.k + minC l.c K.bs
def Known.hi (K : Known) (l : Lin) : Int := l.k + maxC l.c K.bs
theorem Known.between {K : Known} {e : List Int} (h : K.ok e) (l : Lin) : K.lo l ≤ l.ev e ∧ l.ev e ≤ K.hi l := by
  obtain ⟨h1, h2⟩ := within_dot (c := l.c) h.bs h.len
  unfold Known.lo Known.hi Lin.ev
  omega
def Known.has (K : Known) (l : Lin) (k : Nat) : Bool := K.fs.any (fun f => decide (f = (l, k)))
theorem Known.has_ok {K : Known} {e : List Int} (h : K.ok e) {l : Lin} {k : Nat} (hh : K.has l k = true) : factOk e (l, k) := by
  unfold Known.has at hh
  obtain ⟨f, hf, he⟩ := List.any_eq_true.1 hh
  rw [← of_decide_eq_true he]
  exact h.fs f hf

/-- Is a below b? -/
def Known.lt (K : Known) (a b : Lin) : Option Bool :=
  if K.hi (a.sub b) < 0 then some true
  else if 0 ≤ K.lo (a.sub b) then some false
  else if K.has (a.sub b) 0 then some true
  else if K.has (a.sub b) 1 then some false
  else none
theorem Known.lt_ok {K : Known} {e : List Int} (h : K.ok e) {a b : Lin} {r : Bool} (hr : K.lt a b = some r) : decide (a.ev e < b.ev e) = r := by
  have hs := ev_sub a b e
  obtain ⟨h1, h2⟩ := Known.between h (a.sub b)
  unfold Known.lt at hr
  split at hr
  · obtain rfl := Option.some.inj hr; exact decide_eq_true (by omega)
  split at hr
  · obtain rfl := Option.some.inj hr; exact decide_eq_false (by omega)
  split at hr
  · rename_i hh
    have := (Known.has_ok h hh).1 rfl
    obtain rfl := Option.some.inj hr; exact decide_eq_true (by dsimp only at this; omega)
  split at hr
  · rename_i hh
    have := (Known.has_ok h hh).2.1 rfl
    obtain rfl := Option.some.inj hr; exact decide_eq_false (by dsimp only at this; omega)
  · cases hr
/-- Are a and b the same? -/
def Known.eq (K : Known) (a b : Lin) : Option Bool :=
  if K.hi (a.sub b) < 0 then some false
  else if 0 < K.lo (a.sub b) then some false
  else if K.lo (a.sub b) = 0 ∧ K.hi (a.sub b) = 0 then some true
  else if K.has (a.sub b) 2 then some true
  else if K.has (a.sub b) 3 then some false
  else if K.has (b.sub a) 2 then some true
  else if K.has (b.sub a) 3 then some false
  else none
theorem Known.eq_ok {K : Known} {e : List Int} (h : K.ok e) {a b : Lin} {r : Bool} (hr : K.eq a b = some r) : decide (a.ev e = b.ev e) = r := by
  have hs := ev_sub a b e
  have hs2 := ev_sub b a e
  obtain ⟨h1, h2⟩ := Known.between h (a.sub b)
  unfold Known.eq at hr
  split at hr
  · obtain rfl := Option.some.inj hr; exact decide_eq_false (by omega)
  split at hr
  · obtain rfl := Option.some.inj hr; exact decide_eq_false (by omega)
  split at hr
  · obtain rfl := Option.some.inj hr; exact decide_eq_true (by omega)
  split at hr
  · rename_i hh
    have := (Known.has_ok h hh).2.2.1 rfl
    obtain rfl := Option.some.inj hr; exact decide_eq_true (by dsimp only at this; omega)
  split at hr
  · rename_i hh
    have := (Known.has_ok h hh).2.2.2 rfl
    obtain rfl := Option.some.inj hr; exact decide_eq_false (by dsimp only at this; omega)
  split at hr
  · rename_i hh
    have := (Known.has_ok h hh).2.2.1 rfl
    obtain rfl := Option.some.inj hr; exact decide_eq_true (by dsimp only at this; omega)
  split at hr
  · rename_i hh
    have := (Known.has_ok h hh).2.2.2 rfl
    obtain rfl := Option.some.inj hr; exact decide_eq_false (by dsimp only at this; omega)
  · cases hr
/-- A number that fits. -/
def Known.fit (K : Known) (l : Lin) : Option Lin := if -9223372036854775808 ≤ K.lo l ∧ K.hi l ≤ 9223372036854775807 then some l else none
theorem Known.fit_ok {K : Known} {e : List Int} (h : K.ok e) {l m : Lin} (hr : K.fit l = some m) : IntKind.i64.wrap (l.ev e) = m.ev e := by
  obtain ⟨h1, h2⟩ := Known.between h l
  unfold Known.fit at hr
  split at hr
  · obtain rfl := Option.some.inj hr
    rw [IntKind.wrap_i64]; omega
  · cases hr
/-- A number without letters. -/
def Known.whole (K : Known) (l : Lin) : Option Int := if K.lo l = K.hi l then some (K.lo l) else none
theorem Known.whole_ok {K : Known} {e : List Int} (h : K.ok e) {l : Lin} {k : Int} (hr : K.whole l = some k) : l.ev e = k := by
  obtain ⟨h1, h2⟩ := Known.between h l
  unfold Known.whole at hr
  split at hr
  · obtain rfl := Option.some.inj hr; omega
  · cases hr

/-! ### The machine -/
structure SF where
  pc : Int
  r : List Lin
structure SS where
  zs : List Lin
  ps : List Pk
  bs : List SF
  f : SF
  ns : List (Int × Lin)
def SF.ev (e : List Int) (f : SF) : Fr := ⟨f.pc, fun k => (f.r.getD k Lin.zero).ev e⟩
def evN (e : List Int) (n : Int × Lin) : Nt := ⟨n.1, n.2.ev e⟩
def SS.ev (e : List Int) (s : SS) : Ms := ⟨s.zs.map (Lin.ev e), s.ps, s.bs.map (SF.ev e), s.f.ev e, s.ns.map (evN e)⟩
def SS.reg (s : SS) (k : Int) : Lin := s.f.r.getD k.toNat Lin.zero
def SS.go (s : SS) (p : Int) : SS := { s with f := { s.f with pc := p } }
def SS.put (s : SS) (k : Int) (v : Lin) : Option SS := if k.toNat < s.f.r.length then some { s with f := { s.f with r := s.f.r.set k.toNat v } } else none
def SS.cell (s : SS) (p : Int) : Lin := s.zs.getD (p.toNat - 1) Lin.zero
def SS.store (s : SS) (p : Int) (v : Lin) : SS := { s with zs := s.zs.set (p.toNat - 1) v }
def SS.setThr (s : SS) (i : Nat) (p : Pk) : SS := { s with ps := s.ps.set i p }
def SS.thr (s : SS) (i : Nat) : Pk := s.ps.getD i Pk.zero

section
variable {K : Known} {e : List Int} {s t : SS}
theorem reg_ev (k : Int) : (s.ev e).reg k = (s.reg k).ev e := rfl
theorem go_ev (p : Int) : (s.ev e).go p = (s.go p).ev e := rfl
theorem put_ev {k : Int} {v : Lin} (h : s.put k v = some t) : (s.ev e).put k (v.ev e) = t.ev e := by
  unfold SS.put at h
  split at h
  · rename_i hk
    obtain rfl := Option.some.inj h
    unfold Ms.put SS.ev Fr.put SF.ev
    simp only [Ms.mk.injEq, Fr.mk.injEq, true_and, and_true]
    funext j
    unfold upd
    by_cases hj : j = k.toNat
    · rw [if_pos hj, hj, getD_set_self _ _ hk]
    · rw [if_neg hj, getD_set_ne _ _ hj]
  · cases h
theorem getD_ev (l : List Lin) (i : Nat) : (l.map (Lin.ev e)).getD i 0 = (l.getD i Lin.zero).ev e := by
  rw [List.getD_eq_getElem?_getD, List.getD_eq_getElem?_getD, List.getElem?_map]
  cases l[i]? with
  | none => exact (ev_zero e).symm
  | some x => rfl
theorem cell_ev (p : Int) : (s.ev e).cell p = (s.cell p).ev e := getD_ev _ _
theorem store_ev (p : Int) (v : Lin) : (s.ev e).store p (v.ev e) = (s.store p v).ev e := by
  unfold Ms.store SS.store SS.ev
  simp only [Ms.mk.injEq, and_true]
  rw [List.map_set]
theorem thr_ev (i : Nat) : (s.ev e).thr i = s.thr i := rfl
theorem setThr_ev (i : Nat) (p : Pk) : (s.ev e).setThr i p = (s.setThr i p).ev e := rfl
theorem zs_len : (s.ev e).zs.length = s.zs.length := by simp [SS.ev]
theorem bs_len : (s.ev e).bs.length = s.bs.length := by simp [SS.ev]
end

/-- The cell that an access speaks of. -/
def placeS (K : Known) (x : Ix) (s : SS) : Option Int := do
  let l ← K.fit ((s.reg x.b).add (Lin.num x.n))
  let p ← K.whole l
  if 1 ≤ p ∧ p ≤ (s.zs.length : Int) then some p else none
def accS (K : Known) (x : Ix) (s : SS) : Option SS := do
  let p ← placeS K x s
  if x.op = 5 then s.put x.a (s.cell p)
  else if x.op = 6 then some (s.store p (s.reg x.a))
  else do
    let b ← K.eq (s.cell p) (s.reg x.a)
    if b then (s.store p (s.reg (x.a + 1))).put (x.a + 2) (Lin.num 1) else s.put (x.a + 2) (Lin.num 0)
def valS (K : Known) (most now : Int) (self : Nat) (x : Ix) (s : SS) : Option (Lin × SS) :=
  if x.op = 1 then some (Lin.num x.n, s)
  else if x.op = 2 then some (s.reg x.b, s)
  else if x.op = 3 then do let l ← K.fit ((s.reg x.b).add (s.reg x.c)); some (l, s)
  else if x.op = 4 then do let l ← K.fit ((s.reg x.b).add (Lin.num x.n)); some (l, s)
  else if x.op = 16 then
    if x.n < 1 ∨ most - s.zs.length < x.n then some (Lin.num 0, s) else some (Lin.num (s.zs.length + 1), { s with zs := s.zs ++ List.replicate x.n.toNat Lin.zero })
  else if x.op = 17 then some (Lin.num self, s)
  else if x.op = 18 then some (Lin.num now, s)
  else if x.op = 19 then some (Lin.num (bitI (s.thr self).flag), s.setThr self (s.thr self).clear)
  else some (Lin.num 0, s)
def actS (K : Known) (most now : Int) (self : Nat) (x : Ix) (s : SS) : Option (Int × SS) :=
  if 5 ≤ x.op ∧ x.op ≤ 7 then do let t ← accS K x s; some (0, t)
  else if x.op = 14 then do
    let d ← K.whole (s.reg x.a)
    if d < -1 then none else some (bitI ((s.thr self).parks now d), s.setThr self ((s.thr self).park now d))
  else if x.op = 15 then do
    let i ← K.whole (s.reg x.a)
    if 0 ≤ i ∧ i < (s.ps.length : Int) then some (0, s.setThr i.toNat (s.thr i.toNat).unpark) else none
  else if x.op = 20 then some (0, s.setThr self (s.thr self).broken)
  else if x.op = 21 then some (0, { s with ns := s.ns ++ [(x.n, s.reg x.a)] })
  else if x.op = 22 then some (2, s)
  else do
    let p ← valS K most now self x s
    let t ← p.2.put x.a p.1
    some (0, t)
def leadsS (K : Known) (x : Ix) (s : SS) : Option Bool :=
  if x.op = 9 then K.eq (s.reg x.a) (s.reg x.b)
  else if x.op = 10 then (K.eq (s.reg x.a) (s.reg x.b)).map (!·)
  else if x.op = 11 then K.lt (s.reg x.a) (s.reg x.b)
  else some true
def doS (K : Known) (most now : Int) (self : Nat) (x : Ix) (s : SS) : Option (Int × SS) :=
  if 8 ≤ x.op ∧ x.op ≤ 11 then do let b ← leadsS K x s; some (0, if b then s.go x.n else s.go (s.f.pc + 1))
  else if x.op = 12 then if s.bs.length + 1 = 16 then none else some (0, { s with bs := s.bs ++ [{ s.f with pc := s.f.pc + 1 }], f := ⟨x.n, s.f.r⟩ })
  else if x.op = 13 then
    match s.bs.getLast? with
    | none => none
    | some g => if 1 < g.r.length then some (0, { s with bs := s.bs.dropLast, f := { g with r := (g.r.set 0 (s.f.r.getD 0 Lin.zero)).set 1 (s.f.r.getD 1 Lin.zero) } }) else none
  else do
    let p ← actS K most now self x s
    some (p.1, p.2.go (p.2.f.pc + 1))
def runS (K : Known) (code : List Ix) (most now : Int) (self : Nat) : Nat → Bool → SS → Option (Int × Lin × SS)
  | 0, _, _ => none
  | m + 1, some', s => match nextR code s.f.pc with
    | none => none
    | some x =>
      if some' && isAccess x.op then some (0, Lin.zero, s)
      else if oddR most x s.zs.length (s.thr self) then none
      else match doS K most now self x s with
        | none => none
        | some p =>
          if x.op = 14 then some (p.1, Lin.zero, p.2)
          else if x.op = 22 then some (2, p.2.reg x.a, p.2)
          else runS K code most now self m true p.2
def aloneS (K : Known) (code : List Ix) (most now : Int) (self : Nat) : Nat → List (Int × Lin) → SS → Option (Lin × List (Int × Lin) × SS)
  | 0, _, _ => none
  | m + 1, acc, s => match runS K code most now self 200 false { s with ns := [] } with
    | none => none
    | some p =>
      if p.1 = 2 then some (p.2.1, acc ++ p.2.2.ns, p.2.2)
      else if p.1 = 0 then aloneS K code most now self m (acc ++ p.2.2.ns) p.2.2
      else none

section
variable {K : Known} {e : List Int} {s t : SS} {x : Ix} {most now : Int} {self : Nat}
theorem place_ok (h : K.ok e) {p : Int} (hp : placeS K x s = some p) : (s.ev e).place x = p ∧ (s.ev e).has p := by
  unfold placeS at hp
  simp only [Option.bind_eq_bind, Option.bind_eq_some_iff] at hp
  obtain ⟨l, hl, q, hq, hp⟩ := hp
  split at hp
  · rename_i hin
    obtain rfl := Option.some.inj hp
    have h1 := Known.fit_ok h hl
    have h2 := Known.whole_ok h hq
    rw [ev_add, ev_num] at h1
    refine ⟨?_, ?_⟩
    · unfold Ms.place
      rw [reg_ev, h1, h2]
    · unfold Ms.has
      rw [zs_len]
      exact hin
  · cases hp
theorem acc_ok (h : K.ok e) (ht : accS K x s = some t) : accM x (s.ev e) = (0, t.ev e) := by
  unfold accS at ht
  simp only [Option.bind_eq_bind, Option.bind_eq_some_iff] at ht
  obtain ⟨p, hp, ht⟩ := ht
  obtain ⟨h1, h2⟩ := place_ok h hp
  unfold accM
  rw [h1, if_pos h2]
  by_cases h5 : x.op = 5
  · rw [if_pos h5] at ht ⊢
    rw [cell_ev, put_ev ht]
  rw [if_neg h5] at ht ⊢
  by_cases h6 : x.op = 6
  · rw [if_pos h6] at ht ⊢
    obtain rfl := Option.some.inj ht
    rw [reg_ev, store_ev]
  rw [if_neg h6] at ht ⊢
  simp only [Option.bind_eq_some_iff] at ht
  obtain ⟨b, hb, ht⟩ := ht
  have hbe := Known.eq_ok h hb
  rw [← cell_ev, ← reg_ev] at hbe
  cases b with
  | true =>
    rw [if_pos rfl] at ht
    rw [if_pos (of_decide_eq_true hbe), reg_ev, store_ev, ← put_ev ht, ev_num]
  | false =>
    rw [if_neg (by decide)] at ht
    rw [if_neg (of_decide_eq_false hbe), ← put_ev ht, ev_num]
theorem val_ok (h : K.ok e) {v : Lin} (ht : valS K most now self x s = some (v, t)) : valM most now self x (s.ev e) = (v.ev e, t.ev e) := by
  unfold valS at ht
  unfold valM
  by_cases h1 : x.op = 1
  · rw [if_pos h1] at ht ⊢; cases ht; rw [ev_num]
  rw [if_neg h1] at ht ⊢
  by_cases h2 : x.op = 2
  · rw [if_pos h2] at ht ⊢; cases ht; rfl
  rw [if_neg h2] at ht ⊢
  by_cases h3 : x.op = 3
  · rw [if_pos h3] at ht ⊢
    simp only [Option.bind_eq_bind, Option.bind_eq_some_iff] at ht
    obtain ⟨l, hl, ht⟩ := ht
    cases ht
    have := Known.fit_ok h hl
    rw [ev_add] at this
    rw [reg_ev, reg_ev, this]
  rw [if_neg h3] at ht ⊢
  by_cases h4 : x.op = 4
  · rw [if_pos h4] at ht ⊢
    simp only [Option.bind_eq_bind, Option.bind_eq_some_iff] at ht
    obtain ⟨l, hl, ht⟩ := ht
    cases ht
    have := Known.fit_ok h hl
    rw [ev_add, ev_num] at this
    rw [reg_ev, this]
  rw [if_neg h4] at ht ⊢
  by_cases h16 : x.op = 16
  · rw [if_pos h16] at ht ⊢
    unfold allocM
    rw [zs_len]
    split at ht
    · rename_i hc
      cases ht
      rw [if_pos hc, ev_num]
    · rename_i hc
      cases ht
      rw [if_neg hc, ev_num]
      unfold SS.ev
      simp only [List.map_append, List.map_replicate, ev_zero]
  rw [if_neg h16] at ht ⊢
  by_cases h17 : x.op = 17
  · rw [if_pos h17] at ht ⊢; cases ht; rw [ev_num]
  rw [if_neg h17] at ht ⊢
  by_cases h18 : x.op = 18
  · rw [if_pos h18] at ht ⊢; cases ht; rw [ev_num]
  rw [if_neg h18] at ht ⊢
  by_cases h19 : x.op = 19
  · rw [if_pos h19] at ht ⊢; cases ht; rw [ev_num, thr_ev, setThr_ev]
  rw [if_neg h19] at ht ⊢
  cases ht; rw [ev_num]
theorem act_ok (h : K.ok e) {k : Int} (ht : actS K most now self x s = some (k, t)) : actM most now self x (s.ev e) = (k, t.ev e) ∧ k ≠ 3 := by
  have hbit : ∀ b, bitI b ≠ 3 := by decide
  unfold actS at ht
  unfold actM
  by_cases h5 : 5 ≤ x.op ∧ x.op ≤ 7
  · rw [if_pos h5] at ht ⊢
    simp only [Option.bind_eq_bind, Option.bind_eq_some_iff] at ht
    obtain ⟨u, hu, ht⟩ := ht
    cases ht
    exact ⟨acc_ok h hu, by decide⟩
  rw [if_neg h5] at ht ⊢
  by_cases h14 : x.op = 14
  · rw [if_pos h14] at ht ⊢
    simp only [Option.bind_eq_bind, Option.bind_eq_some_iff] at ht
    obtain ⟨d, hd, ht⟩ := ht
    split at ht
    · cases ht
    · rename_i hc
      cases ht
      unfold parkM
      rw [reg_ev, Known.whole_ok h hd, if_neg hc]
      exact ⟨rfl, hbit _⟩
  rw [if_neg h14] at ht ⊢
  by_cases h15 : x.op = 15
  · rw [if_pos h15] at ht ⊢
    simp only [Option.bind_eq_bind, Option.bind_eq_some_iff] at ht
    obtain ⟨d, hd, ht⟩ := ht
    split at ht
    · rename_i hc
      cases ht
      unfold unparkM
      rw [reg_ev, Known.whole_ok h hd]
      rw [if_pos (show 0 ≤ d ∧ d < ((s.ev e).ps.length : Int) from hc)]
      exact ⟨rfl, by decide⟩
    · cases ht
  rw [if_neg h15] at ht ⊢
  by_cases h20 : x.op = 20
  · rw [if_pos h20] at ht ⊢; cases ht; exact ⟨rfl, by decide⟩
  rw [if_neg h20] at ht ⊢
  by_cases h21 : x.op = 21
  · rw [if_pos h21] at ht ⊢
    cases ht
    refine ⟨?_, by decide⟩
    unfold Ms.note SS.ev evN
    simp only [List.map_append, List.map_cons, List.map_nil]
    rfl
  rw [if_neg h21] at ht ⊢
  by_cases h22 : x.op = 22
  · rw [if_pos h22] at ht ⊢; cases ht; exact ⟨rfl, by decide⟩
  rw [if_neg h22] at ht ⊢
  simp only [Option.bind_eq_bind, Option.bind_eq_some_iff] at ht
  obtain ⟨⟨v, u⟩, hv, w, hw, ht⟩ := ht
  cases ht
  rw [val_ok h hv]
  exact ⟨by dsimp only; rw [put_ev hw], by decide⟩
theorem leads_ok (h : K.ok e) {b : Bool} (hb : leadsS K x s = some b) : leadsM x (s.ev e).f.r = b := by
  unfold leadsS at hb
  unfold leadsM
  by_cases h9 : x.op = 9
  · rw [if_pos h9] at hb ⊢
    rw [← Known.eq_ok h hb]
    show ((s.reg x.a).ev e == (s.reg x.b).ev e) = _
    rfl
  rw [if_neg h9] at hb ⊢
  by_cases h10 : x.op = 10
  · rw [if_pos h10] at hb ⊢
    cases hq : K.eq (s.reg x.a) (s.reg x.b) with
    | none => rw [hq] at hb; cases hb
    | some q =>
      rw [hq] at hb
      obtain rfl := Option.some.inj hb
      rw [← Known.eq_ok h hq]
      rfl
  rw [if_neg h10] at hb ⊢
  by_cases h11 : x.op = 11
  · rw [if_pos h11] at hb ⊢
    exact Known.lt_ok h hb
  rw [if_neg h11] at hb ⊢
  exact Option.some.inj hb
theorem do_ok (h : K.ok e) {k : Int} (ht : doS K most now self x s = some (k, t)) : doM most now self x (s.ev e) = (k, t.ev e) ∧ k ≠ 3 := by
  unfold doS at ht
  unfold doM
  by_cases h8 : 8 ≤ x.op ∧ x.op ≤ 11
  · rw [if_pos h8] at ht ⊢
    simp only [Option.bind_eq_bind, Option.bind_eq_some_iff] at ht
    obtain ⟨b, hb, ht⟩ := ht
    cases ht
    unfold jumpM
    rw [leads_ok h hb]
    refine ⟨?_, by decide⟩
    cases b <;> rfl
  rw [if_neg h8] at ht ⊢
  by_cases h12 : x.op = 12
  · rw [if_pos h12] at ht ⊢
    unfold enterM
    rw [bs_len]
    split at ht
    · cases ht
    · rename_i hc
      cases ht
      rw [if_neg hc]
      refine ⟨?_, by decide⟩
      unfold SS.ev
      simp only [List.map_append, List.map_cons, List.map_nil]
      rfl
  rw [if_neg h12] at ht ⊢
  by_cases h13 : x.op = 13
  · rw [if_pos h13] at ht ⊢
    unfold leaveM
    have hl : (s.ev e).bs.getLast? = s.bs.getLast?.map (SF.ev e) := by
      show (s.bs.map (SF.ev e)).getLast? = _
      rw [List.getLast?_map]
    rw [hl]
    cases hg : s.bs.getLast? with
    | none => rw [hg] at ht; cases ht
    | some g =>
      rw [hg] at ht
      dsimp only at ht
      split at ht
      · rename_i hlen
        cases ht
        refine ⟨?_, by decide⟩
        simp only [Option.map_some, Prod.mk.injEq, true_and]
        unfold SS.ev
        simp only [List.map_dropLast, Ms.mk.injEq, true_and, and_true]
        unfold SF.ev Fr.put upd
        simp only [Fr.mk.injEq, true_and]
        funext j
        by_cases h1 : j = 1
        · subst h1
          rw [if_pos rfl, getD_set_self _ _ (by rw [List.length_set]; exact hlen)]
        · rw [if_neg h1, getD_set_ne _ _ h1]
          by_cases h0 : j = 0
          · subst h0
            rw [if_pos rfl, getD_set_self _ _ (by omega)]
          · rw [if_neg h0, getD_set_ne _ _ h0]
      · cases ht
  rw [if_neg h13] at ht ⊢
  simp only [Option.bind_eq_bind, Option.bind_eq_some_iff] at ht
  obtain ⟨⟨k', u⟩, hu, ht⟩ := ht
  cases ht
  obtain ⟨h1, h2⟩ := act_ok h hu
  rw [h1]
  exact ⟨by rw [if_neg h2]; rfl, h2⟩
theorem run_ok (h : K.ok e) (code : List Ix) : ∀ (m : Nat) (b : Bool) (s : SS) (p : Int × Lin × SS), runS K code most now self m b s = some p → runR code most now self m b (s.ev e) = some (p.1, p.2.1.ev e, p.2.2.ev e)
  | 0, b, s, p, hp => by cases hp
  | m + 1, b, s, p, hp => by
    unfold runS at hp
    rw [runR]
    have hpc : (s.ev e).f.pc = s.f.pc := rfl
    rw [hpc]
    cases hx : nextR code s.f.pc with
    | none => rw [hx] at hp; cases hp
    | some x =>
      rw [hx] at hp
      dsimp only at hp ⊢
      cases ha : (b && isAccess x.op) with
      | true =>
        rw [ha, if_pos rfl] at hp
        obtain rfl := Option.some.inj hp
        rw [if_pos rfl, ev_zero]
      | false =>
        rw [ha, if_neg (by decide)] at hp
        rw [if_neg (by decide), thr_ev, zs_len]
        cases hst : oddR most x s.zs.length (s.thr self) with
        | true => rw [hst, if_pos rfl] at hp; cases hp
        | false =>
        rw [hst, if_neg (by decide)] at hp
        rw [if_neg (by decide)]
        cases hd : doS K most now self x s with
        | none => rw [hd] at hp; cases hp
        | some q =>
          obtain ⟨k, u⟩ := q
          rw [hd] at hp
          obtain ⟨h1, h2⟩ := do_ok h hd
          rw [h1, if_neg h2]
          dsimp only at hp ⊢
          by_cases h14 : x.op = 14
          · rw [if_pos h14] at hp ⊢
            obtain rfl := Option.some.inj hp
            rw [ev_zero]
          rw [if_neg h14] at hp ⊢
          by_cases h22 : x.op = 22
          · rw [if_pos h22] at hp ⊢
            obtain rfl := Option.some.inj hp
            rfl
          rw [if_neg h22] at hp ⊢
          exact run_ok h code m true u p hp
theorem alone_ok (h : K.ok e) (code : List Ix) : ∀ (m : Nat) (acc : List (Int × Lin)) (s : SS) (p : Lin × List (Int × Lin) × SS), aloneS K code most now self m acc s = some p → aloneR code most now self m (acc.map (evN e)) (s.ev e) = some (p.1.ev e, p.2.1.map (evN e), p.2.2.ev e)
  | 0, acc, s, p, hp => by cases hp
  | m + 1, acc, s, p, hp => by
    unfold aloneS at hp
    rw [aloneR]
    cases hr : runS K code most now self 200 false { s with ns := [] } with
    | none => rw [hr] at hp; cases hp
    | some q =>
      obtain ⟨k, v, u⟩ := q
      rw [hr] at hp
      have h1 := run_ok h code 200 false { s with ns := [] } _ hr
      have h2 : ({ s with ns := [] } : SS).ev e = { s.ev e with ns := [] } := rfl
      rw [h2] at h1
      rw [h1]
      dsimp only at hp ⊢
      by_cases hk : k = 2
      · rw [if_pos hk] at hp ⊢
        obtain rfl := Option.some.inj hp
        dsimp only
        rw [List.map_append]
        rfl
      rw [if_neg hk] at hp ⊢
      by_cases h0 : k = 0
      · rw [if_pos h0] at hp ⊢
        have := alone_ok h code m (acc ++ u.ns) u p hp
        rw [List.map_append] at this
        exact this
      · rw [if_neg h0] at hp; cases hp
end

end Go.Proofs.Ytofnomkedpagfaa
