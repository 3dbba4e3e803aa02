/-
  Frames, instructions, marks, and what each instruction does, plain mathematics.
  Conditions: none.
-/
import Derived.Test.YtofnomkedpagfaaRowOwn
import Derived.Test.YtofnomkedpagfaaPk
namespace Go.Proofs.Ytofnomkedpagfaa
open Go.RowKit

/-- A frame: the place of its next instruction, and its registers. -/
structure Fr where
  pc : Int
  r : Nat → Int
def regsC (r : Nat → Int) : List Value := (List.range 16).map (fun k => .int .i64 (r k))
def Fr.cells (f : Fr) : List Value := .int .i64 f.pc :: regsC f.r
theorem regsC_len (r : Nat → Int) : (regsC r).length = 16 := by simp [regsC]
theorem Fr.len (f : Fr) : f.cells.length = 17 := by simp [Fr.cells, regsC_len]
theorem regsC_at (r : Nat → Int) {k : Nat} (hk : k < 16) : (regsC r)[k]? = some (.int .i64 (r k)) := by simp [regsC, hk]
theorem Fr.at_r (f : Fr) {k : Nat} (hk : k < 16) : f.cells[k + 1]? = some (.int .i64 (f.r k)) := by
  unfold Fr.cells
  rw [List.getElem?_cons_succ]
  exact regsC_at f.r hk
/-- A register is written. -/
def upd (r : Nat → Int) (k : Nat) (v : Int) : Nat → Int := fun j => if j = k then v else r j
theorem upd_at (r : Nat → Int) (k : Nat) (v : Int) : upd r k v k = v := if_pos rfl
theorem upd_not (r : Nat → Int) {k j : Nat} (v : Int) (h : j ≠ k) : upd r k v j = r j := if_neg h
theorem regsC_set (r : Nat → Int) {k : Nat} (v : Int) : regsC (upd r k v) = (regsC r).set k (.int .i64 v) := by
  apply List.ext_getElem?
  intro j
  unfold regsC
  rw [List.getElem?_set, List.getElem?_map, List.getElem?_map, List.length_map, List.length_range]
  by_cases hj : j < 16
  · rw [List.getElem?_range hj]
    by_cases h : k = j
    · subst h
      rw [if_pos rfl, if_pos hj, Option.map_some, upd_at]
    · rw [if_neg h, Option.map_some, Option.map_some, upd_not _ _ (Ne.symm h)]
  · have : (List.range 16)[j]? = none := by rw [List.getElem?_eq_none]; simp; omega
    rw [this]
    split <;> simp; omega
def Fr.put (f : Fr) (k : Nat) (v : Int) : Fr := { f with r := upd f.r k v }
theorem Fr.put_put (f : Fr) (k : Nat) (v w : Int) : (f.put k v).put k w = f.put k w := by
  unfold Fr.put upd
  simp only [Fr.mk.injEq, true_and]
  funext j
  by_cases h : j = k
  · rw [if_pos h, if_pos h]
  · rw [if_neg h, if_neg h, if_neg h]
def Fr.go (f : Fr) (p : Int) : Fr := { f with pc := p }
theorem Fr.put_cells (f : Fr) (k : Nat) (v : Int) : (f.put k v).cells = f.cells.set (k + 1) (.int .i64 v) := by
  unfold Fr.cells Fr.put
  rw [List.set_cons_succ, regsC_set]
theorem Fr.go_cells (f : Fr) (p : Int) : (f.go p).cells = f.cells.set 0 (.int .i64 p) := rfl

/-- An instruction. -/
structure Ix where
  op : Int
  a : Int
  b : Int
  c : Int
  n : Int
  deriving DecidableEq
def Ix.cells (x : Ix) : List Value := [.int .i64 x.op, .int .i64 x.a, .int .i64 x.b, .int .i64 x.c, .int .i64 x.n]
@[reducible] def Ix.agg (x : Ix) : Value := .agg #[.int .i64 x.op, .int .i64 x.a, .int .i64 x.b, .int .i64 x.c, .int .i64 x.n]
theorem Ix.five (x : Ix) : x.cells.length = 5 := rfl
def Ix.wide (x : Ix) : Prop := -9223372036854775808 ≤ x.op ∧ x.op ≤ 9223372036854775807
/-- A mark. -/
structure Nt where
  kind : Int
  value : Int
  deriving DecidableEq
def Nt.cells (x : Nt) : List Value := [.int .i64 x.kind, .int .i64 x.value]
theorem Nt.two (x : Nt) : x.cells.length = 2 := rfl

/-- How all stands within a step: cells, threads, the frames ahead of the last one, that one, and marks. -/
structure Ms where
  zs : List Int
  ps : List Pk
  bs : List Fr
  f : Fr
  ns : List Nt
def Ms.put (s : Ms) (k : Int) (v : Int) : Ms := { s with f := s.f.put k.toNat v }
def Ms.go (s : Ms) (p : Int) : Ms := { s with f := s.f.go p }
def Ms.next (s : Ms) : Ms := s.go (s.f.pc + 1)
def Ms.reg (s : Ms) (k : Int) : Int := s.f.r k.toNat
def Ms.cell (s : Ms) (p : Int) : Int := s.zs.getD (p.toNat - 1) 0
def Ms.store (s : Ms) (p v : Int) : Ms := { s with zs := s.zs.set (p.toNat - 1) v }
def Ms.has (s : Ms) (p : Int) : Prop := 1 ≤ p ∧ p ≤ (s.zs.length : Int)
instance (s : Ms) (p : Int) : Decidable (s.has p) := inferInstanceAs (Decidable (_ ∧ _))
def Ms.thr (s : Ms) (i : Nat) : Pk := s.ps.getD i Pk.zero
def Ms.setThr (s : Ms) (i : Nat) (p : Pk) : Ms := { s with ps := s.ps.set i p }
def Ms.note (s : Ms) (k v : Int) : Ms := { s with ns := s.ns ++ [⟨k, v⟩] }
/-- The cell that an access speaks of. -/
def Ms.place (s : Ms) (x : Ix) : Int := IntKind.i64.wrap (s.reg x.b + x.n)

/-- An access: whether it traps, and what it leaves. -/
def accM (x : Ix) (s : Ms) : Int × Ms :=
  if s.has (s.place x) then
    if x.op = 5 then (0, s.put x.a (s.cell (s.place x)))
    else if x.op = 6 then (0, s.store (s.place x) (s.reg x.a))
    else if s.cell (s.place x) = s.reg x.a then (0, (s.store (s.place x) (s.reg (x.a + 1))).put (x.a + 2) 1)
    else (0, s.put (x.a + 2) 0)
  else (3, s)
/-- 1 of what is so, else 0. -/
def bitI (b : Bool) : Int := if b then 1 else 0
/-- New cells, and the first one's place. -/
def allocM (most : Int) (n : Int) (s : Ms) : Int × Ms :=
  if n < 1 ∨ most - s.zs.length < n then (0, s) else (s.zs.length + 1, { s with zs := s.zs ++ List.replicate n.toNat 0 })
/-- What a register becomes, and what is left besides. -/
def valM (most now : Int) (self : Nat) (x : Ix) (s : Ms) : Int × Ms :=
  if x.op = 1 then (x.n, s)
  else if x.op = 2 then (s.reg x.b, s)
  else if x.op = 3 then (IntKind.i64.wrap (s.reg x.b + s.reg x.c), s)
  else if x.op = 4 then (IntKind.i64.wrap (s.reg x.b + x.n), s)
  else if x.op = 16 then allocM most x.n s
  else if x.op = 17 then (self, s)
  else if x.op = 18 then (now, s)
  else if x.op = 19 then (bitI (s.thr self).flag, s.setThr self (s.thr self).clear)
  else (0, s)
def parkM (now : Int) (self : Nat) (d : Int) (s : Ms) : Int × Ms :=
  if d < -1 then (3, s) else (bitI ((s.thr self).parks now d), s.setThr self ((s.thr self).park now d))
def unparkM (i : Int) (s : Ms) : Int × Ms :=
  if 0 ≤ i ∧ i < (s.ps.length : Int) then (0, s.setThr i.toNat (s.thr i.toNat).unpark) else (3, s)
def actM (most now : Int) (self : Nat) (x : Ix) (s : Ms) : Int × Ms :=
  if 5 ≤ x.op ∧ x.op ≤ 7 then accM x s
  else if x.op = 14 then parkM now self (s.reg x.a) s
  else if x.op = 15 then unparkM (s.reg x.a) s
  else if x.op = 20 then (0, s.setThr self (s.thr self).broken)
  else if x.op = 21 then (0, s.note x.n (s.reg x.a))
  else if x.op = 22 then (2, s)
  else (0, (valM most now self x s).2.put x.a (valM most now self x s).1)
def leadsM (x : Ix) (r : Nat → Int) : Bool :=
  if x.op = 9 then r x.a.toNat == r x.b.toNat else if x.op = 10 then r x.a.toNat != r x.b.toNat else if x.op = 11 then decide (r x.a.toNat < r x.b.toNat) else true
def jumpM (x : Ix) (s : Ms) : Ms := if leadsM x s.f.r then s.go x.n else s.next
def enterM (x : Ix) (s : Ms) : Int × Ms :=
  if s.bs.length + 1 = 16 then (3, s) else (0, { s with bs := s.bs ++ [s.f.go (s.f.pc + 1)], f := ⟨x.n, s.f.r⟩ })
def leaveM (s : Ms) : Int × Ms :=
  match s.bs.getLast? with
  | none => (3, s)
  | some g => (0, { s with bs := s.bs.dropLast, f := (g.put 0 (s.f.r 0)).put 1 (s.f.r 1) })
def doM (most now : Int) (self : Nat) (x : Ix) (s : Ms) : Int × Ms :=
  if 8 ≤ x.op ∧ x.op ≤ 11 then (0, jumpM x s)
  else if x.op = 12 then enterM x s
  else if x.op = 13 then leaveM s
  else if (actM most now self x s).1 = 3 then actM most now self x s
  else ((actM most now self x s).1, (actM most now self x s).2.next)

end Go.Proofs.Ytofnomkedpagfaa
