/-
  The document's machine, plain mathematics: a step of a thread, and a thread's code run to its end, alone.
  Conditions: none.
-/
import Derived.Test.YtofnomkedpagfaaFr
namespace Go.Proofs.Ytofnomkedpagfaa
open Go.RowKit

/-- The instruction that is next. -/
def nextR (code : List Ix) (p : Int) : Option Ix := if 0 ≤ p then code[p.toNat]? else none
/-- Where a thread parks, or is interrupted, it runs. -/
def strange (op : Int) (p : Pk) : Bool := (op == 14 || op == 20) && (p.blocked || p.deadline != 0)
/-- Or there is no room for new cells. -/
def oddR (most : Int) (x : Ix) (len : Nat) (p : Pk) : Bool := strange x.op p || (x.op == 16 && (decide (x.n < 1) || decide (most - len < x.n)))
/-- A step, from here on, of at most so many instructions: how it ends, what the call comes to, and what is left; none: it traps. -/
def runR (code : List Ix) (most now : Int) (self : Nat) : Nat → Bool → Ms → Option (Int × Int × Ms)
  | 0, _, _ => none
  | m + 1, some', s => match nextR code s.f.pc with
    | none => none
    | some x =>
      if some' && isAccess x.op then some (0, 0, s)
      else if oddR most x s.zs.length (s.thr self) then none
      else if (doM most now self x s).1 = 3 then none
      else if x.op = 14 then some ((doM most now self x s).1, 0, (doM most now self x s).2)
      else if x.op = 22 then some (2, (doM most now self x s).2.reg x.a, (doM most now self x s).2)
      else runR code most now self m true (doM most now self x s).2
/-- A thread's code, alone, of at most so many steps: what it comes to, its marks, and what is left. -/
def aloneR (code : List Ix) (most now : Int) (self : Nat) : Nat → List Nt → Ms → Option (Int × List Nt × Ms)
  | 0, _, _ => none
  | m + 1, acc, s => match runR code most now self 200 false { s with ns := [] } with
    | none => none
    | some (how, v, s') =>
      if how = 2 then some (v, acc ++ s'.ns, s')
      else if how = 0 then aloneR code most now self m (acc ++ s'.ns) s'
      else none

section
variable {code : List Ix} {most now : Int} {self : Nat} {m : Nat} {b : Bool} {s : Ms} {x : Ix}
theorem runR_zero : runR code most now self 0 b s = none := rfl
theorem runR_none (h : nextR code s.f.pc = none) : runR code most now self (m + 1) b s = none := by rw [runR, h]
theorem runR_stop (h : nextR code s.f.pc = some x) (hx : isAccess x.op = true) : runR code most now self (m + 1) true s = some (0, 0, s) := by rw [runR, h]; simp [hx]
theorem runR_trap (h : nextR code s.f.pc = some x) (hx : (b && isAccess x.op) = false) (ht : (doM most now self x s).1 = 3) : runR code most now self (m + 1) b s = none := by
  rw [runR, h]
  simp only [hx, Bool.false_eq_true, if_false, if_pos ht]
  split <;> rfl
theorem runR_odd (h : nextR code s.f.pc = some x) (hx : (b && isAccess x.op) = false) (hs : oddR most x s.zs.length (s.thr self) = true) : runR code most now self (m + 1) b s = none := by
  rw [runR, h]
  simp only [hx, Bool.false_eq_true, if_false, hs, if_true]
theorem runR_park (h : nextR code s.f.pc = some x) (hx : (b && isAccess x.op) = false) (hs : oddR most x s.zs.length (s.thr self) = false) (ht : ¬ (doM most now self x s).1 = 3) (h14 : x.op = 14) :
    runR code most now self (m + 1) b s = some ((doM most now self x s).1, 0, (doM most now self x s).2) := by rw [runR, h]; simp only [hx, hs, Bool.false_eq_true, if_false, if_neg ht, if_pos h14]
theorem runR_done (h : nextR code s.f.pc = some x) (hx : (b && isAccess x.op) = false) (hs : oddR most x s.zs.length (s.thr self) = false) (ht : ¬ (doM most now self x s).1 = 3) (h22 : x.op = 22) :
    runR code most now self (m + 1) b s = some (2, (doM most now self x s).2.reg x.a, (doM most now self x s).2) := by rw [runR, h]; simp only [hx, hs, Bool.false_eq_true, if_false, if_neg ht, if_neg (show ¬ x.op = 14 by omega), if_pos h22]
theorem runR_next (h : nextR code s.f.pc = some x) (hx : (b && isAccess x.op) = false) (hs : oddR most x s.zs.length (s.thr self) = false) (ht : ¬ (doM most now self x s).1 = 3) (h14 : ¬ x.op = 14) (h22 : ¬ x.op = 22) :
    runR code most now self (m + 1) b s = runR code most now self m true (doM most now self x s).2 := by rw [runR, h]; simp only [hx, hs, Bool.false_eq_true, if_false, if_neg ht, if_neg h14, if_neg h22]
theorem nextR_some (h : nextR code s.f.pc = some x) : ∃ p : Nat, s.f.pc = p ∧ code[p]? = some x := by
  unfold nextR at h
  split at h
  · exact ⟨s.f.pc.toNat, by omega, h⟩
  · cases h
end

end Go.Proofs.Ytofnomkedpagfaa
