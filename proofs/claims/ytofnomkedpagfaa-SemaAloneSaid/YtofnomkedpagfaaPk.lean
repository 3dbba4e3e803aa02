/-
  How threads stand, plain mathematics: permits, flags, blocked, deadlines.
  Conditions: none.
-/
import Derived.Test.YtofnomkedpagfaaKept
import Derived.WalkKit
namespace Go.Proofs.Ytofnomkedpagfaa
open Go.RowKit

def dueF (now d : Int) : Bool := decide (0 ≤ d) && decide (d ≤ now)

theorem dueF_iff (now d : Int) : dueF now d = true ↔ 0 ≤ d ∧ d ≤ now := by simp [dueF]

/-- How a thread stands. -/
structure Pk where
  permit : Bool
  flag : Bool
  blocked : Bool
  deadline : Int
deriving DecidableEq

def Pk.cells (p : Pk) : List Value := [.bool p.permit, .bool p.flag, .bool p.blocked, .int .i64 p.deadline]
theorem Pk.four (p : Pk) : p.cells.length = 4 := rfl

theorem set_at {α : Type} {ps : List α} {i : Nat} {p : α} (hp : ps[i]? = some p) (p' : α) : (ps.set i p')[i]? = some p' := by
  have := (List.getElem?_eq_some_iff.1 hp).1
  simp [this]

def Pk.on (p : Pk) : Pk := { p with blocked := false, deadline := 0 }

def Pk.park (now : Int) (p : Pk) (d : Int) : Pk := if p.permit then { p with permit := false } else if p.flag || dueF now d then p else { p with blocked := true, deadline := d }
def Pk.parks (now : Int) (p : Pk) (d : Int) : Bool := !(p.permit || p.flag || dueF now d)
def Pk.unpark (p : Pk) : Pk := if p.blocked then p.on else { p with permit := true }
def Pk.broken (p : Pk) : Pk := { p with flag := true, blocked := false, deadline := 0 }
def Pk.clear (p : Pk) : Pk := { p with flag := false }
theorem at_lt {α : Type} {ps : List α} {i : Nat} {p : α} (hp : ps[i]? = some p) : i < ps.length := (List.getElem?_eq_some_iff.1 hp).1
theorem set_self {α : Type} {ps : List α} {i : Nat} {p : α} (hp : ps[i]? = some p) : ps.set i p = ps := by
  obtain ⟨h, e⟩ := List.getElem?_eq_some_iff.1 hp
  rw [← e, List.set_getElem_self]
def Pk.zero : Pk := ⟨false, false, false, 0⟩
/-- Is an instruction an access? -/
def isAccess (op : Int) : Bool := decide (5 ≤ op) && decide (op ≤ 7)

end Go.Proofs.Ytofnomkedpagfaa
