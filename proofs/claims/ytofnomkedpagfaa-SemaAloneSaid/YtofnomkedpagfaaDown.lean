/-
  A part of a piece of code, by its path; a frame's letters.
  Conditions: none.
-/
import Derived.Test.YtofnomkedpagfaaKept
namespace Go.Proofs.Ytofnomkedpagfaa

/-- A part of a piece of code: which way to go at each turn. -/
def down : List Nat → Code → Code
  | [], c => c
  | i :: l, c => down l (match c, i with
    | .seq a _, 0 => a
    | .seq _ b, _ => b
    | .cond _ a _, 0 => a
    | .cond _ _ b, _ => b
    | .loop a, _ => a
    | .block _ a, _ => a
    | .scope a, _ => a
    | c, _ => c)
def lett (a : Act) (k : Nat) : Value := a.tmps.getD k undef

end Go.Proofs.Ytofnomkedpagfaa
