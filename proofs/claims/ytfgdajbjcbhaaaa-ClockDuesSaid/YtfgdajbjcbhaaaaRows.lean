/-
  No cell of these rows narrows 'for every input' (looked for: loops, veiled, ifaces, maps, wideKeys, modest, calm, conditions, laid).
  DERIVED. THE GIVEN ROWS OF THIS SEAT. 4 by the template 'for every input the law returns true; each argument reads behind the call as it read before'; 0 by the template 'total and deterministic' (their statements: YtfgdajbjcbhaaaaTotals.lean).
  GIVEN WITH THE SEED: the statements are not yours to turn. If you find one false, say at which input.
  Laid BY PROGRAM, IN A SANDBOX (cutbox-rows.mjs): the forced cells as the released guide's own fill.sh prints them over the translation 5bd29440b302c2c3… (all of the seat's roots in one cut). By AI agents, Wed Nov 11 2026. No macro, syntax, notation, axiom, sorry.
-/
import Derived.Test.YtfgdajbjcbhaaaaChecked
import GoSem.Claim
import GoSem.ClaimJoined
import GoSem.ClaimMapViews
import Derived.JoinedTies
import Derived.KernelRfl
namespace Go.Proofs.Ytfgdajbjcbhaaaa
/- THE CELL 'sum', in the pinned program and in every row, IS THE sha256 OF THE DUMP (.gsa) THAT YtfgdajbjcbhaaaaProg.lean LOADS. Nothing in Lean hashes anything: it is a label: what it is worth is what the hold of that sum in a sandbox is worth. -/
noncomputable def Try.pinned : Pinned := { name := "ytfgdajbjcbhaaaa", sum := "5bd29440b302c2c38dd6e0ebe41ba7bf5aaf69e2be0f1da881cc76b6ebd17281", checked := Try.checked }
namespace Rows
def none {H : Type} : Left H := { results := [], args := [] }

/-- 'tholelaw02.ClockAdds': WHATEVER THE INPUT: true; the input reads as it did. -/
def clockAddsSpec : ChangeSpec := { name := "clockAdds", fn := fun _ => fun
  | [d1, d2] => { results := [.lit (.bool true)], args := [d1, d2] }
  | _ => none }
def clockAddsRow : OpenClaim := { program := "ytfgdajbjcbhaaaa", sum := "5bd29440b302c2c38dd6e0ebe41ba7bf5aaf69e2be0f1da881cc76b6ebd17281", func := "thole/tholelaw02.ClockAdds", spec := "clockAdds", apart := false }
def ClockAddsSaid : Prop := clockAddsRow.holds Try.pinned (OpenSpec.ofChange clockAddsSpec)

/-- ITS FALSE NEIGHBOUR: 'it returns false'. Refute it at one input. -/
def clockAddsWrong : ChangeSpec := { name := "clockAdds", fn := fun _ => fun
  | [d1, d2] => { results := [.lit (.bool false)], args := [d1, d2] }
  | _ => none }
def ClockAddsWrongFalsely : Prop := clockAddsRow.holds Try.pinned (OpenSpec.ofChange clockAddsWrong)

/-- 'tholelaw02.ClockDues': WHATEVER THE INPUT: true; the input reads as it did. -/
def clockDuesSpec : ChangeSpec := { name := "clockDues", fn := fun _ => fun
  | [d1, d2] => { results := [.lit (.bool true)], args := [d1, d2] }
  | _ => none }
def clockDuesRow : OpenClaim := { program := "ytfgdajbjcbhaaaa", sum := "5bd29440b302c2c38dd6e0ebe41ba7bf5aaf69e2be0f1da881cc76b6ebd17281", func := "thole/tholelaw02.ClockDues", spec := "clockDues", apart := false }
def ClockDuesSaid : Prop := clockDuesRow.holds Try.pinned (OpenSpec.ofChange clockDuesSpec)

/-- ITS FALSE NEIGHBOUR: 'it returns false'. Refute it at one input. -/
def clockDuesWrong : ChangeSpec := { name := "clockDues", fn := fun _ => fun
  | [d1, d2] => { results := [.lit (.bool false)], args := [d1, d2] }
  | _ => none }
def ClockDuesWrongFalsely : Prop := clockDuesRow.holds Try.pinned (OpenSpec.ofChange clockDuesWrong)

/-- 'tholelaw02.ClockOn': WHATEVER THE INPUT: true; the input reads as it did. -/
def clockOnSpec : ChangeSpec := { name := "clockOn", fn := fun _ => fun
  | [d1, d2, d3, d4] => { results := [.lit (.bool true)], args := [d1, d2, d3, d4] }
  | _ => none }
def clockOnRow : OpenClaim := { program := "ytfgdajbjcbhaaaa", sum := "5bd29440b302c2c38dd6e0ebe41ba7bf5aaf69e2be0f1da881cc76b6ebd17281", func := "thole/tholelaw02.ClockOn", spec := "clockOn", apart := false }
def ClockOnSaid : Prop := clockOnRow.holds Try.pinned (OpenSpec.ofChange clockOnSpec)

/-- ITS FALSE NEIGHBOUR: 'it returns false'. Refute it at one input. -/
def clockOnWrong : ChangeSpec := { name := "clockOn", fn := fun _ => fun
  | [d1, d2, d3, d4] => { results := [.lit (.bool false)], args := [d1, d2, d3, d4] }
  | _ => none }
def ClockOnWrongFalsely : Prop := clockOnRow.holds Try.pinned (OpenSpec.ofChange clockOnWrong)

/-- 'tholelaw02.ClockParts': WHATEVER THE INPUT: true; the input reads as it did. -/
def clockPartsSpec : ChangeSpec := { name := "clockParts", fn := fun _ => fun
  | [d1, d2] => { results := [.lit (.bool true)], args := [d1, d2] }
  | _ => none }
def clockPartsRow : OpenClaim := { program := "ytfgdajbjcbhaaaa", sum := "5bd29440b302c2c38dd6e0ebe41ba7bf5aaf69e2be0f1da881cc76b6ebd17281", func := "thole/tholelaw02.ClockParts", spec := "clockParts", apart := false }
def ClockPartsSaid : Prop := clockPartsRow.holds Try.pinned (OpenSpec.ofChange clockPartsSpec)

/-- ITS FALSE NEIGHBOUR: 'it returns false'. Refute it at one input. -/
def clockPartsWrong : ChangeSpec := { name := "clockParts", fn := fun _ => fun
  | [d1, d2] => { results := [.lit (.bool false)], args := [d1, d2] }
  | _ => none }
def ClockPartsWrongFalsely : Prop := clockPartsRow.holds Try.pinned (OpenSpec.ofChange clockPartsWrong)

/- THE SECOND FORM. 'bulk': how many values and letters a reading holds, each counted each time it is reached (what is shared counts as often as it is met; a slice's spare places count too). A statement '..UptoSaid' is the law's where the arguments, and the package variables that the reading takes, are together of bulk at most 1048576: NARROWER than '..Said'. Prove '..Said' where nothing that the law and all that it calls make is longer than what came in: it says more and counts as full. Else prove '..UptoSaid'. A law counts once. -/
mutual
def uptoBulk {H : Type} : DataW H → Nat
  | .lit (.string bytes) => bytes.length + 1
  | .lit _ => 1
  | .nil => 1
  | .ptr d => uptoBulk d + 1
  | .slice elems spare => uptoBulkAll elems + uptoBulkAll spare + 1
  | .agg parts => uptoBulkAll parts + 1
  | .iface _ d => uptoBulk d + 1
  | .map entries => uptoBulkEntries entries + 1
  | .held _ => 1
def uptoBulkAll {H : Type} : List (DataW H) → Nat
  | [] => 0
  | d :: r => uptoBulk d + uptoBulkAll r
def uptoBulkEntries {H : Type} : List (Lit × DataW H) → Nat
  | [] => 0
  | x :: r => uptoBulkEntry x + uptoBulkEntries r
def uptoBulkEntry {H : Type} : Lit × DataW H → Nat
  | (.string bytes, d) => bytes.length + uptoBulk d + 1
  | (_, d) => uptoBulk d + 1
 end
def uptoSmall : (H : Type) → List (DataW H) → Bool := fun _ ds => decide (uptoBulkAll ds ≤ 1048576)
def OpenSpec.upto (s : _root_.Go.ChangeSpec) : _root_.Go.OpenSpec := { _root_.Go.OpenSpec.ofChange s with cond := some uptoSmall }

/-- 'tholelaw02.ClockAdds', WHERE WHAT IT READS IS OF BULK AT MOST 1048576: true; the input reads as it did. -/
def clockAddsUptoRow : OpenClaim := { program := "ytfgdajbjcbhaaaa", sum := "5bd29440b302c2c38dd6e0ebe41ba7bf5aaf69e2be0f1da881cc76b6ebd17281", func := "thole/tholelaw02.ClockAdds", spec := "clockAdds", apart := false, narrowed := true }
def ClockAddsUptoSaid : Prop := clockAddsUptoRow.holds Try.pinned (OpenSpec.upto clockAddsSpec)

/-- 'tholelaw02.ClockDues', WHERE WHAT IT READS IS OF BULK AT MOST 1048576: true; the input reads as it did. -/
def clockDuesUptoRow : OpenClaim := { program := "ytfgdajbjcbhaaaa", sum := "5bd29440b302c2c38dd6e0ebe41ba7bf5aaf69e2be0f1da881cc76b6ebd17281", func := "thole/tholelaw02.ClockDues", spec := "clockDues", apart := false, narrowed := true }
def ClockDuesUptoSaid : Prop := clockDuesUptoRow.holds Try.pinned (OpenSpec.upto clockDuesSpec)

/-- 'tholelaw02.ClockOn', WHERE WHAT IT READS IS OF BULK AT MOST 1048576: true; the input reads as it did. -/
def clockOnUptoRow : OpenClaim := { program := "ytfgdajbjcbhaaaa", sum := "5bd29440b302c2c38dd6e0ebe41ba7bf5aaf69e2be0f1da881cc76b6ebd17281", func := "thole/tholelaw02.ClockOn", spec := "clockOn", apart := false, narrowed := true }
def ClockOnUptoSaid : Prop := clockOnUptoRow.holds Try.pinned (OpenSpec.upto clockOnSpec)

/-- 'tholelaw02.ClockParts', WHERE WHAT IT READS IS OF BULK AT MOST 1048576: true; the input reads as it did. -/
def clockPartsUptoRow : OpenClaim := { program := "ytfgdajbjcbhaaaa", sum := "5bd29440b302c2c38dd6e0ebe41ba7bf5aaf69e2be0f1da881cc76b6ebd17281", func := "thole/tholelaw02.ClockParts", spec := "clockParts", apart := false, narrowed := true }
def ClockPartsUptoSaid : Prop := clockPartsUptoRow.holds Try.pinned (OpenSpec.upto clockPartsSpec)

end Rows
end Go.Proofs.Ytfgdajbjcbhaaaa
