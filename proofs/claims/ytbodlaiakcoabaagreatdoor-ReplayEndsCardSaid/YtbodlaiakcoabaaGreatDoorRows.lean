/-
  NARROWER THAN 'FOR EVERY INPUT', by the rows' own cells (each row's printed sentence says how): ReplayBegins: laid · ReplayLast: laid · ReplayBreaks: laid · ReplayBacks: laid · ReplayMoves: laid · ReplayEnds: laid.
  DERIVED. THE GIVEN ROWS OF THIS SEAT. 6 by the template 'for every input the law returns true; each argument reads behind the call as it read before'; 0 by the template 'total and deterministic' (their statements: YtbodlaiakcoabaaGreatDoorTotals.lean).
  GIVEN WITH THE SEED: the statements are not yours to turn. If you find one false, say at which input.
  Laid BY PROGRAM, IN A SANDBOX (cutbox-rows.mjs): the forced cells as the released guide's own fill.sh prints them over the translation 72ffaa9914374842… (all of the seat's roots in one cut). By AI agents, Wed Nov 11 2026. No macro, syntax, notation, axiom, sorry.
-/
import Derived.Test.YtbodlaiakcoabaaGreatDoorChecked
import GoSem.Claim
import GoSem.ClaimJoined
import GoSem.ClaimMapViews
import Derived.JoinedTies
import Derived.KernelRfl
namespace Go.Proofs.YtbodlaiakcoabaaGreatDoor
/- THE CELL 'sum', in the pinned program and in every row, IS THE sha256 OF THE DUMP (.gsa) THAT YtbodlaiakcoabaaGreatDoorProg.lean LOADS. Nothing in Lean hashes anything: it is a label: what it is worth is what the hold of that sum in a sandbox is worth. -/
noncomputable def Tryz.pinned : Pinned := { name := "ytbodlaiakcoabaagreatdoor", sum := "72ffaa991437484249cd843379ea8c362be878c1de8b3c76700d0811a70520e5", checked := Tryz.checked }
namespace Rows
def none {H : Type} : Left H := { results := [], args := [] }

/- WHAT THE LISTED PACKAGE-LEVEL VARIABLES READ AS WHEN THE CALL BEGINS. Each datum BY PROGRAM (the guide's laid-datum.mjs) off the statement by which the dump's own 'gosem.cut.vars' lays the variable. In a bare row this is a premise. The card (YtbodlaiakcoabaaGreatDoorCards.lean) ties it to the program's text. -/
def laid_errors_errorType {H : Type} : DataW H := .iface "internal/reflectlite.rtype" (.agg [.ptr (.lit (.string [101, 114, 114, 111, 114]))])

/-- 'tholelaw11.ReplayBegins': WHATEVER THE INPUT: true; the input reads as it did. -/
def replayBeginsSpec : ChangeSpec := { name := "replayBegins", fn := fun _ => fun
  | [d1, d2, d3] => { results := [.lit (.bool true)], args := [d1, d2, d3] }
  | _ => none }
def replayBeginsRow : OpenClaim := { program := "ytbodlaiakcoabaagreatdoor", sum := "72ffaa991437484249cd843379ea8c362be878c1de8b3c76700d0811a70520e5", func := "thole/tholelaw11.ReplayBegins", spec := "replayBegins", inPlace := ["internal/reflectlite.ValueOf", "(internal/reflectlite.Value).Type", "(internal/reflectlite.Value).IsNil", "internal/reflectlite.TypeOf", "(internal/reflectlite.Value).Elem", "(internal/reflectlite.Value).Set"], unfollowed := true, recurses := true, named := ["errors.errorType"], apart := false, laid := [("errors.errorType", laid_errors_errorType)] }
def ReplayBeginsSaid : Prop := replayBeginsRow.holds Tryz.pinned (OpenSpec.ofChange replayBeginsSpec)

/-- ITS FALSE NEIGHBOUR: 'it returns false'. Refute it at one input. -/
def replayBeginsWrong : ChangeSpec := { name := "replayBegins", fn := fun _ => fun
  | [d1, d2, d3] => { results := [.lit (.bool false)], args := [d1, d2, d3] }
  | _ => none }
def ReplayBeginsWrongFalsely : Prop := replayBeginsRow.holds Tryz.pinned (OpenSpec.ofChange replayBeginsWrong)

/-- 'tholelaw11.ReplayLast': WHATEVER THE INPUT: true; the input reads as it did. -/
def replayLastSpec : ChangeSpec := { name := "replayLast", fn := fun _ => fun
  | [d1, d2, d3] => { results := [.lit (.bool true)], args := [d1, d2, d3] }
  | _ => none }
def replayLastRow : OpenClaim := { program := "ytbodlaiakcoabaagreatdoor", sum := "72ffaa991437484249cd843379ea8c362be878c1de8b3c76700d0811a70520e5", func := "thole/tholelaw11.ReplayLast", spec := "replayLast", inPlace := ["internal/reflectlite.ValueOf", "(internal/reflectlite.Value).Type", "(internal/reflectlite.Value).IsNil", "internal/reflectlite.TypeOf", "(internal/reflectlite.Value).Elem", "(internal/reflectlite.Value).Set"], unfollowed := true, recurses := true, named := ["errors.errorType"], apart := false, laid := [("errors.errorType", laid_errors_errorType)] }
def ReplayLastSaid : Prop := replayLastRow.holds Tryz.pinned (OpenSpec.ofChange replayLastSpec)

/-- ITS FALSE NEIGHBOUR: 'it returns false'. Refute it at one input. -/
def replayLastWrong : ChangeSpec := { name := "replayLast", fn := fun _ => fun
  | [d1, d2, d3] => { results := [.lit (.bool false)], args := [d1, d2, d3] }
  | _ => none }
def ReplayLastWrongFalsely : Prop := replayLastRow.holds Tryz.pinned (OpenSpec.ofChange replayLastWrong)

/-- 'tholelaw11.ReplayBreaks': WHATEVER THE INPUT: true; the input reads as it did. -/
def replayBreaksSpec : ChangeSpec := { name := "replayBreaks", fn := fun _ => fun
  | [d1, d2, d3] => { results := [.lit (.bool true)], args := [d1, d2, d3] }
  | _ => none }
def replayBreaksRow : OpenClaim := { program := "ytbodlaiakcoabaagreatdoor", sum := "72ffaa991437484249cd843379ea8c362be878c1de8b3c76700d0811a70520e5", func := "thole/tholelaw11.ReplayBreaks", spec := "replayBreaks", inPlace := ["internal/reflectlite.ValueOf", "(internal/reflectlite.Value).Type", "(internal/reflectlite.Value).IsNil", "internal/reflectlite.TypeOf", "(internal/reflectlite.Value).Elem", "(internal/reflectlite.Value).Set"], unfollowed := true, recurses := true, named := ["errors.errorType"], apart := false, laid := [("errors.errorType", laid_errors_errorType)] }
def ReplayBreaksSaid : Prop := replayBreaksRow.holds Tryz.pinned (OpenSpec.ofChange replayBreaksSpec)

/-- ITS FALSE NEIGHBOUR: 'it returns false'. Refute it at one input. -/
def replayBreaksWrong : ChangeSpec := { name := "replayBreaks", fn := fun _ => fun
  | [d1, d2, d3] => { results := [.lit (.bool false)], args := [d1, d2, d3] }
  | _ => none }
def ReplayBreaksWrongFalsely : Prop := replayBreaksRow.holds Tryz.pinned (OpenSpec.ofChange replayBreaksWrong)

/-- 'tholelaw11.ReplayBacks': WHATEVER THE INPUT: true; the input reads as it did. -/
def replayBacksSpec : ChangeSpec := { name := "replayBacks", fn := fun _ => fun
  | [d1, d2, d3] => { results := [.lit (.bool true)], args := [d1, d2, d3] }
  | _ => none }
def replayBacksRow : OpenClaim := { program := "ytbodlaiakcoabaagreatdoor", sum := "72ffaa991437484249cd843379ea8c362be878c1de8b3c76700d0811a70520e5", func := "thole/tholelaw11.ReplayBacks", spec := "replayBacks", inPlace := ["internal/reflectlite.ValueOf", "(internal/reflectlite.Value).Type", "(internal/reflectlite.Value).IsNil", "internal/reflectlite.TypeOf", "(internal/reflectlite.Value).Elem", "(internal/reflectlite.Value).Set"], unfollowed := true, recurses := true, named := ["errors.errorType"], apart := false, laid := [("errors.errorType", laid_errors_errorType)] }
def ReplayBacksSaid : Prop := replayBacksRow.holds Tryz.pinned (OpenSpec.ofChange replayBacksSpec)

/-- ITS FALSE NEIGHBOUR: 'it returns false'. Refute it at one input. -/
def replayBacksWrong : ChangeSpec := { name := "replayBacks", fn := fun _ => fun
  | [d1, d2, d3] => { results := [.lit (.bool false)], args := [d1, d2, d3] }
  | _ => none }
def ReplayBacksWrongFalsely : Prop := replayBacksRow.holds Tryz.pinned (OpenSpec.ofChange replayBacksWrong)

/-- 'tholelaw11.ReplayMoves': WHATEVER THE INPUT: true; the input reads as it did. -/
def replayMovesSpec : ChangeSpec := { name := "replayMoves", fn := fun _ => fun
  | [d1, d2, d3] => { results := [.lit (.bool true)], args := [d1, d2, d3] }
  | _ => none }
def replayMovesRow : OpenClaim := { program := "ytbodlaiakcoabaagreatdoor", sum := "72ffaa991437484249cd843379ea8c362be878c1de8b3c76700d0811a70520e5", func := "thole/tholelaw11.ReplayMoves", spec := "replayMoves", inPlace := ["internal/reflectlite.ValueOf", "(internal/reflectlite.Value).Type", "(internal/reflectlite.Value).IsNil", "internal/reflectlite.TypeOf", "(internal/reflectlite.Value).Elem", "(internal/reflectlite.Value).Set"], unfollowed := true, recurses := true, named := ["errors.errorType"], apart := false, laid := [("errors.errorType", laid_errors_errorType)] }
def ReplayMovesSaid : Prop := replayMovesRow.holds Tryz.pinned (OpenSpec.ofChange replayMovesSpec)

/-- ITS FALSE NEIGHBOUR: 'it returns false'. Refute it at one input. -/
def replayMovesWrong : ChangeSpec := { name := "replayMoves", fn := fun _ => fun
  | [d1, d2, d3] => { results := [.lit (.bool false)], args := [d1, d2, d3] }
  | _ => none }
def ReplayMovesWrongFalsely : Prop := replayMovesRow.holds Tryz.pinned (OpenSpec.ofChange replayMovesWrong)

/-- 'tholelaw11.ReplayEnds': WHATEVER THE INPUT: true; the input reads as it did. -/
def replayEndsSpec : ChangeSpec := { name := "replayEnds", fn := fun _ => fun
  | [d1, d2, d3] => { results := [.lit (.bool true)], args := [d1, d2, d3] }
  | _ => none }
def replayEndsRow : OpenClaim := { program := "ytbodlaiakcoabaagreatdoor", sum := "72ffaa991437484249cd843379ea8c362be878c1de8b3c76700d0811a70520e5", func := "thole/tholelaw11.ReplayEnds", spec := "replayEnds", inPlace := ["internal/reflectlite.ValueOf", "(internal/reflectlite.Value).Type", "(internal/reflectlite.Value).IsNil", "internal/reflectlite.TypeOf", "(internal/reflectlite.Value).Elem", "(internal/reflectlite.Value).Set"], unfollowed := true, recurses := true, named := ["errors.errorType"], apart := false, laid := [("errors.errorType", laid_errors_errorType)] }
def ReplayEndsSaid : Prop := replayEndsRow.holds Tryz.pinned (OpenSpec.ofChange replayEndsSpec)

/-- ITS FALSE NEIGHBOUR: 'it returns false'. Refute it at one input. -/
def replayEndsWrong : ChangeSpec := { name := "replayEnds", fn := fun _ => fun
  | [d1, d2, d3] => { results := [.lit (.bool false)], args := [d1, d2, d3] }
  | _ => none }
def ReplayEndsWrongFalsely : Prop := replayEndsRow.holds Tryz.pinned (OpenSpec.ofChange replayEndsWrong)

/- THE SECOND FORM. 'bulk': how many values and letters a reading holds, each counted each time it is reached (what is shared counts as often as it is met; a slice's spare places count too). A statement '..UptoSaid' is the law's where the arguments, and the package variables that the reading takes, are together of bulk at most 1048576: NARROWER than '..Said'. Prove '..Said' where nothing that the law and all that it calls make is longer than what came in: it says more and counts as full. Else prove '..UptoSaid'. A law counts once. -/
mutual
def uptoBulk {H : Type} : DataW H → Nat
  | .lit (.string bytes) => bytes.length + 1
  | .lit _ => 1
  | .nil => 1
  | .ptr d => uptoBulk d + 1
  | .slice elems spare => uptoBulkAll elems + uptoBulkAll spare + 1
  | .agg parts => uptoBulkAll parts + 1
  | .iface _ d => uptoBulk d + 1
  | .map entries => uptoBulkEntries entries + 1
  | .held _ => 1
def uptoBulkAll {H : Type} : List (DataW H) → Nat
  | [] => 0
  | d :: r => uptoBulk d + uptoBulkAll r
def uptoBulkEntries {H : Type} : List (Lit × DataW H) → Nat
  | [] => 0
  | x :: r => uptoBulkEntry x + uptoBulkEntries r
def uptoBulkEntry {H : Type} : Lit × DataW H → Nat
  | (.string bytes, d) => bytes.length + uptoBulk d + 1
  | (_, d) => uptoBulk d + 1
 end
def uptoSmall : (H : Type) → List (DataW H) → Bool := fun _ ds => decide (uptoBulkAll ds ≤ 1048576)
def OpenSpec.upto (s : _root_.Go.ChangeSpec) : _root_.Go.OpenSpec := { _root_.Go.OpenSpec.ofChange s with cond := some uptoSmall }

/-- 'tholelaw11.ReplayBegins', WHERE WHAT IT READS IS OF BULK AT MOST 1048576: true; the input reads as it did. -/
def replayBeginsUptoRow : OpenClaim := { program := "ytbodlaiakcoabaagreatdoor", sum := "72ffaa991437484249cd843379ea8c362be878c1de8b3c76700d0811a70520e5", func := "thole/tholelaw11.ReplayBegins", spec := "replayBegins", inPlace := ["internal/reflectlite.ValueOf", "(internal/reflectlite.Value).Type", "(internal/reflectlite.Value).IsNil", "internal/reflectlite.TypeOf", "(internal/reflectlite.Value).Elem", "(internal/reflectlite.Value).Set"], unfollowed := true, recurses := true, named := ["errors.errorType"], apart := false, laid := [("errors.errorType", laid_errors_errorType)], narrowed := true }
def ReplayBeginsUptoSaid : Prop := replayBeginsUptoRow.holds Tryz.pinned (OpenSpec.upto replayBeginsSpec)

/-- 'tholelaw11.ReplayLast', WHERE WHAT IT READS IS OF BULK AT MOST 1048576: true; the input reads as it did. -/
def replayLastUptoRow : OpenClaim := { program := "ytbodlaiakcoabaagreatdoor", sum := "72ffaa991437484249cd843379ea8c362be878c1de8b3c76700d0811a70520e5", func := "thole/tholelaw11.ReplayLast", spec := "replayLast", inPlace := ["internal/reflectlite.ValueOf", "(internal/reflectlite.Value).Type", "(internal/reflectlite.Value).IsNil", "internal/reflectlite.TypeOf", "(internal/reflectlite.Value).Elem", "(internal/reflectlite.Value).Set"], unfollowed := true, recurses := true, named := ["errors.errorType"], apart := false, laid := [("errors.errorType", laid_errors_errorType)], narrowed := true }
def ReplayLastUptoSaid : Prop := replayLastUptoRow.holds Tryz.pinned (OpenSpec.upto replayLastSpec)

/-- 'tholelaw11.ReplayBreaks', WHERE WHAT IT READS IS OF BULK AT MOST 1048576: true; the input reads as it did. -/
def replayBreaksUptoRow : OpenClaim := { program := "ytbodlaiakcoabaagreatdoor", sum := "72ffaa991437484249cd843379ea8c362be878c1de8b3c76700d0811a70520e5", func := "thole/tholelaw11.ReplayBreaks", spec := "replayBreaks", inPlace := ["internal/reflectlite.ValueOf", "(internal/reflectlite.Value).Type", "(internal/reflectlite.Value).IsNil", "internal/reflectlite.TypeOf", "(internal/reflectlite.Value).Elem", "(internal/reflectlite.Value).Set"], unfollowed := true, recurses := true, named := ["errors.errorType"], apart := false, laid := [("errors.errorType", laid_errors_errorType)], narrowed := true }
def ReplayBreaksUptoSaid : Prop := replayBreaksUptoRow.holds Tryz.pinned (OpenSpec.upto replayBreaksSpec)

/-- 'tholelaw11.ReplayBacks', WHERE WHAT IT READS IS OF BULK AT MOST 1048576: true; the input reads as it did. -/
def replayBacksUptoRow : OpenClaim := { program := "ytbodlaiakcoabaagreatdoor", sum := "72ffaa991437484249cd843379ea8c362be878c1de8b3c76700d0811a70520e5", func := "thole/tholelaw11.ReplayBacks", spec := "replayBacks", inPlace := ["internal/reflectlite.ValueOf", "(internal/reflectlite.Value).Type", "(internal/reflectlite.Value).IsNil", "internal/reflectlite.TypeOf", "(internal/reflectlite.Value).Elem", "(internal/reflectlite.Value).Set"], unfollowed := true, recurses := true, named := ["errors.errorType"], apart := false, laid := [("errors.errorType", laid_errors_errorType)], narrowed := true }
def ReplayBacksUptoSaid : Prop := replayBacksUptoRow.holds Tryz.pinned (OpenSpec.upto replayBacksSpec)

/-- 'tholelaw11.ReplayMoves', WHERE WHAT IT READS IS OF BULK AT MOST 1048576: true; the input reads as it did. -/
def replayMovesUptoRow : OpenClaim := { program := "ytbodlaiakcoabaagreatdoor", sum := "72ffaa991437484249cd843379ea8c362be878c1de8b3c76700d0811a70520e5", func := "thole/tholelaw11.ReplayMoves", spec := "replayMoves", inPlace := ["internal/reflectlite.ValueOf", "(internal/reflectlite.Value).Type", "(internal/reflectlite.Value).IsNil", "internal/reflectlite.TypeOf", "(internal/reflectlite.Value).Elem", "(internal/reflectlite.Value).Set"], unfollowed := true, recurses := true, named := ["errors.errorType"], apart := false, laid := [("errors.errorType", laid_errors_errorType)], narrowed := true }
def ReplayMovesUptoSaid : Prop := replayMovesUptoRow.holds Tryz.pinned (OpenSpec.upto replayMovesSpec)

/-- 'tholelaw11.ReplayEnds', WHERE WHAT IT READS IS OF BULK AT MOST 1048576: true; the input reads as it did. -/
def replayEndsUptoRow : OpenClaim := { program := "ytbodlaiakcoabaagreatdoor", sum := "72ffaa991437484249cd843379ea8c362be878c1de8b3c76700d0811a70520e5", func := "thole/tholelaw11.ReplayEnds", spec := "replayEnds", inPlace := ["internal/reflectlite.ValueOf", "(internal/reflectlite.Value).Type", "(internal/reflectlite.Value).IsNil", "internal/reflectlite.TypeOf", "(internal/reflectlite.Value).Elem", "(internal/reflectlite.Value).Set"], unfollowed := true, recurses := true, named := ["errors.errorType"], apart := false, laid := [("errors.errorType", laid_errors_errorType)], narrowed := true }
def ReplayEndsUptoSaid : Prop := replayEndsUptoRow.holds Tryz.pinned (OpenSpec.upto replayEndsSpec)

end Rows
end Go.Proofs.YtbodlaiakcoabaaGreatDoor
