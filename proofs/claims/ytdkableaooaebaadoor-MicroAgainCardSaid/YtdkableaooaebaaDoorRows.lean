/-
  NARROWER THAN 'FOR EVERY INPUT', by the rows' own cells (each row's printed sentence says how): MicroOne: laid · MicroRefuses: laid · MicroAgain: laid · MicroLoads: laid.
  DERIVED. THE GIVEN ROWS OF THIS SEAT. 4 by the template 'for every input the law returns true; each argument reads behind the call as it read before'; 0 by the template 'total and deterministic' (their statements: YtdkableaooaebaaDoorTotals.lean).
  GIVEN WITH THE SEED: the statements are not yours to turn. If you find one false, say at which input.
  Laid BY PROGRAM, IN A SANDBOX (cutbox-rows.mjs): the forced cells as the released guide's own fill.sh prints them over the translation d80c9171a57606c3… (all of the seat's roots in one cut). By AI agents, Wed Nov 11 2026. No macro, syntax, notation, axiom, sorry.
-/
import Derived.Test.YtdkableaooaebaaDoorChecked
import GoSem.Claim
import GoSem.ClaimJoined
import GoSem.ClaimMapViews
import Derived.JoinedTies
import Derived.KernelRfl
namespace Go.Proofs.YtdkableaooaebaaDoor
/- THE CELL 'sum', in the pinned program and in every row, IS THE sha256 OF THE DUMP (.gsa) THAT YtdkableaooaebaaDoorProg.lean LOADS. Nothing in Lean hashes anything: it is a label: what it is worth is what the hold of that sum in a sandbox is worth. -/
noncomputable def Tryd.pinned : Pinned := { name := "ytdkableaooaebaadoor", sum := "d80c9171a57606c328bf8efc9f187b332e3b3fe0d49ee7dd6aa2238cdde9e9cc", checked := Tryd.checked }
namespace Rows
def none {H : Type} : Left H := { results := [], args := [] }

/- WHAT THE LISTED PACKAGE-LEVEL VARIABLES READ AS WHEN THE CALL BEGINS. Each datum BY PROGRAM (the guide's laid-datum.mjs) off the statement by which the dump's own 'gosem.cut.vars' lays the variable. In a bare row this is a premise. The card (YtdkableaooaebaaDoorCards.lean) ties it to the program's text. -/
def laid_thole_ins_shapes {H : Type} : DataW H := .agg [.agg [.lit (.string []), .lit (.string []), .lit (.int .i64 0)], .agg [.lit (.string [115, 101, 116]), .lit (.string [65, 78]), .lit (.int .i64 0)], .agg [.lit (.string [109, 111, 118]), .lit (.string [65, 66]), .lit (.int .i64 0)], .agg [.lit (.string [97, 100, 100]), .lit (.string [65, 66, 67]), .lit (.int .i64 0)], .agg [.lit (.string [97, 100, 100, 105]), .lit (.string [65, 66, 78]), .lit (.int .i64 0)], .agg [.lit (.string [108, 100]), .lit (.string [65, 66, 78]), .lit (.int .i64 0)], .agg [.lit (.string [115, 116]), .lit (.string [65, 66, 78]), .lit (.int .i64 0)], .agg [.lit (.string [99, 97, 115]), .lit (.string [65, 66, 78]), .lit (.int .i64 2)], .agg [.lit (.string [106, 109, 112]), .lit (.string [84]), .lit (.int .i64 0)], .agg [.lit (.string [106, 101, 113]), .lit (.string [65, 66, 84]), .lit (.int .i64 0)], .agg [.lit (.string [106, 110, 101]), .lit (.string [65, 66, 84]), .lit (.int .i64 0)], .agg [.lit (.string [106, 108, 116]), .lit (.string [65, 66, 84]), .lit (.int .i64 0)], .agg [.lit (.string [99, 97, 108, 108]), .lit (.string [84]), .lit (.int .i64 0)], .agg [.lit (.string [114, 101, 116]), .lit (.string []), .lit (.int .i64 0)], .agg [.lit (.string [112, 97, 114, 107]), .lit (.string [65]), .lit (.int .i64 0)], .agg [.lit (.string [117, 110, 112, 97, 114, 107]), .lit (.string [65]), .lit (.int .i64 0)], .agg [.lit (.string [97, 108, 108, 111, 99]), .lit (.string [65, 78]), .lit (.int .i64 0)], .agg [.lit (.string [115, 101, 108, 102]), .lit (.string [65]), .lit (.int .i64 0)], .agg [.lit (.string [110, 111, 119]), .lit (.string [65]), .lit (.int .i64 0)], .agg [.lit (.string [105, 110, 116, 114]), .lit (.string [65]), .lit (.int .i64 0)], .agg [.lit (.string [115, 101, 116, 105, 110, 116]), .lit (.string []), .lit (.int .i64 0)], .agg [.lit (.string [109, 97, 114, 107]), .lit (.string [78, 65]), .lit (.int .i64 0)], .agg [.lit (.string [100, 111, 110, 101]), .lit (.string [65]), .lit (.int .i64 0)]]

/-- 'tholelaw09.MicroOne': WHATEVER THE INPUT: true; the input reads as it did. -/
def microOneSpec : ChangeSpec := { name := "microOne", fn := fun _ => fun
  | [d1, d2, d3, d4, d5] => { results := [.lit (.bool true)], args := [d1, d2, d3, d4, d5] }
  | _ => none }
def microOneRow : OpenClaim := { program := "ytdkableaooaebaadoor", sum := "d80c9171a57606c328bf8efc9f187b332e3b3fe0d49ee7dd6aa2238cdde9e9cc", func := "thole/tholelaw09.MicroOne", spec := "microOne", inPlace := ["internal/bytealg.IndexByteString"], named := ["thole/ins.shapes"], apart := false, laid := [("thole/ins.shapes", laid_thole_ins_shapes)] }
def MicroOneSaid : Prop := microOneRow.holds Tryd.pinned (OpenSpec.ofChange microOneSpec)

/-- ITS FALSE NEIGHBOUR: 'it returns false'. Refute it at one input. -/
def microOneWrong : ChangeSpec := { name := "microOne", fn := fun _ => fun
  | [d1, d2, d3, d4, d5] => { results := [.lit (.bool false)], args := [d1, d2, d3, d4, d5] }
  | _ => none }
def MicroOneWrongFalsely : Prop := microOneRow.holds Tryd.pinned (OpenSpec.ofChange microOneWrong)

/-- 'tholelaw09.MicroRefuses': WHATEVER THE INPUT: true; the input reads as it did. -/
def microRefusesSpec : ChangeSpec := { name := "microRefuses", fn := fun _ => fun
  | [d1, d2, d3, d4] => { results := [.lit (.bool true)], args := [d1, d2, d3, d4] }
  | _ => none }
def microRefusesRow : OpenClaim := { program := "ytdkableaooaebaadoor", sum := "d80c9171a57606c328bf8efc9f187b332e3b3fe0d49ee7dd6aa2238cdde9e9cc", func := "thole/tholelaw09.MicroRefuses", spec := "microRefuses", inPlace := ["internal/bytealg.IndexByteString"], named := ["thole/ins.shapes"], apart := false, laid := [("thole/ins.shapes", laid_thole_ins_shapes)] }
def MicroRefusesSaid : Prop := microRefusesRow.holds Tryd.pinned (OpenSpec.ofChange microRefusesSpec)

/-- ITS FALSE NEIGHBOUR: 'it returns false'. Refute it at one input. -/
def microRefusesWrong : ChangeSpec := { name := "microRefuses", fn := fun _ => fun
  | [d1, d2, d3, d4] => { results := [.lit (.bool false)], args := [d1, d2, d3, d4] }
  | _ => none }
def MicroRefusesWrongFalsely : Prop := microRefusesRow.holds Tryd.pinned (OpenSpec.ofChange microRefusesWrong)

/-- 'tholelaw09.MicroAgain': WHATEVER THE INPUT: true; the input reads as it did. -/
def microAgainSpec : ChangeSpec := { name := "microAgain", fn := fun _ => fun
  | [d1, d2, d3, d4] => { results := [.lit (.bool true)], args := [d1, d2, d3, d4] }
  | _ => none }
def microAgainRow : OpenClaim := { program := "ytdkableaooaebaadoor", sum := "d80c9171a57606c328bf8efc9f187b332e3b3fe0d49ee7dd6aa2238cdde9e9cc", func := "thole/tholelaw09.MicroAgain", spec := "microAgain", inPlace := ["internal/bytealg.IndexByteString"], named := ["thole/ins.shapes"], apart := false, laid := [("thole/ins.shapes", laid_thole_ins_shapes)] }
def MicroAgainSaid : Prop := microAgainRow.holds Tryd.pinned (OpenSpec.ofChange microAgainSpec)

/-- ITS FALSE NEIGHBOUR: 'it returns false'. Refute it at one input. -/
def microAgainWrong : ChangeSpec := { name := "microAgain", fn := fun _ => fun
  | [d1, d2, d3, d4] => { results := [.lit (.bool false)], args := [d1, d2, d3, d4] }
  | _ => none }
def MicroAgainWrongFalsely : Prop := microAgainRow.holds Tryd.pinned (OpenSpec.ofChange microAgainWrong)

/-- 'tholelaw09.MicroLoads': WHATEVER THE INPUT: true; the input reads as it did. -/
def microLoadsSpec : ChangeSpec := { name := "microLoads", fn := fun _ => fun
  | [d1, d2] => { results := [.lit (.bool true)], args := [d1, d2] }
  | _ => none }
def microLoadsRow : OpenClaim := { program := "ytdkableaooaebaadoor", sum := "d80c9171a57606c328bf8efc9f187b332e3b3fe0d49ee7dd6aa2238cdde9e9cc", func := "thole/tholelaw09.MicroLoads", spec := "microLoads", inPlace := ["internal/bytealg.IndexByteString"], named := ["thole/ins.shapes"], apart := false, laid := [("thole/ins.shapes", laid_thole_ins_shapes)] }
def MicroLoadsSaid : Prop := microLoadsRow.holds Tryd.pinned (OpenSpec.ofChange microLoadsSpec)

/-- ITS FALSE NEIGHBOUR: 'it returns false'. Refute it at one input. -/
def microLoadsWrong : ChangeSpec := { name := "microLoads", fn := fun _ => fun
  | [d1, d2] => { results := [.lit (.bool false)], args := [d1, d2] }
  | _ => none }
def MicroLoadsWrongFalsely : Prop := microLoadsRow.holds Tryd.pinned (OpenSpec.ofChange microLoadsWrong)

/- THE SECOND FORM. 'bulk': how many values and letters a reading holds, each counted each time it is reached (what is shared counts as often as it is met; a slice's spare places count too). A statement '..UptoSaid' is the law's where the arguments, and the package variables that the reading takes, are together of bulk at most 1048576: NARROWER than '..Said'. Prove '..Said' where nothing that the law and all that it calls make is longer than what came in: it says more and counts as full. Else prove '..UptoSaid'. A law counts once. -/
mutual
def uptoBulk {H : Type} : DataW H → Nat
  | .lit (.string bytes) => bytes.length + 1
  | .lit _ => 1
  | .nil => 1
  | .ptr d => uptoBulk d + 1
  | .slice elems spare => uptoBulkAll elems + uptoBulkAll spare + 1
  | .agg parts => uptoBulkAll parts + 1
  | .iface _ d => uptoBulk d + 1
  | .map entries => uptoBulkEntries entries + 1
  | .held _ => 1
def uptoBulkAll {H : Type} : List (DataW H) → Nat
  | [] => 0
  | d :: r => uptoBulk d + uptoBulkAll r
def uptoBulkEntries {H : Type} : List (Lit × DataW H) → Nat
  | [] => 0
  | x :: r => uptoBulkEntry x + uptoBulkEntries r
def uptoBulkEntry {H : Type} : Lit × DataW H → Nat
  | (.string bytes, d) => bytes.length + uptoBulk d + 1
  | (_, d) => uptoBulk d + 1
 end
def uptoSmall : (H : Type) → List (DataW H) → Bool := fun _ ds => decide (uptoBulkAll ds ≤ 1048576)
def OpenSpec.upto (s : _root_.Go.ChangeSpec) : _root_.Go.OpenSpec := { _root_.Go.OpenSpec.ofChange s with cond := some uptoSmall }

/-- 'tholelaw09.MicroOne', WHERE WHAT IT READS IS OF BULK AT MOST 1048576: true; the input reads as it did. -/
def microOneUptoRow : OpenClaim := { program := "ytdkableaooaebaadoor", sum := "d80c9171a57606c328bf8efc9f187b332e3b3fe0d49ee7dd6aa2238cdde9e9cc", func := "thole/tholelaw09.MicroOne", spec := "microOne", inPlace := ["internal/bytealg.IndexByteString"], named := ["thole/ins.shapes"], apart := false, laid := [("thole/ins.shapes", laid_thole_ins_shapes)], narrowed := true }
def MicroOneUptoSaid : Prop := microOneUptoRow.holds Tryd.pinned (OpenSpec.upto microOneSpec)

/-- 'tholelaw09.MicroRefuses', WHERE WHAT IT READS IS OF BULK AT MOST 1048576: true; the input reads as it did. -/
def microRefusesUptoRow : OpenClaim := { program := "ytdkableaooaebaadoor", sum := "d80c9171a57606c328bf8efc9f187b332e3b3fe0d49ee7dd6aa2238cdde9e9cc", func := "thole/tholelaw09.MicroRefuses", spec := "microRefuses", inPlace := ["internal/bytealg.IndexByteString"], named := ["thole/ins.shapes"], apart := false, laid := [("thole/ins.shapes", laid_thole_ins_shapes)], narrowed := true }
def MicroRefusesUptoSaid : Prop := microRefusesUptoRow.holds Tryd.pinned (OpenSpec.upto microRefusesSpec)

/-- 'tholelaw09.MicroAgain', WHERE WHAT IT READS IS OF BULK AT MOST 1048576: true; the input reads as it did. -/
def microAgainUptoRow : OpenClaim := { program := "ytdkableaooaebaadoor", sum := "d80c9171a57606c328bf8efc9f187b332e3b3fe0d49ee7dd6aa2238cdde9e9cc", func := "thole/tholelaw09.MicroAgain", spec := "microAgain", inPlace := ["internal/bytealg.IndexByteString"], named := ["thole/ins.shapes"], apart := false, laid := [("thole/ins.shapes", laid_thole_ins_shapes)], narrowed := true }
def MicroAgainUptoSaid : Prop := microAgainUptoRow.holds Tryd.pinned (OpenSpec.upto microAgainSpec)

/-- 'tholelaw09.MicroLoads', WHERE WHAT IT READS IS OF BULK AT MOST 1048576: true; the input reads as it did. -/
def microLoadsUptoRow : OpenClaim := { program := "ytdkableaooaebaadoor", sum := "d80c9171a57606c328bf8efc9f187b332e3b3fe0d49ee7dd6aa2238cdde9e9cc", func := "thole/tholelaw09.MicroLoads", spec := "microLoads", inPlace := ["internal/bytealg.IndexByteString"], named := ["thole/ins.shapes"], apart := false, laid := [("thole/ins.shapes", laid_thole_ins_shapes)], narrowed := true }
def MicroLoadsUptoSaid : Prop := microLoadsUptoRow.holds Tryd.pinned (OpenSpec.upto microLoadsSpec)

end Rows
end Go.Proofs.YtdkableaooaebaaDoor
