/-
  No cell of these rows narrows 'for every input' (looked for: loops, veiled, ifaces, maps, wideKeys, modest, calm, conditions, laid).
  DERIVED. THE GIVEN ROWS OF THIS SEAT. 4 by the template 'for every input the law returns true; each argument reads behind the call as it read before'; 0 by the template 'total and deterministic' (their statements: YtdphbigkgdeecaaTotals.lean).
  GIVEN WITH THE SEED: the statements are not yours to turn. If you find one false, say at which input.
  Laid BY PROGRAM, IN A SANDBOX (cutbox-rows.mjs): the forced cells as the released guide's own fill.sh prints them over the translation 546304a66471702c… (all of the seat's roots in one cut). By AI agents, Wed Nov 11 2026. No macro, syntax, notation, axiom, sorry.
-/
import Derived.Test.YtdphbigkgdeecaaChecked
import GoSem.Claim
import GoSem.ClaimJoined
import GoSem.ClaimMapViews
import Derived.JoinedTies
import Derived.KernelRfl
namespace Go.Proofs.Ytdphbigkgdeecaa
/- THE CELL 'sum', in the pinned program and in every row, IS THE sha256 OF THE DUMP (.gsa) THAT YtdphbigkgdeecaaProg.lean LOADS. Nothing in Lean hashes anything: it is a label: what it is worth is what the hold of that sum in a sandbox is worth. -/
noncomputable def Try.pinned : Pinned := { name := "ytdphbigkgdeecaa", sum := "546304a66471702c39e56b229b0a871faf26d6f3a131f2a3c7ce0c6fbf18005a", checked := Try.checked }
namespace Rows
def none {H : Type} : Left H := { results := [], args := [] }

/-- 'tholelaw03.PermitPlays': WHATEVER THE INPUT: true; the input reads as it did. -/
def permitPlaysSpec : ChangeSpec := { name := "permitPlays", fn := fun _ => fun
  | [d1, d2] => { results := [.lit (.bool true)], args := [d1, d2] }
  | _ => none }
def permitPlaysRow : OpenClaim := { program := "ytdphbigkgdeecaa", sum := "546304a66471702c39e56b229b0a871faf26d6f3a131f2a3c7ce0c6fbf18005a", func := "thole/tholelaw03.PermitPlays", spec := "permitPlays", apart := false }
def PermitPlaysSaid : Prop := permitPlaysRow.holds Try.pinned (OpenSpec.ofChange permitPlaysSpec)

/-- ITS FALSE NEIGHBOUR: 'it returns false'. Refute it at one input. -/
def permitPlaysWrong : ChangeSpec := { name := "permitPlays", fn := fun _ => fun
  | [d1, d2] => { results := [.lit (.bool false)], args := [d1, d2] }
  | _ => none }
def PermitPlaysWrongFalsely : Prop := permitPlaysRow.holds Try.pinned (OpenSpec.ofChange permitPlaysWrong)

/-- 'tholelaw03.PermitBlocked': WHATEVER THE INPUT: true; the input reads as it did. -/
def permitBlockedSpec : ChangeSpec := { name := "permitBlocked", fn := fun _ => fun
  | [d1, d2] => { results := [.lit (.bool true)], args := [d1, d2] }
  | _ => none }
def permitBlockedRow : OpenClaim := { program := "ytdphbigkgdeecaa", sum := "546304a66471702c39e56b229b0a871faf26d6f3a131f2a3c7ce0c6fbf18005a", func := "thole/tholelaw03.PermitBlocked", spec := "permitBlocked", apart := false }
def PermitBlockedSaid : Prop := permitBlockedRow.holds Try.pinned (OpenSpec.ofChange permitBlockedSpec)

/-- ITS FALSE NEIGHBOUR: 'it returns false'. Refute it at one input. -/
def permitBlockedWrong : ChangeSpec := { name := "permitBlocked", fn := fun _ => fun
  | [d1, d2] => { results := [.lit (.bool false)], args := [d1, d2] }
  | _ => none }
def PermitBlockedWrongFalsely : Prop := permitBlockedRow.holds Try.pinned (OpenSpec.ofChange permitBlockedWrong)

/-- 'tholelaw03.PermitNext': WHATEVER THE INPUT: true; the input reads as it did. -/
def permitNextSpec : ChangeSpec := { name := "permitNext", fn := fun _ => fun
  | [d1, d2] => { results := [.lit (.bool true)], args := [d1, d2] }
  | _ => none }
def permitNextRow : OpenClaim := { program := "ytdphbigkgdeecaa", sum := "546304a66471702c39e56b229b0a871faf26d6f3a131f2a3c7ce0c6fbf18005a", func := "thole/tholelaw03.PermitNext", spec := "permitNext", apart := false }
def PermitNextSaid : Prop := permitNextRow.holds Try.pinned (OpenSpec.ofChange permitNextSpec)

/-- ITS FALSE NEIGHBOUR: 'it returns false'. Refute it at one input. -/
def permitNextWrong : ChangeSpec := { name := "permitNext", fn := fun _ => fun
  | [d1, d2] => { results := [.lit (.bool false)], args := [d1, d2] }
  | _ => none }
def PermitNextWrongFalsely : Prop := permitNextRow.holds Try.pinned (OpenSpec.ofChange permitNextWrong)

/-- 'tholelaw03.PermitTwin': WHATEVER THE INPUT: true; the input reads as it did. -/
def permitTwinSpec : ChangeSpec := { name := "permitTwin", fn := fun _ => fun
  | [d1, d2, d3] => { results := [.lit (.bool true)], args := [d1, d2, d3] }
  | _ => none }
def permitTwinRow : OpenClaim := { program := "ytdphbigkgdeecaa", sum := "546304a66471702c39e56b229b0a871faf26d6f3a131f2a3c7ce0c6fbf18005a", func := "thole/tholelaw03.PermitTwin", spec := "permitTwin", apart := false }
def PermitTwinSaid : Prop := permitTwinRow.holds Try.pinned (OpenSpec.ofChange permitTwinSpec)

/-- ITS FALSE NEIGHBOUR: 'it returns false'. Refute it at one input. -/
def permitTwinWrong : ChangeSpec := { name := "permitTwin", fn := fun _ => fun
  | [d1, d2, d3] => { results := [.lit (.bool false)], args := [d1, d2, d3] }
  | _ => none }
def PermitTwinWrongFalsely : Prop := permitTwinRow.holds Try.pinned (OpenSpec.ofChange permitTwinWrong)

/- THE SECOND FORM. 'bulk': how many values and letters a reading holds, each counted each time it is reached (what is shared counts as often as it is met; a slice's spare places count too). A statement '..UptoSaid' is the law's where the arguments, and the package variables that the reading takes, are together of bulk at most 1048576: NARROWER than '..Said'. Prove '..Said' where nothing that the law and all that it calls make is longer than what came in: it says more and counts as full. Else prove '..UptoSaid'. A law counts once. -/
mutual
def uptoBulk {H : Type} : DataW H → Nat
  | .lit (.string bytes) => bytes.length + 1
  | .lit _ => 1
  | .nil => 1
  | .ptr d => uptoBulk d + 1
  | .slice elems spare => uptoBulkAll elems + uptoBulkAll spare + 1
  | .agg parts => uptoBulkAll parts + 1
  | .iface _ d => uptoBulk d + 1
  | .map entries => uptoBulkEntries entries + 1
  | .held _ => 1
def uptoBulkAll {H : Type} : List (DataW H) → Nat
  | [] => 0
  | d :: r => uptoBulk d + uptoBulkAll r
def uptoBulkEntries {H : Type} : List (Lit × DataW H) → Nat
  | [] => 0
  | x :: r => uptoBulkEntry x + uptoBulkEntries r
def uptoBulkEntry {H : Type} : Lit × DataW H → Nat
  | (.string bytes, d) => bytes.length + uptoBulk d + 1
  | (_, d) => uptoBulk d + 1
 end
def uptoSmall : (H : Type) → List (DataW H) → Bool := fun _ ds => decide (uptoBulkAll ds ≤ 1048576)
def OpenSpec.upto (s : _root_.Go.ChangeSpec) : _root_.Go.OpenSpec := { _root_.Go.OpenSpec.ofChange s with cond := some uptoSmall }

/-- 'tholelaw03.PermitPlays', WHERE WHAT IT READS IS OF BULK AT MOST 1048576: true; the input reads as it did. -/
def permitPlaysUptoRow : OpenClaim := { program := "ytdphbigkgdeecaa", sum := "546304a66471702c39e56b229b0a871faf26d6f3a131f2a3c7ce0c6fbf18005a", func := "thole/tholelaw03.PermitPlays", spec := "permitPlays", apart := false, narrowed := true }
def PermitPlaysUptoSaid : Prop := permitPlaysUptoRow.holds Try.pinned (OpenSpec.upto permitPlaysSpec)

/-- 'tholelaw03.PermitBlocked', WHERE WHAT IT READS IS OF BULK AT MOST 1048576: true; the input reads as it did. -/
def permitBlockedUptoRow : OpenClaim := { program := "ytdphbigkgdeecaa", sum := "546304a66471702c39e56b229b0a871faf26d6f3a131f2a3c7ce0c6fbf18005a", func := "thole/tholelaw03.PermitBlocked", spec := "permitBlocked", apart := false, narrowed := true }
def PermitBlockedUptoSaid : Prop := permitBlockedUptoRow.holds Try.pinned (OpenSpec.upto permitBlockedSpec)

/-- 'tholelaw03.PermitNext', WHERE WHAT IT READS IS OF BULK AT MOST 1048576: true; the input reads as it did. -/
def permitNextUptoRow : OpenClaim := { program := "ytdphbigkgdeecaa", sum := "546304a66471702c39e56b229b0a871faf26d6f3a131f2a3c7ce0c6fbf18005a", func := "thole/tholelaw03.PermitNext", spec := "permitNext", apart := false, narrowed := true }
def PermitNextUptoSaid : Prop := permitNextUptoRow.holds Try.pinned (OpenSpec.upto permitNextSpec)

/-- 'tholelaw03.PermitTwin', WHERE WHAT IT READS IS OF BULK AT MOST 1048576: true; the input reads as it did. -/
def permitTwinUptoRow : OpenClaim := { program := "ytdphbigkgdeecaa", sum := "546304a66471702c39e56b229b0a871faf26d6f3a131f2a3c7ce0c6fbf18005a", func := "thole/tholelaw03.PermitTwin", spec := "permitTwin", apart := false, narrowed := true }
def PermitTwinUptoSaid : Prop := permitTwinUptoRow.holds Try.pinned (OpenSpec.upto permitTwinSpec)

end Rows
end Go.Proofs.Ytdphbigkgdeecaa
