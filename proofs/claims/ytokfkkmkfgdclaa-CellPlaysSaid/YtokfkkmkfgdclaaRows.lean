/-
  No cell of these rows narrows 'for every input' (looked for: loops, veiled, ifaces, maps, wideKeys, modest, calm, conditions, laid).
  DERIVED. THE GIVEN ROWS OF THIS SEAT. 5 by the template 'for every input the law returns true; each argument reads behind the call as it read before'; 0 by the template 'total and deterministic' (their statements: YtokfkkmkfgdclaaTotals.lean).
  GIVEN WITH THE SEED: the statements are not yours to turn. If you find one false, say at which input.
  Laid BY PROGRAM, IN A SANDBOX (cutbox-rows.mjs): the forced cells as the released guide's own fill.sh prints them over the translation b62de4c41c1f7d3a… (all of the seat's roots in one cut). By AI agents, Wed Nov 11 2026. No macro, syntax, notation, axiom, sorry.
-/
import Derived.Test.YtokfkkmkfgdclaaChecked
import GoSem.Claim
import GoSem.ClaimJoined
import GoSem.ClaimMapViews
import Derived.JoinedTies
import Derived.KernelRfl
namespace Go.Proofs.Ytokfkkmkfgdclaa
/- THE CELL 'sum', in the pinned program and in every row, IS THE sha256 OF THE DUMP (.gsa) THAT YtokfkkmkfgdclaaProg.lean LOADS. Nothing in Lean hashes anything: it is a label: what it is worth is what the hold of that sum in a sandbox is worth. -/
noncomputable def Try.pinned : Pinned := { name := "ytokfkkmkfgdclaa", sum := "b62de4c41c1f7d3ad09c0c84334c1d7e94a137b9ff30231f5d9551d358bfb8ea", checked := Try.checked }
namespace Rows
def none {H : Type} : Left H := { results := [], args := [] }

/-- 'tholelaw01.CellNew': WHATEVER THE INPUT: true; the input reads as it did. -/
def cellNewSpec : ChangeSpec := { name := "cellNew", fn := fun _ => fun
  | [d] => { results := [.lit (.bool true)], args := [d] }
  | _ => none }
def cellNewRow : OpenClaim := { program := "ytokfkkmkfgdclaa", sum := "b62de4c41c1f7d3ad09c0c84334c1d7e94a137b9ff30231f5d9551d358bfb8ea", func := "thole/tholelaw01.CellNew", spec := "cellNew", apart := false }
def CellNewSaid : Prop := cellNewRow.holds Try.pinned (OpenSpec.ofChange cellNewSpec)

/-- ITS FALSE NEIGHBOUR: 'it returns false'. Refute it at one input. -/
def cellNewWrong : ChangeSpec := { name := "cellNew", fn := fun _ => fun
  | [d] => { results := [.lit (.bool false)], args := [d] }
  | _ => none }
def CellNewWrongFalsely : Prop := cellNewRow.holds Try.pinned (OpenSpec.ofChange cellNewWrong)

/-- 'tholelaw01.CellPlays': WHATEVER THE INPUT: true; the input reads as it did. -/
def cellPlaysSpec : ChangeSpec := { name := "cellPlays", fn := fun _ => fun
  | [d1, d2] => { results := [.lit (.bool true)], args := [d1, d2] }
  | _ => none }
def cellPlaysRow : OpenClaim := { program := "ytokfkkmkfgdclaa", sum := "b62de4c41c1f7d3ad09c0c84334c1d7e94a137b9ff30231f5d9551d358bfb8ea", func := "thole/tholelaw01.CellPlays", spec := "cellPlays", apart := false }
def CellPlaysSaid : Prop := cellPlaysRow.holds Try.pinned (OpenSpec.ofChange cellPlaysSpec)

/-- ITS FALSE NEIGHBOUR: 'it returns false'. Refute it at one input. -/
def cellPlaysWrong : ChangeSpec := { name := "cellPlays", fn := fun _ => fun
  | [d1, d2] => { results := [.lit (.bool false)], args := [d1, d2] }
  | _ => none }
def CellPlaysWrongFalsely : Prop := cellPlaysRow.holds Try.pinned (OpenSpec.ofChange cellPlaysWrong)

/-- 'tholelaw01.CellKeeps': WHATEVER THE INPUT: true; the input reads as it did. -/
def cellKeepsSpec : ChangeSpec := { name := "cellKeeps", fn := fun _ => fun
  | [d1, d2, d3, d4] => { results := [.lit (.bool true)], args := [d1, d2, d3, d4] }
  | _ => none }
def cellKeepsRow : OpenClaim := { program := "ytokfkkmkfgdclaa", sum := "b62de4c41c1f7d3ad09c0c84334c1d7e94a137b9ff30231f5d9551d358bfb8ea", func := "thole/tholelaw01.CellKeeps", spec := "cellKeeps", apart := false }
def CellKeepsSaid : Prop := cellKeepsRow.holds Try.pinned (OpenSpec.ofChange cellKeepsSpec)

/-- ITS FALSE NEIGHBOUR: 'it returns false'. Refute it at one input. -/
def cellKeepsWrong : ChangeSpec := { name := "cellKeeps", fn := fun _ => fun
  | [d1, d2, d3, d4] => { results := [.lit (.bool false)], args := [d1, d2, d3, d4] }
  | _ => none }
def CellKeepsWrongFalsely : Prop := cellKeepsRow.holds Try.pinned (OpenSpec.ofChange cellKeepsWrong)

/-- 'tholelaw01.CellNews': WHATEVER THE INPUT: true; the input reads as it did. -/
def cellNewsSpec : ChangeSpec := { name := "cellNews", fn := fun _ => fun
  | [d1, d2, d3] => { results := [.lit (.bool true)], args := [d1, d2, d3] }
  | _ => none }
def cellNewsRow : OpenClaim := { program := "ytokfkkmkfgdclaa", sum := "b62de4c41c1f7d3ad09c0c84334c1d7e94a137b9ff30231f5d9551d358bfb8ea", func := "thole/tholelaw01.CellNews", spec := "cellNews", apart := false }
def CellNewsSaid : Prop := cellNewsRow.holds Try.pinned (OpenSpec.ofChange cellNewsSpec)

/-- ITS FALSE NEIGHBOUR: 'it returns false'. Refute it at one input. -/
def cellNewsWrong : ChangeSpec := { name := "cellNews", fn := fun _ => fun
  | [d1, d2, d3] => { results := [.lit (.bool false)], args := [d1, d2, d3] }
  | _ => none }
def CellNewsWrongFalsely : Prop := cellNewsRow.holds Try.pinned (OpenSpec.ofChange cellNewsWrong)

/-- 'tholelaw01.CellTwin': WHATEVER THE INPUT: true; the input reads as it did. -/
def cellTwinSpec : ChangeSpec := { name := "cellTwin", fn := fun _ => fun
  | [d1, d2, d3] => { results := [.lit (.bool true)], args := [d1, d2, d3] }
  | _ => none }
def cellTwinRow : OpenClaim := { program := "ytokfkkmkfgdclaa", sum := "b62de4c41c1f7d3ad09c0c84334c1d7e94a137b9ff30231f5d9551d358bfb8ea", func := "thole/tholelaw01.CellTwin", spec := "cellTwin", apart := false }
def CellTwinSaid : Prop := cellTwinRow.holds Try.pinned (OpenSpec.ofChange cellTwinSpec)

/-- ITS FALSE NEIGHBOUR: 'it returns false'. Refute it at one input. -/
def cellTwinWrong : ChangeSpec := { name := "cellTwin", fn := fun _ => fun
  | [d1, d2, d3] => { results := [.lit (.bool false)], args := [d1, d2, d3] }
  | _ => none }
def CellTwinWrongFalsely : Prop := cellTwinRow.holds Try.pinned (OpenSpec.ofChange cellTwinWrong)

/- THE SECOND FORM. 'bulk': how many values and letters a reading holds, each counted each time it is reached (what is shared counts as often as it is met; a slice's spare places count too). A statement '..UptoSaid' is the law's where the arguments, and the package variables that the reading takes, are together of bulk at most 1048576: NARROWER than '..Said'. Prove '..Said' where nothing that the law and all that it calls make is longer than what came in: it says more and counts as full. Else prove '..UptoSaid'. A law counts once. -/
mutual
def uptoBulk {H : Type} : DataW H → Nat
  | .lit (.string bytes) => bytes.length + 1
  | .lit _ => 1
  | .nil => 1
  | .ptr d => uptoBulk d + 1
  | .slice elems spare => uptoBulkAll elems + uptoBulkAll spare + 1
  | .agg parts => uptoBulkAll parts + 1
  | .iface _ d => uptoBulk d + 1
  | .map entries => uptoBulkEntries entries + 1
  | .held _ => 1
def uptoBulkAll {H : Type} : List (DataW H) → Nat
  | [] => 0
  | d :: r => uptoBulk d + uptoBulkAll r
def uptoBulkEntries {H : Type} : List (Lit × DataW H) → Nat
  | [] => 0
  | x :: r => uptoBulkEntry x + uptoBulkEntries r
def uptoBulkEntry {H : Type} : Lit × DataW H → Nat
  | (.string bytes, d) => bytes.length + uptoBulk d + 1
  | (_, d) => uptoBulk d + 1
 end
def uptoSmall : (H : Type) → List (DataW H) → Bool := fun _ ds => decide (uptoBulkAll ds ≤ 1048576)
def OpenSpec.upto (s : _root_.Go.ChangeSpec) : _root_.Go.OpenSpec := { _root_.Go.OpenSpec.ofChange s with cond := some uptoSmall }

/-- 'tholelaw01.CellNew', WHERE WHAT IT READS IS OF BULK AT MOST 1048576: true; the input reads as it did. -/
def cellNewUptoRow : OpenClaim := { program := "ytokfkkmkfgdclaa", sum := "b62de4c41c1f7d3ad09c0c84334c1d7e94a137b9ff30231f5d9551d358bfb8ea", func := "thole/tholelaw01.CellNew", spec := "cellNew", apart := false, narrowed := true }
def CellNewUptoSaid : Prop := cellNewUptoRow.holds Try.pinned (OpenSpec.upto cellNewSpec)

/-- 'tholelaw01.CellPlays', WHERE WHAT IT READS IS OF BULK AT MOST 1048576: true; the input reads as it did. -/
def cellPlaysUptoRow : OpenClaim := { program := "ytokfkkmkfgdclaa", sum := "b62de4c41c1f7d3ad09c0c84334c1d7e94a137b9ff30231f5d9551d358bfb8ea", func := "thole/tholelaw01.CellPlays", spec := "cellPlays", apart := false, narrowed := true }
def CellPlaysUptoSaid : Prop := cellPlaysUptoRow.holds Try.pinned (OpenSpec.upto cellPlaysSpec)

/-- 'tholelaw01.CellKeeps', WHERE WHAT IT READS IS OF BULK AT MOST 1048576: true; the input reads as it did. -/
def cellKeepsUptoRow : OpenClaim := { program := "ytokfkkmkfgdclaa", sum := "b62de4c41c1f7d3ad09c0c84334c1d7e94a137b9ff30231f5d9551d358bfb8ea", func := "thole/tholelaw01.CellKeeps", spec := "cellKeeps", apart := false, narrowed := true }
def CellKeepsUptoSaid : Prop := cellKeepsUptoRow.holds Try.pinned (OpenSpec.upto cellKeepsSpec)

/-- 'tholelaw01.CellNews', WHERE WHAT IT READS IS OF BULK AT MOST 1048576: true; the input reads as it did. -/
def cellNewsUptoRow : OpenClaim := { program := "ytokfkkmkfgdclaa", sum := "b62de4c41c1f7d3ad09c0c84334c1d7e94a137b9ff30231f5d9551d358bfb8ea", func := "thole/tholelaw01.CellNews", spec := "cellNews", apart := false, narrowed := true }
def CellNewsUptoSaid : Prop := cellNewsUptoRow.holds Try.pinned (OpenSpec.upto cellNewsSpec)

/-- 'tholelaw01.CellTwin', WHERE WHAT IT READS IS OF BULK AT MOST 1048576: true; the input reads as it did. -/
def cellTwinUptoRow : OpenClaim := { program := "ytokfkkmkfgdclaa", sum := "b62de4c41c1f7d3ad09c0c84334c1d7e94a137b9ff30231f5d9551d358bfb8ea", func := "thole/tholelaw01.CellTwin", spec := "cellTwin", apart := false, narrowed := true }
def CellTwinUptoSaid : Prop := cellTwinUptoRow.holds Try.pinned (OpenSpec.upto cellTwinSpec)

end Rows
end Go.Proofs.Ytokfkkmkfgdclaa
