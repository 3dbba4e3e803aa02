/-
  DERIVED. GIVEN WITH THE SEED: THE CARDS: each row of YtdkableaooaebaaDoorRows.lean that lists a variable, with what it lists TIED to the program's text (the seventh form; the later family's looks); each row that meets fmt, with fmt's text TOLD by the authors' own Lean function (tested against real Go, not proved from fmt's source: count such statements apart). THE CARD IS WHAT COUNTS. Prove the row's statement (the work); the ties are given (YtdkableaooaebaaDoorTie.lean); close each card by the builder's one call (the guide's Derived/Test/ToyasCard.lean, 'card_holds'). Laid BY PROGRAM, IN A SANDBOX (cutbox-door.mjs). By AI agents, Wed Nov 11 2026. No macro, syntax, notation, axiom, sorry.
-/
import Derived.Test.YtdkableaooaebaaDoorRows
import GoSem.ClaimSeven
namespace Go.Proofs.YtdkableaooaebaaDoor
namespace Rows

/-- THE TIED CARD OF 'tholelaw09.MicroOne'. -/
def microOneCard : Claim7 := { stood := { row := microOneRow, standIns := [], harness := (true, "4c1cd4140ce10038e235ef480425d0b5975a21f4e35adecbff3b05b9bb01294d"), looks := true }, kinds := [], alts := [], laidByText := true, laidKinds := [.data], laidTests := true, laidLooks := .later }
def MicroOneCardSaid : Prop := Claim7.holds Tryd.pinned (.plain (OpenSpec.ofChange microOneSpec)) microOneCard

/-- THE TIED CARD OF 'tholelaw09.MicroRefuses'. -/
def microRefusesCard : Claim7 := { stood := { row := microRefusesRow, standIns := [], harness := (true, "4c1cd4140ce10038e235ef480425d0b5975a21f4e35adecbff3b05b9bb01294d"), looks := true }, kinds := [], alts := [], laidByText := true, laidKinds := [.data], laidTests := true, laidLooks := .later }
def MicroRefusesCardSaid : Prop := Claim7.holds Tryd.pinned (.plain (OpenSpec.ofChange microRefusesSpec)) microRefusesCard

/-- THE TIED CARD OF 'tholelaw09.MicroAgain'. -/
def microAgainCard : Claim7 := { stood := { row := microAgainRow, standIns := [], harness := (true, "4c1cd4140ce10038e235ef480425d0b5975a21f4e35adecbff3b05b9bb01294d"), looks := true }, kinds := [], alts := [], laidByText := true, laidKinds := [.data], laidTests := true, laidLooks := .later }
def MicroAgainCardSaid : Prop := Claim7.holds Tryd.pinned (.plain (OpenSpec.ofChange microAgainSpec)) microAgainCard

/-- THE TIED CARD OF 'tholelaw09.MicroLoads'. -/
def microLoadsCard : Claim7 := { stood := { row := microLoadsRow, standIns := [], harness := (true, "4c1cd4140ce10038e235ef480425d0b5975a21f4e35adecbff3b05b9bb01294d"), looks := true }, kinds := [], alts := [], laidByText := true, laidKinds := [.data], laidTests := true, laidLooks := .later }
def MicroLoadsCardSaid : Prop := Claim7.holds Tryd.pinned (.plain (OpenSpec.ofChange microLoadsSpec)) microLoadsCard

/-- THE SECOND FORM's CARD OF 'tholelaw09.MicroOne'. -/
def microOneUptoCard : Claim7 := { stood := { row := microOneUptoRow, standIns := [], harness := (true, "4c1cd4140ce10038e235ef480425d0b5975a21f4e35adecbff3b05b9bb01294d"), looks := true }, kinds := [], alts := [], laidByText := true, laidKinds := [.data], laidTests := true, laidLooks := .later }
def MicroOneUptoCardSaid : Prop := Claim7.holds Tryd.pinned (.plain (OpenSpec.upto microOneSpec)) microOneUptoCard

/-- THE SECOND FORM's CARD OF 'tholelaw09.MicroRefuses'. -/
def microRefusesUptoCard : Claim7 := { stood := { row := microRefusesUptoRow, standIns := [], harness := (true, "4c1cd4140ce10038e235ef480425d0b5975a21f4e35adecbff3b05b9bb01294d"), looks := true }, kinds := [], alts := [], laidByText := true, laidKinds := [.data], laidTests := true, laidLooks := .later }
def MicroRefusesUptoCardSaid : Prop := Claim7.holds Tryd.pinned (.plain (OpenSpec.upto microRefusesSpec)) microRefusesUptoCard

/-- THE SECOND FORM's CARD OF 'tholelaw09.MicroAgain'. -/
def microAgainUptoCard : Claim7 := { stood := { row := microAgainUptoRow, standIns := [], harness := (true, "4c1cd4140ce10038e235ef480425d0b5975a21f4e35adecbff3b05b9bb01294d"), looks := true }, kinds := [], alts := [], laidByText := true, laidKinds := [.data], laidTests := true, laidLooks := .later }
def MicroAgainUptoCardSaid : Prop := Claim7.holds Tryd.pinned (.plain (OpenSpec.upto microAgainSpec)) microAgainUptoCard

/-- THE SECOND FORM's CARD OF 'tholelaw09.MicroLoads'. -/
def microLoadsUptoCard : Claim7 := { stood := { row := microLoadsUptoRow, standIns := [], harness := (true, "4c1cd4140ce10038e235ef480425d0b5975a21f4e35adecbff3b05b9bb01294d"), looks := true }, kinds := [], alts := [], laidByText := true, laidKinds := [.data], laidTests := true, laidLooks := .later }
def MicroLoadsUptoCardSaid : Prop := Claim7.holds Tryd.pinned (.plain (OpenSpec.upto microLoadsSpec)) microLoadsUptoCard
end Rows
end Go.Proofs.YtdkableaooaebaaDoor
