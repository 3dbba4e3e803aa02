/-
  DERIVED. GIVEN WITH THE SEED: THE CARDS: each row of YtlhnbihpefgcbaaGreatDoorRows.lean that lists a variable, with what it lists TIED to the program's text (the seventh form; the later family's looks); each row that meets fmt, with fmt's text TOLD by the authors' own Lean function (tested against real Go, not proved from fmt's source: count such statements apart). THE CARD IS WHAT COUNTS. Prove the row's statement (the work); the ties are given (YtlhnbihpefgcbaaGreatDoorTie.lean); close each card by the builder's one call (the guide's Derived/Test/ToyasCard.lean, 'card_holds'). Laid BY PROGRAM, IN A SANDBOX (cutbox-door.mjs). By AI agents, Wed Nov 11 2026. No macro, syntax, notation, axiom, sorry.
-/
import Derived.Test.YtlhnbihpefgcbaaGreatDoorRows
import GoSem.ClaimSeven
namespace Go.Proofs.YtlhnbihpefgcbaaGreatDoor
namespace Rows

/-- THE TIED CARD OF 'tholelaw08.AsmAssembles'. -/
def asmAssemblesCard : Claim7 := { stood := { row := asmAssemblesRow, standIns := [], harness := (true, "57b5312b235ee6b4de09b0960b9e445b6489f988b7268d24818dfb01678fd436"), looks := true }, kinds := [], alts := [], laidByText := true, laidKinds := [.data, .data, .data, .data, .handle, .sentinel, .sentinel, .data, .pinned], laidTests := true, laidLooks := .later }
def AsmAssemblesCardSaid : Prop := Claim7.holds Tryz.pinned (.plain (OpenSpec.ofChange asmAssemblesSpec)) asmAssemblesCard

/-- THE TIED CARD OF 'tholelaw08.AsmParts'. -/
def asmPartsCard : Claim7 := { stood := { row := asmPartsRow, standIns := [], harness := (true, "57b5312b235ee6b4de09b0960b9e445b6489f988b7268d24818dfb01678fd436"), looks := true }, kinds := [], alts := [], laidByText := true, laidKinds := [.data, .data, .data, .data, .handle, .sentinel, .sentinel, .data, .pinned], laidTests := true, laidLooks := .later }
def AsmPartsCardSaid : Prop := Claim7.holds Tryz.pinned (.plain (OpenSpec.ofChange asmPartsSpec)) asmPartsCard

/-- THE TIED CARD OF 'tholelaw08.AsmEmpty'. -/
def asmEmptyCard : Claim7 := { stood := { row := asmEmptyRow, standIns := [], harness := (true, "57b5312b235ee6b4de09b0960b9e445b6489f988b7268d24818dfb01678fd436"), looks := true }, kinds := [], alts := [], laidByText := true, laidKinds := [.data, .data, .data, .data, .handle, .sentinel, .sentinel, .data, .pinned], laidTests := true, laidLooks := .later }
def AsmEmptyCardSaid : Prop := Claim7.holds Tryz.pinned (.plain (OpenSpec.ofChange asmEmptySpec)) asmEmptyCard

/-- THE TIED CARD OF 'tholelaw08.AsmMoved'. -/
def asmMovedCard : Claim7 := { stood := { row := asmMovedRow, standIns := [], harness := (true, "57b5312b235ee6b4de09b0960b9e445b6489f988b7268d24818dfb01678fd436"), looks := true }, kinds := [], alts := [], laidByText := true, laidKinds := [.data, .data, .data, .data, .handle, .sentinel, .sentinel, .data, .pinned], laidTests := true, laidLooks := .later }
def AsmMovedCardSaid : Prop := Claim7.holds Tryz.pinned (.plain (OpenSpec.ofChange asmMovedSpec)) asmMovedCard

/-- THE SECOND FORM's CARD OF 'tholelaw08.AsmAssembles'. -/
def asmAssemblesUptoCard : Claim7 := { stood := { row := asmAssemblesUptoRow, standIns := [], harness := (true, "57b5312b235ee6b4de09b0960b9e445b6489f988b7268d24818dfb01678fd436"), looks := true }, kinds := [], alts := [], laidByText := true, laidKinds := [.data, .data, .data, .data, .handle, .sentinel, .sentinel, .data, .pinned], laidTests := true, laidLooks := .later }
def AsmAssemblesUptoCardSaid : Prop := Claim7.holds Tryz.pinned (.plain (OpenSpec.upto asmAssemblesSpec)) asmAssemblesUptoCard

/-- THE SECOND FORM's CARD OF 'tholelaw08.AsmParts'. -/
def asmPartsUptoCard : Claim7 := { stood := { row := asmPartsUptoRow, standIns := [], harness := (true, "57b5312b235ee6b4de09b0960b9e445b6489f988b7268d24818dfb01678fd436"), looks := true }, kinds := [], alts := [], laidByText := true, laidKinds := [.data, .data, .data, .data, .handle, .sentinel, .sentinel, .data, .pinned], laidTests := true, laidLooks := .later }
def AsmPartsUptoCardSaid : Prop := Claim7.holds Tryz.pinned (.plain (OpenSpec.upto asmPartsSpec)) asmPartsUptoCard

/-- THE SECOND FORM's CARD OF 'tholelaw08.AsmEmpty'. -/
def asmEmptyUptoCard : Claim7 := { stood := { row := asmEmptyUptoRow, standIns := [], harness := (true, "57b5312b235ee6b4de09b0960b9e445b6489f988b7268d24818dfb01678fd436"), looks := true }, kinds := [], alts := [], laidByText := true, laidKinds := [.data, .data, .data, .data, .handle, .sentinel, .sentinel, .data, .pinned], laidTests := true, laidLooks := .later }
def AsmEmptyUptoCardSaid : Prop := Claim7.holds Tryz.pinned (.plain (OpenSpec.upto asmEmptySpec)) asmEmptyUptoCard

/-- THE SECOND FORM's CARD OF 'tholelaw08.AsmMoved'. -/
def asmMovedUptoCard : Claim7 := { stood := { row := asmMovedUptoRow, standIns := [], harness := (true, "57b5312b235ee6b4de09b0960b9e445b6489f988b7268d24818dfb01678fd436"), looks := true }, kinds := [], alts := [], laidByText := true, laidKinds := [.data, .data, .data, .data, .handle, .sentinel, .sentinel, .data, .pinned], laidTests := true, laidLooks := .later }
def AsmMovedUptoCardSaid : Prop := Claim7.holds Tryz.pinned (.plain (OpenSpec.upto asmMovedSpec)) asmMovedUptoCard
end Rows
end Go.Proofs.YtlhnbihpefgcbaaGreatDoor
