/-
  DERIVED. GIVEN WITH THE SEED: THE CARDS: each row of YtibgkhfadlgonaaDoorRows.lean that lists a variable, with what it lists TIED to the program's text (the seventh form; the later family's looks); each row that meets fmt, with fmt's text TOLD by the authors' own Lean function (tested against real Go, not proved from fmt's source: count such statements apart). THE CARD IS WHAT COUNTS. Prove the row's statement (the work); the ties are given (YtibgkhfadlgonaaDoorTie.lean); close each card by the builder's one call (the guide's Derived/Test/ToyasCard.lean, 'card_holds'). Laid BY PROGRAM, IN A SANDBOX (cutbox-door.mjs). By AI agents, Wed Nov 11 2026. No macro, syntax, notation, axiom, sorry.
-/
import Derived.Test.YtibgkhfadlgonaaDoorRows
import GoSem.ClaimSeven
namespace Go.Proofs.YtibgkhfadlgonaaDoor
namespace Rows

/-- THE TIED CARD OF 'tholelaw07.InsParses'. -/
def insParsesCard : Claim7 := { stood := { row := insParsesRow, standIns := [], harness := (true, "77e2a947f96fba8efc2b2abb32b66e48277a0f846fc6fb62691653c9c2938727"), looks := true }, kinds := [], alts := [], laidByText := true, laidKinds := [.data, .data, .data, .data, .sentinel, .sentinel, .data, .pinned], laidTests := true, laidLooks := .later }
def InsParsesCardSaid : Prop := Claim7.holds Tryd.pinned (.plain (OpenSpec.ofChange insParsesSpec)) insParsesCard

/-- THE TIED CARD OF 'tholelaw07.InsBlanks'. -/
def insBlanksCard : Claim7 := { stood := { row := insBlanksRow, standIns := [], harness := (true, "77e2a947f96fba8efc2b2abb32b66e48277a0f846fc6fb62691653c9c2938727"), looks := true }, kinds := [], alts := [], laidByText := true, laidKinds := [.data, .data, .data, .data, .sentinel, .sentinel, .data, .pinned], laidTests := true, laidLooks := .later }
def InsBlanksCardSaid : Prop := Claim7.holds Tryd.pinned (.plain (OpenSpec.ofChange insBlanksSpec)) insBlanksCard

/-- THE SECOND FORM's CARD OF 'tholelaw07.InsParses'. -/
def insParsesUptoCard : Claim7 := { stood := { row := insParsesUptoRow, standIns := [], harness := (true, "77e2a947f96fba8efc2b2abb32b66e48277a0f846fc6fb62691653c9c2938727"), looks := true }, kinds := [], alts := [], laidByText := true, laidKinds := [.data, .data, .data, .data, .sentinel, .sentinel, .data, .pinned], laidTests := true, laidLooks := .later }
def InsParsesUptoCardSaid : Prop := Claim7.holds Tryd.pinned (.plain (OpenSpec.upto insParsesSpec)) insParsesUptoCard

/-- THE SECOND FORM's CARD OF 'tholelaw07.InsBlanks'. -/
def insBlanksUptoCard : Claim7 := { stood := { row := insBlanksUptoRow, standIns := [], harness := (true, "77e2a947f96fba8efc2b2abb32b66e48277a0f846fc6fb62691653c9c2938727"), looks := true }, kinds := [], alts := [], laidByText := true, laidKinds := [.data, .data, .data, .data, .sentinel, .sentinel, .data, .pinned], laidTests := true, laidLooks := .later }
def InsBlanksUptoCardSaid : Prop := Claim7.holds Tryd.pinned (.plain (OpenSpec.upto insBlanksSpec)) insBlanksUptoCard
end Rows
end Go.Proofs.YtibgkhfadlgonaaDoor
