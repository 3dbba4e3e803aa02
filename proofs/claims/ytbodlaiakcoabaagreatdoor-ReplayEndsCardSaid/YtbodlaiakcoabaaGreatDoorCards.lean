/-
  DERIVED. GIVEN WITH THE SEED: THE CARDS: each row of YtbodlaiakcoabaaGreatDoorRows.lean that lists a variable, with what it lists TIED to the program's text (the seventh form; the later family's looks); each row that meets fmt, with fmt's text TOLD by the authors' own Lean function (tested against real Go, not proved from fmt's source: count such statements apart). THE CARD IS WHAT COUNTS. Prove the row's statement (the work); the ties are given (YtbodlaiakcoabaaGreatDoorTie.lean); close each card by the builder's one call (the guide's Derived/Test/ToyasCard.lean, 'card_holds'). Laid BY PROGRAM, IN A SANDBOX (cutbox-door.mjs). By AI agents, Wed Nov 11 2026. No macro, syntax, notation, axiom, sorry.
-/
import Derived.Test.YtbodlaiakcoabaaGreatDoorRows
import GoSem.ClaimSeven
namespace Go.Proofs.YtbodlaiakcoabaaGreatDoor
namespace Rows

/-- THE TIED CARD OF 'tholelaw11.ReplayBegins'. -/
def replayBeginsCard : Claim7 := { stood := { row := replayBeginsRow, standIns := [], harness := (true, "fce32a6f6cca01f08a38fbb9f6eb9c1fd89d43e5dd94824def5c75c4a4865bbc"), looks := true }, kinds := [], alts := [], laidByText := true, laidKinds := [.handle], laidTests := true, laidLooks := .later }
def ReplayBeginsCardSaid : Prop := Claim7.holds Tryz.pinned (.plain (OpenSpec.ofChange replayBeginsSpec)) replayBeginsCard

/-- THE TIED CARD OF 'tholelaw11.ReplayLast'. -/
def replayLastCard : Claim7 := { stood := { row := replayLastRow, standIns := [], harness := (true, "fce32a6f6cca01f08a38fbb9f6eb9c1fd89d43e5dd94824def5c75c4a4865bbc"), looks := true }, kinds := [], alts := [], laidByText := true, laidKinds := [.handle], laidTests := true, laidLooks := .later }
def ReplayLastCardSaid : Prop := Claim7.holds Tryz.pinned (.plain (OpenSpec.ofChange replayLastSpec)) replayLastCard

/-- THE TIED CARD OF 'tholelaw11.ReplayBreaks'. -/
def replayBreaksCard : Claim7 := { stood := { row := replayBreaksRow, standIns := [], harness := (true, "fce32a6f6cca01f08a38fbb9f6eb9c1fd89d43e5dd94824def5c75c4a4865bbc"), looks := true }, kinds := [], alts := [], laidByText := true, laidKinds := [.handle], laidTests := true, laidLooks := .later }
def ReplayBreaksCardSaid : Prop := Claim7.holds Tryz.pinned (.plain (OpenSpec.ofChange replayBreaksSpec)) replayBreaksCard

/-- THE TIED CARD OF 'tholelaw11.ReplayBacks'. -/
def replayBacksCard : Claim7 := { stood := { row := replayBacksRow, standIns := [], harness := (true, "fce32a6f6cca01f08a38fbb9f6eb9c1fd89d43e5dd94824def5c75c4a4865bbc"), looks := true }, kinds := [], alts := [], laidByText := true, laidKinds := [.handle], laidTests := true, laidLooks := .later }
def ReplayBacksCardSaid : Prop := Claim7.holds Tryz.pinned (.plain (OpenSpec.ofChange replayBacksSpec)) replayBacksCard

/-- THE TIED CARD OF 'tholelaw11.ReplayMoves'. -/
def replayMovesCard : Claim7 := { stood := { row := replayMovesRow, standIns := [], harness := (true, "fce32a6f6cca01f08a38fbb9f6eb9c1fd89d43e5dd94824def5c75c4a4865bbc"), looks := true }, kinds := [], alts := [], laidByText := true, laidKinds := [.handle], laidTests := true, laidLooks := .later }
def ReplayMovesCardSaid : Prop := Claim7.holds Tryz.pinned (.plain (OpenSpec.ofChange replayMovesSpec)) replayMovesCard

/-- THE TIED CARD OF 'tholelaw11.ReplayEnds'. -/
def replayEndsCard : Claim7 := { stood := { row := replayEndsRow, standIns := [], harness := (true, "fce32a6f6cca01f08a38fbb9f6eb9c1fd89d43e5dd94824def5c75c4a4865bbc"), looks := true }, kinds := [], alts := [], laidByText := true, laidKinds := [.handle], laidTests := true, laidLooks := .later }
def ReplayEndsCardSaid : Prop := Claim7.holds Tryz.pinned (.plain (OpenSpec.ofChange replayEndsSpec)) replayEndsCard

/-- THE SECOND FORM's CARD OF 'tholelaw11.ReplayBegins'. -/
def replayBeginsUptoCard : Claim7 := { stood := { row := replayBeginsUptoRow, standIns := [], harness := (true, "fce32a6f6cca01f08a38fbb9f6eb9c1fd89d43e5dd94824def5c75c4a4865bbc"), looks := true }, kinds := [], alts := [], laidByText := true, laidKinds := [.handle], laidTests := true, laidLooks := .later }
def ReplayBeginsUptoCardSaid : Prop := Claim7.holds Tryz.pinned (.plain (OpenSpec.upto replayBeginsSpec)) replayBeginsUptoCard

/-- THE SECOND FORM's CARD OF 'tholelaw11.ReplayLast'. -/
def replayLastUptoCard : Claim7 := { stood := { row := replayLastUptoRow, standIns := [], harness := (true, "fce32a6f6cca01f08a38fbb9f6eb9c1fd89d43e5dd94824def5c75c4a4865bbc"), looks := true }, kinds := [], alts := [], laidByText := true, laidKinds := [.handle], laidTests := true, laidLooks := .later }
def ReplayLastUptoCardSaid : Prop := Claim7.holds Tryz.pinned (.plain (OpenSpec.upto replayLastSpec)) replayLastUptoCard

/-- THE SECOND FORM's CARD OF 'tholelaw11.ReplayBreaks'. -/
def replayBreaksUptoCard : Claim7 := { stood := { row := replayBreaksUptoRow, standIns := [], harness := (true, "fce32a6f6cca01f08a38fbb9f6eb9c1fd89d43e5dd94824def5c75c4a4865bbc"), looks := true }, kinds := [], alts := [], laidByText := true, laidKinds := [.handle], laidTests := true, laidLooks := .later }
def ReplayBreaksUptoCardSaid : Prop := Claim7.holds Tryz.pinned (.plain (OpenSpec.upto replayBreaksSpec)) replayBreaksUptoCard

/-- THE SECOND FORM's CARD OF 'tholelaw11.ReplayBacks'. -/
def replayBacksUptoCard : Claim7 := { stood := { row := replayBacksUptoRow, standIns := [], harness := (true, "fce32a6f6cca01f08a38fbb9f6eb9c1fd89d43e5dd94824def5c75c4a4865bbc"), looks := true }, kinds := [], alts := [], laidByText := true, laidKinds := [.handle], laidTests := true, laidLooks := .later }
def ReplayBacksUptoCardSaid : Prop := Claim7.holds Tryz.pinned (.plain (OpenSpec.upto replayBacksSpec)) replayBacksUptoCard

/-- THE SECOND FORM's CARD OF 'tholelaw11.ReplayMoves'. -/
def replayMovesUptoCard : Claim7 := { stood := { row := replayMovesUptoRow, standIns := [], harness := (true, "fce32a6f6cca01f08a38fbb9f6eb9c1fd89d43e5dd94824def5c75c4a4865bbc"), looks := true }, kinds := [], alts := [], laidByText := true, laidKinds := [.handle], laidTests := true, laidLooks := .later }
def ReplayMovesUptoCardSaid : Prop := Claim7.holds Tryz.pinned (.plain (OpenSpec.upto replayMovesSpec)) replayMovesUptoCard

/-- THE SECOND FORM's CARD OF 'tholelaw11.ReplayEnds'. -/
def replayEndsUptoCard : Claim7 := { stood := { row := replayEndsUptoRow, standIns := [], harness := (true, "fce32a6f6cca01f08a38fbb9f6eb9c1fd89d43e5dd94824def5c75c4a4865bbc"), looks := true }, kinds := [], alts := [], laidByText := true, laidKinds := [.handle], laidTests := true, laidLooks := .later }
def ReplayEndsUptoCardSaid : Prop := Claim7.holds Tryz.pinned (.plain (OpenSpec.upto replayEndsSpec)) replayEndsUptoCard
end Rows
end Go.Proofs.YtbodlaiakcoabaaGreatDoor
