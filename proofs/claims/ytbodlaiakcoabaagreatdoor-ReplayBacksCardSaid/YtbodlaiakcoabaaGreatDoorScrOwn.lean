/-
  Scripts in memory of a call's own: new blocks that read as lists.
  Conditions: none; these are lemmas for the walks.
-/
import Derived.Test.YtbodlaiakcoabaaGreatDoorScr
import Derived.Test.YtbodlaiakcoabaaGreatDoorRowOwn
namespace Go.Proofs.YtbodlaiakcoabaaGreatDoor
open Go.RowKit

theorem Ob.three (x : Ob) : x.cells.length = 3 := rfl
theorem Cl.five (x : Cl) : x.cells.length = 5 := rfl
theorem Pi.two (x : Pi) : x.cells.length = 2 := rfl
theorem Pr.one (x : Pr) : x.cells.length = 1 := rfl

end Go.Proofs.YtbodlaiakcoabaaGreatDoor
