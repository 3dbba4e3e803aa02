/-
  The laws' test of two rows that Run told.
  Conditions: none; this is a lemma for the walks.
-/
import Derived.Test.YtbodlaiakcoabaaGreatDoorRepEvs
import Derived.Test.YtbodlaiakcoabaaGreatDoorRepSame
namespace Go.Proofs.YtbodlaiakcoabaaGreatDoor
open Go.RowKit
set_option maxRecDepth 100000

/-- The laws' test of two rows that Run told. -/
theorem same_things {W1 W2 : Nat} {w : World} {g c g2 c2 m m2 : Nat} {xs : List Th} {ta tb : List Tt} (hA : Things W1 w g c m xs ta) (hB : Things W2 w g2 c2 m2 xs tb) :
    Calls Tryz.prog 13 #[.slice (some ⟨g, 0, none⟩) m c, .slice (some ⟨g2, 0, none⟩) m2 c2] w fun e w' => e = .returned (.bool true) ∧ Kept (fun _ => False) w w' := by
  have hm : m2 = m := by
    rw [← hA.len, ← hB.len, ← List.length_map (f := Tt.x), hB.same, ← hA.same, List.length_map]
  subst hm
  exact same_rows g c g2 c2 ta tb m2 w hA.row hB.row hA.len hB.len (hA.same.trans hB.same.symm) hA.ws hB.ws hA.few (by have := hA.sm; omega)

end Go.Proofs.YtbodlaiakcoabaaGreatDoor
