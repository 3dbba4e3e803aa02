/-
  What up comes to: the document's example.
  Conditions: the table lies as the program's text lays it.
-/
import Derived.Test.YtibgkhfadlgonaaGreatDoorInsParse
import Derived.Test.YtibgkhfadlgonaaGreatDoorLineEq
namespace Go.Proofs.YtibgkhfadlgonaaGreatDoor
open Go.RowKit

def textA : Str := [99, 97, 115, 32, 114, 53, 32, 114, 56, 32, 49]
def textB : Str := [99, 97, 115, 32, 114, 49, 52, 32, 114, 56, 32, 49]
theorem textA_is : parseL textA = some ⟨[], 7, 5, 8, 0, 1, []⟩ := by decide +kernel
theorem textB_is : parseL textB = none := by decide +kernel
theorem up_mayA : mayP 7 5 8 0 1 = true := by decide +kernel

set_option maxRecDepth 100000 in
set_option maxHeartbeats 2000000 in
theorem up_any (w : World) (hL : Laid w) : Calls Tryz.prog 6 #[] w (BoolTo w true) := by
  have hA := parse_any (strS textA) w hL (by rw [strS_size]; decide)
  rw [bytesS_str, textA_is] at hA
  have HA : Hid (Calls Tryz.prog 13 #[.string { data := #[99, 97, 115, 32, 114, 53, 32, 114, 56, 32, 49] }] w (EndTo w (some ⟨[], 7, 5, 8, 0, 1, []⟩))) := Lib.hid hA
  have HL := Lib.hid hL
  clear hA hL
  have g1 := guard_line
  have g2 := guard_ins
  go_enter Tryz.func6, Tryz.ntmps6
  go_wp2_with fail
  refine HA.out.mono ?_
  rintro e w1 ⟨⟨x, hx, rfl⟩ | ⟨hx, _⟩, hk1⟩
  case inr => cases hx
  simp only [Option.some.injEq] at hx
  subst hx
  have hL2 := HL.out.on0 (hk1.alloc (.cells (lnCells ⟨[], 7, 5, 8, 0, 1, []⟩) 25))
  have hB := parse_any (strS textB) _ hL2 (by rw [strS_size]; decide)
  rw [bytesS_str, textB_is] at hB
  have HB : Hid (Calls Tryz.prog 13 #[.string { data := #[99, 97, 115, 32, 114, 49, 52, 32, 114, 56, 32, 49] }] _ (EndTo _ none)) := Lib.hid hB
  have HK2 := Lib.hid (hk1.alloc (.cells (lnCells ⟨[], 7, 5, 8, 0, 1, []⟩) 25))
  have HX := Lib.hid (heap_new1 w1 (.cells (lnCells ⟨[], 7, 5, 8, 0, 1, []⟩) 25))
  clear hB hk1 hL2 HA
  go_wp2_with fail
  refine HB.out.mono ?_
  rintro e w2 ⟨⟨x, hx, _⟩ | ⟨_, rfl⟩, hk2⟩
  case inl => cases hx
  have HX2 := Lib.hid (hk2.at0 HX.out)
  have HK3 := Lib.hid (HK2.out.trans hk2 (fun _ _ f => f))
  have hc : ∀ o, _ := fun (o : Obj) => (cells7 (((Kept.refl (fun _ => False) w2).alloc o).at0 HX2.out)).1
  have t1 := fun o => (hc o).2.1
  have t2 := fun o => (hc o).2.2.1
  have t3 := fun o => (hc o).2.2.2.1
  have t4 := fun o => (hc o).2.2.2.2.1
  have t5 := fun o => (hc o).2.2.2.2.2.1
  have q1 := eql_codes
  have HA := Lib.hid (access_any 7 5 8 0 1 (w2.alloc (.cells (lnCells zeroLn) 25)))
  have HKA := Lib.hid ((Kept.refl (fun _ => False) w2).alloc (.cells (lnCells zeroLn) 25))
  clear hk2 HX HK2 hc HB
  go_wp2_with fail
  refine HA.out.mono ?_
  rintro e w3 ⟨rfl, hk4⟩
  have HX3 := Lib.hid (hk4.at0 (HKA.out.at0 HX2.out))
  have HK4 := Lib.hid (HK3.out.trans (HKA.out.trans hk4 (fun _ _ f => f)) (fun _ _ f => f))
  obtain ⟨⟨c0, c1, c2, c3, c4, c5, c6⟩, _⟩ := cells7 HX3.out
  have HM := Lib.hid (may_any 7 5 8 0 1 w3 (HL.out.on0 HK4.out) (by omega) (by omega))
  rw [up_mayA] at HM
  clear hk4 t1 t2 t3 t4 t5 HA HKA HX2 HK3
  go_wp2_with fail
  refine HM.out.mono ?_
  rintro e w4 ⟨rfl, hk5⟩
  have HF : Hid (BoolTo w true (.returned (.bool true)) w4) := Lib.hid ⟨rfl, HK4.out.trans hk5 (fun _ _ f => f)⟩
  clear hk5
  go_wp2_with fail
  go_ret
  exact HF.out

end Go.Proofs.YtibgkhfadlgonaaGreatDoor
