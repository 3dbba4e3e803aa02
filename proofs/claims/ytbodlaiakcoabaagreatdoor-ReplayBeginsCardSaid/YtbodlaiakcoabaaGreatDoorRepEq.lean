/-
  Two events compared, where they are the same.
  Conditions: none.
-/
import Derived.Test.YtbodlaiakcoabaaGreatDoorRepM
import Derived.WalkKit
import Derived.ChangeKeysEq
namespace Go.Proofs.YtbodlaiakcoabaaGreatDoor
open Go.RowKit
set_option maxRecDepth 100000

theorem eq_mk (x : Mk) (w : World) : (Op.equalIn 9999 36 x.agg x.agg).run Tryz.prog w = .ok true w := by
  have u4 := Tryz.underlying3
  have u2 := Tryz.underlying2
  have a4 := Tryz.isAgg3
  have z4 := Tryz.sizeOf3
  have a2 := Tryz.isAgg2
  have z2 := Tryz.sizeOf2
  have hS : Tryz.prog.underlying 36 = some (.struct (Tryz.prog.fieldsOf 36)) := by kernel_rfl
  have hp : Tryz.prog.stoodInHeld 36 = false := by kernel_rfl
  unfold Mk.agg
  rw [show (9999 : Nat) = 9998 + 1 from rfl, run_equalIn_agg w 9998 36 _ _ hS hp]
  simp only [Program.fieldsOf, Tryz.underlying36]
  go_simp
theorem eq_ev (x : Ev) (w : World) : (Op.equalIn 10000 38 x.agg x.agg).run Tryz.prog w = .ok true w := by
  have u4 := Tryz.underlying3
  have u2 := Tryz.underlying2
  have a4 := Tryz.isAgg3
  have z4 := Tryz.sizeOf3
  have a2 := Tryz.isAgg2
  have z2 := Tryz.sizeOf2
  have aN := Tryz.isAgg36
  have zN := Tryz.sizeOf36
  have hN := eq_mk x.m w
  unfold Mk.agg at hN
  have hS : Tryz.prog.underlying 38 = some (.struct (Tryz.prog.fieldsOf 38)) := by kernel_rfl
  have hp : Tryz.prog.stoodInHeld 38 = false := by kernel_rfl
  unfold Ev.agg
  rw [show (10000 : Nat) = 9999 + 1 from rfl, run_equalIn_agg w 9999 38 _ _ hS hp]
  simp only [Program.fieldsOf, Tryz.underlying38]
  go_simp
theorem neq_ev (x : Ev) (w : World) : (binOp .neq 38 x.agg x.agg).run Tryz.prog w = .ok (.bool false) w := by
  have h := eq_ev x w
  rw [run_neq_struct, h]
  rfl

end Go.Proofs.YtbodlaiakcoabaaGreatDoor
