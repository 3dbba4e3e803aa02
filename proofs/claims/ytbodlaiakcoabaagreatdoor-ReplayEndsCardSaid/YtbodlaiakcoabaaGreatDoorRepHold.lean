/-
  The rows of calls that hold a Lock, or a RW: what holdRows and readRows lay.
  Conditions: the colours fit the world.
-/
import Derived.Test.YtbodlaiakcoabaaGreatDoorRepInv
import Derived.Laws.EntriesVeiled
namespace Go.Proofs.YtbodlaiakcoabaaGreatDoor
open Go.RowKit
set_option linter.unusedSimpArgs false
set_option linter.unusedVariables false
set_option maxRecDepth 100000

set_option maxHeartbeats 8000000 in
theorem hold_1 (κ : Nat → Nat) (w : World) (hW : Wl κ w) (x : Cl) (k1 : (x.kind == 1) = true) : Calls Tryz.prog 61 #[x.agg] w (Lad κ w ([quitR, noneR, takeR 1, overR 0])) := by
  obtain ⟨W0, hW0⟩ : ∃ W0, w.alloc (.cells #[.int .i64 x.kind, .int .i64 x.obj, .int .i64 x.n, .int .i64 x.wait, .bool x.breaks] 72) = W0 := ⟨_, rfl⟩
  have hk0 : Kept (fun _ => False) w W0 := by rw [← hW0]; exact (Kept.refl _ _).alloc _
  have hh : W0.heap[w.heap.size]? = some (.cells #[.int .i64 x.kind, .int .i64 x.obj, .int .i64 x.n, .int .i64 x.wait, .bool x.breaks] 72 (0, 0)) := by rw [← hW0]; exact heap_new1 _ _
  have m0 : W0.cell? ⟨w.heap.size, 0, none⟩ = some (.int .i64 x.kind) := by rw [cell_at _ _ 0 _ _ hh]; rfl
  have m2 : W0.cell? ⟨w.heap.size, 2, none⟩ = some (.int .i64 x.n) := by rw [cell_at _ _ 2 _ _ hh]; rfl
  have HW0 := Lib.hid (hW.kept0 hk0)
  have HK0 := Lib.hid hk0
  have HOP := Lib.hid hh
  clear hW hk0 hh
  go_enter Tryz.func61, Tryz.ntmps61
  go_wp2_with fail
  refine (just_any κ 1 1 _ HW0.out).mono ?_
  rintro e w1 ⟨f1, c1, rfl, hx1, hk1⟩
  have hl1 := Lat.of0 (κ := κ) hk1
  have HW1 := Lib.hid (HW0.out.kept0 hk1)
  have HOP_1 := Lib.hid (hk1.at0 HOP.out)
  clear HOP
  have HK1 := Lib.hid (HK0.out.tr0 hk1)
  clear HK0
  have HF00 := Lib.hid hx1
  clear hx1 hk1 hl1
  go_wp2_with fail
  refine (marks1 HW1.out HF00.out).mono ?_
  rintro e w2 ⟨f2, c2, rfl, hx2, hk2⟩
  have hl2 := Lat.of0 (κ := κ) hk2
  have HW2 := Lib.hid (HW1.out.kept0 hk2)
  have HF00_2 := Lib.hid (HF00.out.lat hl2)
  clear HF00
  have HOP_2 := Lib.hid (hk2.at0 HOP_1.out)
  clear HOP_1
  have HK2 := Lib.hid (HK1.out.tr0 hk2)
  clear HK1
  have HL0 := Lib.hid hx2
  clear hx2 hk2 hl2
  go_wp2_with fail
  refine (to1 HW2.out 0).mono ?_
  rintro e w3 ⟨f3, c3, rfl, hx3, hk3⟩
  have hl3 := Lat.of0 (κ := κ) hk3
  have HW3 := Lib.hid (HW2.out.kept0 hk3)
  have HL0_3 := Lib.hid (HL0.out.lat hl3)
  clear HL0
  have HOP_3 := Lib.hid (hk3.at0 HOP_2.out)
  clear HOP_2
  have HK3 := Lib.hid (HK2.out.tr0 hk3)
  clear HK2
  have HC0 := Lib.hid hx3
  clear hx3 hk3 hl3
  obtain ⟨WB0, hWB0⟩ : ∃ WB0, w3.alloc (.cells #[.func (.func f2) #[] c2, .func (.func f3) #[] c3] 140) = WB0 := ⟨_, rfl⟩
  have hk4 : Kept (fun _ => False) w3 WB0 := by rw [← hWB0]; exact (Kept.refl _ _).alloc _
  have hb0 : WB0.heap[w3.heap.size]? = some (.cells #[.func (.func f2) #[] c2, .func (.func f3) #[] c3] 140 (0, 0)) := by rw [← hWB0]; exact heap_new1 _ _
  have hl4 := Lat.of0 (κ := κ) hk4
  have HW4 := Lib.hid (HW3.out.kept0 hk4)
  have HL0_4 := Lib.hid (HL0_3.out.lat hl4)
  clear HL0_3
  have HC0_4 := Lib.hid (HC0.out.lat hl4)
  clear HC0
  have HOP_4 := Lib.hid (hk4.at0 HOP_3.out)
  clear HOP_3
  have HK4 := Lib.hid (HK3.out.tr0 hk4)
  clear HK3
  have HBX0 := Lib.hid hb0
  clear hk4 hb0 hl4
  go_wp2_with fail
  refine (just_any κ 7 0 _ HW4.out).mono ?_
  rintro e w5 ⟨f5, c5, rfl, hx5, hk5⟩
  have hl5 := Lat.of0 (κ := κ) hk5
  have HW5 := Lib.hid (HW4.out.kept0 hk5)
  have HL0_5 := Lib.hid (HL0_4.out.lat hl5)
  clear HL0_4
  have HC0_5 := Lib.hid (HC0_4.out.lat hl5)
  clear HC0_4
  have HBX0_5 := Lib.hid (hk5.at0 HBX0.out)
  clear HBX0
  have HOP_5 := Lib.hid (hk5.at0 HOP_4.out)
  clear HOP_4
  have HK5 := Lib.hid (HK4.out.tr0 hk5)
  clear HK4
  have HF10 := Lib.hid hx5
  clear hx5 hk5 hl5
  go_wp2_with fail
  refine (marks1 HW5.out HF10.out).mono ?_
  rintro e w6 ⟨f6, c6, rfl, hx6, hk6⟩
  have hl6 := Lat.of0 (κ := κ) hk6
  have HW6 := Lib.hid (HW5.out.kept0 hk6)
  have HL0_6 := Lib.hid (HL0_5.out.lat hl6)
  clear HL0_5
  have HC0_6 := Lib.hid (HC0_5.out.lat hl6)
  clear HC0_5
  have HBX0_6 := Lib.hid (hk6.at0 HBX0_5.out)
  clear HBX0_5
  have HF10_6 := Lib.hid (HF10.out.lat hl6)
  clear HF10
  have HOP_6 := Lib.hid (hk6.at0 HOP_5.out)
  clear HOP_5
  have HK6 := Lib.hid (HK5.out.tr0 hk6)
  clear HK5
  have HL1 := Lib.hid hx6
  clear hx6 hk6 hl6
  go_wp2_with fail
  refine (to1 HW6.out 5).mono ?_
  rintro e w7 ⟨f7, c7, rfl, hx7, hk7⟩
  have hl7 := Lat.of0 (κ := κ) hk7
  have HW7 := Lib.hid (HW6.out.kept0 hk7)
  have HL0_7 := Lib.hid (HL0_6.out.lat hl7)
  clear HL0_6
  have HC0_7 := Lib.hid (HC0_6.out.lat hl7)
  clear HC0_6
  have HBX0_7 := Lib.hid (hk7.at0 HBX0_6.out)
  clear HBX0_6
  have HL1_7 := Lib.hid (HL1.out.lat hl7)
  clear HL1
  have HOP_7 := Lib.hid (hk7.at0 HOP_6.out)
  clear HOP_6
  have HK7 := Lib.hid (HK6.out.tr0 hk7)
  clear HK6
  have HC1 := Lib.hid hx7
  clear hx7 hk7 hl7
  obtain ⟨WB1, hWB1⟩ : ∃ WB1, w7.alloc (.cells #[.func (.func f6) #[] c6, .func (.func f7) #[] c7] 140) = WB1 := ⟨_, rfl⟩
  have hk8 : Kept (fun _ => False) w7 WB1 := by rw [← hWB1]; exact (Kept.refl _ _).alloc _
  have hb1 : WB1.heap[w7.heap.size]? = some (.cells #[.func (.func f6) #[] c6, .func (.func f7) #[] c7] 140 (0, 0)) := by rw [← hWB1]; exact heap_new1 _ _
  have hl8 := Lat.of0 (κ := κ) hk8
  have HW8 := Lib.hid (HW7.out.kept0 hk8)
  have HL0_8 := Lib.hid (HL0_7.out.lat hl8)
  clear HL0_7
  have HC0_8 := Lib.hid (HC0_7.out.lat hl8)
  clear HC0_7
  have HBX0_8 := Lib.hid (hk8.at0 HBX0_7.out)
  clear HBX0_7
  have HL1_8 := Lib.hid (HL1_7.out.lat hl8)
  clear HL1_7
  have HC1_8 := Lib.hid (HC1.out.lat hl8)
  clear HC1
  have HOP_8 := Lib.hid (hk8.at0 HOP_7.out)
  clear HOP_7
  have HK8 := Lib.hid (HK7.out.tr0 hk8)
  clear HK7
  have HBX1 := Lib.hid hb1
  clear hk8 hb1 hl8
  have m0 : WB1.cell? ⟨w.heap.size, 0, none⟩ = some (.int .i64 x.kind) := by rw [cell_at _ _ 0 _ _ HOP_8.out]; rfl
  have m2 : WB1.cell? ⟨w.heap.size, 2, none⟩ = some (.int .i64 x.n) := by rw [cell_at _ _ 2 _ _ HOP_8.out]; rfl
  have b00 : WB1.cell? ⟨w3.heap.size, 0, none⟩ = some (.func (.func f2) #[] c2) := by rw [cell_at _ _ 0 _ _ HBX0_8.out]; rfl
  have b01 : WB1.cell? ⟨w3.heap.size, 1, none⟩ = some (.func (.func f3) #[] c3) := by rw [cell_at _ _ 1 _ _ HBX0_8.out]; rfl
  have b10 : WB1.cell? ⟨w7.heap.size, 0, none⟩ = some (.func (.func f6) #[] c6) := by rw [cell_at _ _ 0 _ _ HBX1.out]; rfl
  have b11 : WB1.cell? ⟨w7.heap.size, 1, none⟩ = some (.func (.func f7) #[] c7) := by rw [cell_at _ _ 1 _ _ HBX1.out]; rfl
  have hRI := rows_new HW8.out [Rc.mk f2 c2 f3 c3, Rc.mk f6 c6 f7 c7] [takeR 1, overR 0] #[.func (.func f2) #[] c2, .func (.func f3) #[] c3, .func (.func f6) #[] c6, .func (.func f7) #[] c7] 140 rfl (by simp [maxLen]) ⟨⟨HL0_8.out, HC0_8.out⟩, ⟨HL1_8.out, HC1_8.out⟩, trivial⟩
  have hRK : Kept (fun _ => False) w (WB1.alloc (.cells #[.func (.func f2) #[] c2, .func (.func f3) #[] c3, .func (.func f6) #[] c6, .func (.func f7) #[] c7] 140)) := HK8.out.alloc _
  have HRW := Lib.hid (HW8.out.kept0 ((Kept.refl _ _).alloc (.cells #[.func (.func f2) #[] c2, .func (.func f3) #[] c3, .func (.func f6) #[] c6, .func (.func f7) #[] c7] 140)))
  have HRI := Lib.hid hRI
  have HRK := Lib.hid hRK
  clear hRI hRK
  clear HL0_8
  clear HC0_8
  clear HBX0_8
  clear HL1_8
  clear HC1_8
  clear HBX1
  go_wp2_with fail
  refine (rwaiting_any κ _ HRW.out _ 2 2 _ _ rfl (by decide) HRI.out).mono ?_
  rintro e w99 ⟨s9, n9, c9, xs9, rfl, h91, h92, h93⟩
  have HT := Lib.hid (show Lad κ w _ _ w99 from ⟨s9, n9, c9, xs9, rfl, h91, h92, HRK.out.tr0 h93⟩)
  clear h91 h92 h93
  go_wp2_with fail
  go_ret
  exact HT.out
set_option maxHeartbeats 8000000 in
theorem hold_13 (κ : Nat → Nat) (w : World) (hW : Wl κ w) (x : Cl) (k1 : (x.kind == 1) = false) (k13 : (x.kind == 13) = true) : Calls Tryz.prog 61 #[x.agg] w (Lad κ w ([quitR, noneR, takeR 1, overR 0])) := by
  obtain ⟨W0, hW0⟩ : ∃ W0, w.alloc (.cells #[.int .i64 x.kind, .int .i64 x.obj, .int .i64 x.n, .int .i64 x.wait, .bool x.breaks] 72) = W0 := ⟨_, rfl⟩
  have hk0 : Kept (fun _ => False) w W0 := by rw [← hW0]; exact (Kept.refl _ _).alloc _
  have hh : W0.heap[w.heap.size]? = some (.cells #[.int .i64 x.kind, .int .i64 x.obj, .int .i64 x.n, .int .i64 x.wait, .bool x.breaks] 72 (0, 0)) := by rw [← hW0]; exact heap_new1 _ _
  have m0 : W0.cell? ⟨w.heap.size, 0, none⟩ = some (.int .i64 x.kind) := by rw [cell_at _ _ 0 _ _ hh]; rfl
  have m2 : W0.cell? ⟨w.heap.size, 2, none⟩ = some (.int .i64 x.n) := by rw [cell_at _ _ 2 _ _ hh]; rfl
  have HW0 := Lib.hid (hW.kept0 hk0)
  have HK0 := Lib.hid hk0
  have HOP := Lib.hid hh
  clear hW hk0 hh
  go_enter Tryz.func61, Tryz.ntmps61
  go_wp2_with fail
  refine (just_any κ 1 1 _ HW0.out).mono ?_
  rintro e w1 ⟨f1, c1, rfl, hx1, hk1⟩
  have hl1 := Lat.of0 (κ := κ) hk1
  have HW1 := Lib.hid (HW0.out.kept0 hk1)
  have HOP_1 := Lib.hid (hk1.at0 HOP.out)
  clear HOP
  have HK1 := Lib.hid (HK0.out.tr0 hk1)
  clear HK0
  have HF00 := Lib.hid hx1
  clear hx1 hk1 hl1
  go_wp2_with fail
  refine (marks1 HW1.out HF00.out).mono ?_
  rintro e w2 ⟨f2, c2, rfl, hx2, hk2⟩
  have hl2 := Lat.of0 (κ := κ) hk2
  have HW2 := Lib.hid (HW1.out.kept0 hk2)
  have HF00_2 := Lib.hid (HF00.out.lat hl2)
  clear HF00
  have HOP_2 := Lib.hid (hk2.at0 HOP_1.out)
  clear HOP_1
  have HK2 := Lib.hid (HK1.out.tr0 hk2)
  clear HK1
  have HL0 := Lib.hid hx2
  clear hx2 hk2 hl2
  go_wp2_with fail
  refine (to1 HW2.out 0).mono ?_
  rintro e w3 ⟨f3, c3, rfl, hx3, hk3⟩
  have hl3 := Lat.of0 (κ := κ) hk3
  have HW3 := Lib.hid (HW2.out.kept0 hk3)
  have HL0_3 := Lib.hid (HL0.out.lat hl3)
  clear HL0
  have HOP_3 := Lib.hid (hk3.at0 HOP_2.out)
  clear HOP_2
  have HK3 := Lib.hid (HK2.out.tr0 hk3)
  clear HK2
  have HC0 := Lib.hid hx3
  clear hx3 hk3 hl3
  obtain ⟨WB0, hWB0⟩ : ∃ WB0, w3.alloc (.cells #[.func (.func f2) #[] c2, .func (.func f3) #[] c3] 140) = WB0 := ⟨_, rfl⟩
  have hk4 : Kept (fun _ => False) w3 WB0 := by rw [← hWB0]; exact (Kept.refl _ _).alloc _
  have hb0 : WB0.heap[w3.heap.size]? = some (.cells #[.func (.func f2) #[] c2, .func (.func f3) #[] c3] 140 (0, 0)) := by rw [← hWB0]; exact heap_new1 _ _
  have hl4 := Lat.of0 (κ := κ) hk4
  have HW4 := Lib.hid (HW3.out.kept0 hk4)
  have HL0_4 := Lib.hid (HL0_3.out.lat hl4)
  clear HL0_3
  have HC0_4 := Lib.hid (HC0.out.lat hl4)
  clear HC0
  have HOP_4 := Lib.hid (hk4.at0 HOP_3.out)
  clear HOP_3
  have HK4 := Lib.hid (HK3.out.tr0 hk4)
  clear HK3
  have HBX0 := Lib.hid hb0
  clear hk4 hb0 hl4
  go_wp2_with fail
  refine (just_any κ 7 0 _ HW4.out).mono ?_
  rintro e w5 ⟨f5, c5, rfl, hx5, hk5⟩
  have hl5 := Lat.of0 (κ := κ) hk5
  have HW5 := Lib.hid (HW4.out.kept0 hk5)
  have HL0_5 := Lib.hid (HL0_4.out.lat hl5)
  clear HL0_4
  have HC0_5 := Lib.hid (HC0_4.out.lat hl5)
  clear HC0_4
  have HBX0_5 := Lib.hid (hk5.at0 HBX0.out)
  clear HBX0
  have HOP_5 := Lib.hid (hk5.at0 HOP_4.out)
  clear HOP_4
  have HK5 := Lib.hid (HK4.out.tr0 hk5)
  clear HK4
  have HF10 := Lib.hid hx5
  clear hx5 hk5 hl5
  go_wp2_with fail
  refine (marks1 HW5.out HF10.out).mono ?_
  rintro e w6 ⟨f6, c6, rfl, hx6, hk6⟩
  have hl6 := Lat.of0 (κ := κ) hk6
  have HW6 := Lib.hid (HW5.out.kept0 hk6)
  have HL0_6 := Lib.hid (HL0_5.out.lat hl6)
  clear HL0_5
  have HC0_6 := Lib.hid (HC0_5.out.lat hl6)
  clear HC0_5
  have HBX0_6 := Lib.hid (hk6.at0 HBX0_5.out)
  clear HBX0_5
  have HF10_6 := Lib.hid (HF10.out.lat hl6)
  clear HF10
  have HOP_6 := Lib.hid (hk6.at0 HOP_5.out)
  clear HOP_5
  have HK6 := Lib.hid (HK5.out.tr0 hk6)
  clear HK5
  have HL1 := Lib.hid hx6
  clear hx6 hk6 hl6
  go_wp2_with fail
  refine (to1 HW6.out 5).mono ?_
  rintro e w7 ⟨f7, c7, rfl, hx7, hk7⟩
  have hl7 := Lat.of0 (κ := κ) hk7
  have HW7 := Lib.hid (HW6.out.kept0 hk7)
  have HL0_7 := Lib.hid (HL0_6.out.lat hl7)
  clear HL0_6
  have HC0_7 := Lib.hid (HC0_6.out.lat hl7)
  clear HC0_6
  have HBX0_7 := Lib.hid (hk7.at0 HBX0_6.out)
  clear HBX0_6
  have HL1_7 := Lib.hid (HL1.out.lat hl7)
  clear HL1
  have HOP_7 := Lib.hid (hk7.at0 HOP_6.out)
  clear HOP_6
  have HK7 := Lib.hid (HK6.out.tr0 hk7)
  clear HK6
  have HC1 := Lib.hid hx7
  clear hx7 hk7 hl7
  obtain ⟨WB1, hWB1⟩ : ∃ WB1, w7.alloc (.cells #[.func (.func f6) #[] c6, .func (.func f7) #[] c7] 140) = WB1 := ⟨_, rfl⟩
  have hk8 : Kept (fun _ => False) w7 WB1 := by rw [← hWB1]; exact (Kept.refl _ _).alloc _
  have hb1 : WB1.heap[w7.heap.size]? = some (.cells #[.func (.func f6) #[] c6, .func (.func f7) #[] c7] 140 (0, 0)) := by rw [← hWB1]; exact heap_new1 _ _
  have hl8 := Lat.of0 (κ := κ) hk8
  have HW8 := Lib.hid (HW7.out.kept0 hk8)
  have HL0_8 := Lib.hid (HL0_7.out.lat hl8)
  clear HL0_7
  have HC0_8 := Lib.hid (HC0_7.out.lat hl8)
  clear HC0_7
  have HBX0_8 := Lib.hid (hk8.at0 HBX0_7.out)
  clear HBX0_7
  have HL1_8 := Lib.hid (HL1_7.out.lat hl8)
  clear HL1_7
  have HC1_8 := Lib.hid (HC1.out.lat hl8)
  clear HC1
  have HOP_8 := Lib.hid (hk8.at0 HOP_7.out)
  clear HOP_7
  have HK8 := Lib.hid (HK7.out.tr0 hk8)
  clear HK7
  have HBX1 := Lib.hid hb1
  clear hk8 hb1 hl8
  have m0 : WB1.cell? ⟨w.heap.size, 0, none⟩ = some (.int .i64 x.kind) := by rw [cell_at _ _ 0 _ _ HOP_8.out]; rfl
  have m2 : WB1.cell? ⟨w.heap.size, 2, none⟩ = some (.int .i64 x.n) := by rw [cell_at _ _ 2 _ _ HOP_8.out]; rfl
  have b00 : WB1.cell? ⟨w3.heap.size, 0, none⟩ = some (.func (.func f2) #[] c2) := by rw [cell_at _ _ 0 _ _ HBX0_8.out]; rfl
  have b01 : WB1.cell? ⟨w3.heap.size, 1, none⟩ = some (.func (.func f3) #[] c3) := by rw [cell_at _ _ 1 _ _ HBX0_8.out]; rfl
  have b10 : WB1.cell? ⟨w7.heap.size, 0, none⟩ = some (.func (.func f6) #[] c6) := by rw [cell_at _ _ 0 _ _ HBX1.out]; rfl
  have b11 : WB1.cell? ⟨w7.heap.size, 1, none⟩ = some (.func (.func f7) #[] c7) := by rw [cell_at _ _ 1 _ _ HBX1.out]; rfl
  have hRI := rows_new HW8.out [Rc.mk f2 c2 f3 c3, Rc.mk f6 c6 f7 c7] [takeR 1, overR 0] #[.func (.func f2) #[] c2, .func (.func f3) #[] c3, .func (.func f6) #[] c6, .func (.func f7) #[] c7] 140 rfl (by simp [maxLen]) ⟨⟨HL0_8.out, HC0_8.out⟩, ⟨HL1_8.out, HC1_8.out⟩, trivial⟩
  have hRK : Kept (fun _ => False) w (WB1.alloc (.cells #[.func (.func f2) #[] c2, .func (.func f3) #[] c3, .func (.func f6) #[] c6, .func (.func f7) #[] c7] 140)) := HK8.out.alloc _
  have HRW := Lib.hid (HW8.out.kept0 ((Kept.refl _ _).alloc (.cells #[.func (.func f2) #[] c2, .func (.func f3) #[] c3, .func (.func f6) #[] c6, .func (.func f7) #[] c7] 140)))
  have HRI := Lib.hid hRI
  have HRK := Lib.hid hRK
  clear hRI hRK
  clear HL0_8
  clear HC0_8
  clear HBX0_8
  clear HL1_8
  clear HC1_8
  clear HBX1
  go_wp2_with fail
  refine (rwaiting_any κ _ HRW.out _ 2 2 _ _ rfl (by decide) HRI.out).mono ?_
  rintro e w99 ⟨s9, n9, c9, xs9, rfl, h91, h92, h93⟩
  have HT := Lib.hid (show Lad κ w _ _ w99 from ⟨s9, n9, c9, xs9, rfl, h91, h92, HRK.out.tr0 h93⟩)
  clear h91 h92 h93
  go_wp2_with fail
  go_ret
  exact HT.out
set_option maxHeartbeats 8000000 in
theorem hold_2 (κ : Nat → Nat) (w : World) (hW : Wl κ w) (x : Cl) (k1 : (x.kind == 1) = false) (k13 : (x.kind == 13) = false) (k2 : (x.kind == 2) = true) : Calls Tryz.prog 61 #[x.agg] w (Lad κ w ([takeR 1, overR 0, failR 0])) := by
  obtain ⟨W0, hW0⟩ : ∃ W0, w.alloc (.cells #[.int .i64 x.kind, .int .i64 x.obj, .int .i64 x.n, .int .i64 x.wait, .bool x.breaks] 72) = W0 := ⟨_, rfl⟩
  have hk0 : Kept (fun _ => False) w W0 := by rw [← hW0]; exact (Kept.refl _ _).alloc _
  have hh : W0.heap[w.heap.size]? = some (.cells #[.int .i64 x.kind, .int .i64 x.obj, .int .i64 x.n, .int .i64 x.wait, .bool x.breaks] 72 (0, 0)) := by rw [← hW0]; exact heap_new1 _ _
  have m0 : W0.cell? ⟨w.heap.size, 0, none⟩ = some (.int .i64 x.kind) := by rw [cell_at _ _ 0 _ _ hh]; rfl
  have m2 : W0.cell? ⟨w.heap.size, 2, none⟩ = some (.int .i64 x.n) := by rw [cell_at _ _ 2 _ _ hh]; rfl
  have HW0 := Lib.hid (hW.kept0 hk0)
  have HK0 := Lib.hid hk0
  have HOP := Lib.hid hh
  clear hW hk0 hh
  go_enter Tryz.func61, Tryz.ntmps61
  go_wp2_with fail
  refine (just_any κ 1 1 _ HW0.out).mono ?_
  rintro e w1 ⟨f1, c1, rfl, hx1, hk1⟩
  have hl1 := Lat.of0 (κ := κ) hk1
  have HW1 := Lib.hid (HW0.out.kept0 hk1)
  have HOP_1 := Lib.hid (hk1.at0 HOP.out)
  clear HOP
  have HK1 := Lib.hid (HK0.out.tr0 hk1)
  clear HK0
  have HF00 := Lib.hid hx1
  clear hx1 hk1 hl1
  go_wp2_with fail
  refine (marks1 HW1.out HF00.out).mono ?_
  rintro e w2 ⟨f2, c2, rfl, hx2, hk2⟩
  have hl2 := Lat.of0 (κ := κ) hk2
  have HW2 := Lib.hid (HW1.out.kept0 hk2)
  have HF00_2 := Lib.hid (HF00.out.lat hl2)
  clear HF00
  have HOP_2 := Lib.hid (hk2.at0 HOP_1.out)
  clear HOP_1
  have HK2 := Lib.hid (HK1.out.tr0 hk2)
  clear HK1
  have HL0 := Lib.hid hx2
  clear hx2 hk2 hl2
  go_wp2_with fail
  refine (to1 HW2.out 0).mono ?_
  rintro e w3 ⟨f3, c3, rfl, hx3, hk3⟩
  have hl3 := Lat.of0 (κ := κ) hk3
  have HW3 := Lib.hid (HW2.out.kept0 hk3)
  have HL0_3 := Lib.hid (HL0.out.lat hl3)
  clear HL0
  have HOP_3 := Lib.hid (hk3.at0 HOP_2.out)
  clear HOP_2
  have HK3 := Lib.hid (HK2.out.tr0 hk3)
  clear HK2
  have HC0 := Lib.hid hx3
  clear hx3 hk3 hl3
  obtain ⟨WB0, hWB0⟩ : ∃ WB0, w3.alloc (.cells #[.func (.func f2) #[] c2, .func (.func f3) #[] c3] 140) = WB0 := ⟨_, rfl⟩
  have hk4 : Kept (fun _ => False) w3 WB0 := by rw [← hWB0]; exact (Kept.refl _ _).alloc _
  have hb0 : WB0.heap[w3.heap.size]? = some (.cells #[.func (.func f2) #[] c2, .func (.func f3) #[] c3] 140 (0, 0)) := by rw [← hWB0]; exact heap_new1 _ _
  have hl4 := Lat.of0 (κ := κ) hk4
  have HW4 := Lib.hid (HW3.out.kept0 hk4)
  have HL0_4 := Lib.hid (HL0_3.out.lat hl4)
  clear HL0_3
  have HC0_4 := Lib.hid (HC0.out.lat hl4)
  clear HC0
  have HOP_4 := Lib.hid (hk4.at0 HOP_3.out)
  clear HOP_3
  have HK4 := Lib.hid (HK3.out.tr0 hk4)
  clear HK3
  have HBX0 := Lib.hid hb0
  clear hk4 hb0 hl4
  go_wp2_with fail
  refine (just_any κ 7 0 _ HW4.out).mono ?_
  rintro e w5 ⟨f5, c5, rfl, hx5, hk5⟩
  have hl5 := Lat.of0 (κ := κ) hk5
  have HW5 := Lib.hid (HW4.out.kept0 hk5)
  have HL0_5 := Lib.hid (HL0_4.out.lat hl5)
  clear HL0_4
  have HC0_5 := Lib.hid (HC0_4.out.lat hl5)
  clear HC0_4
  have HBX0_5 := Lib.hid (hk5.at0 HBX0.out)
  clear HBX0
  have HOP_5 := Lib.hid (hk5.at0 HOP_4.out)
  clear HOP_4
  have HK5 := Lib.hid (HK4.out.tr0 hk5)
  clear HK4
  have HF10 := Lib.hid hx5
  clear hx5 hk5 hl5
  go_wp2_with fail
  refine (marks1 HW5.out HF10.out).mono ?_
  rintro e w6 ⟨f6, c6, rfl, hx6, hk6⟩
  have hl6 := Lat.of0 (κ := κ) hk6
  have HW6 := Lib.hid (HW5.out.kept0 hk6)
  have HL0_6 := Lib.hid (HL0_5.out.lat hl6)
  clear HL0_5
  have HC0_6 := Lib.hid (HC0_5.out.lat hl6)
  clear HC0_5
  have HBX0_6 := Lib.hid (hk6.at0 HBX0_5.out)
  clear HBX0_5
  have HF10_6 := Lib.hid (HF10.out.lat hl6)
  clear HF10
  have HOP_6 := Lib.hid (hk6.at0 HOP_5.out)
  clear HOP_5
  have HK6 := Lib.hid (HK5.out.tr0 hk6)
  clear HK5
  have HL1 := Lib.hid hx6
  clear hx6 hk6 hl6
  go_wp2_with fail
  refine (to1 HW6.out 5).mono ?_
  rintro e w7 ⟨f7, c7, rfl, hx7, hk7⟩
  have hl7 := Lat.of0 (κ := κ) hk7
  have HW7 := Lib.hid (HW6.out.kept0 hk7)
  have HL0_7 := Lib.hid (HL0_6.out.lat hl7)
  clear HL0_6
  have HC0_7 := Lib.hid (HC0_6.out.lat hl7)
  clear HC0_6
  have HBX0_7 := Lib.hid (hk7.at0 HBX0_6.out)
  clear HBX0_6
  have HL1_7 := Lib.hid (HL1.out.lat hl7)
  clear HL1
  have HOP_7 := Lib.hid (hk7.at0 HOP_6.out)
  clear HOP_6
  have HK7 := Lib.hid (HK6.out.tr0 hk7)
  clear HK6
  have HC1 := Lib.hid hx7
  clear hx7 hk7 hl7
  obtain ⟨WB1, hWB1⟩ : ∃ WB1, w7.alloc (.cells #[.func (.func f6) #[] c6, .func (.func f7) #[] c7] 140) = WB1 := ⟨_, rfl⟩
  have hk8 : Kept (fun _ => False) w7 WB1 := by rw [← hWB1]; exact (Kept.refl _ _).alloc _
  have hb1 : WB1.heap[w7.heap.size]? = some (.cells #[.func (.func f6) #[] c6, .func (.func f7) #[] c7] 140 (0, 0)) := by rw [← hWB1]; exact heap_new1 _ _
  have hl8 := Lat.of0 (κ := κ) hk8
  have HW8 := Lib.hid (HW7.out.kept0 hk8)
  have HL0_8 := Lib.hid (HL0_7.out.lat hl8)
  clear HL0_7
  have HC0_8 := Lib.hid (HC0_7.out.lat hl8)
  clear HC0_7
  have HBX0_8 := Lib.hid (hk8.at0 HBX0_7.out)
  clear HBX0_7
  have HL1_8 := Lib.hid (HL1_7.out.lat hl8)
  clear HL1_7
  have HC1_8 := Lib.hid (HC1.out.lat hl8)
  clear HC1
  have HOP_8 := Lib.hid (hk8.at0 HOP_7.out)
  clear HOP_7
  have HK8 := Lib.hid (HK7.out.tr0 hk8)
  clear HK7
  have HBX1 := Lib.hid hb1
  clear hk8 hb1 hl8
  have m0 : WB1.cell? ⟨w.heap.size, 0, none⟩ = some (.int .i64 x.kind) := by rw [cell_at _ _ 0 _ _ HOP_8.out]; rfl
  have m2 : WB1.cell? ⟨w.heap.size, 2, none⟩ = some (.int .i64 x.n) := by rw [cell_at _ _ 2 _ _ HOP_8.out]; rfl
  have b00 : WB1.cell? ⟨w3.heap.size, 0, none⟩ = some (.func (.func f2) #[] c2) := by rw [cell_at _ _ 0 _ _ HBX0_8.out]; rfl
  have b01 : WB1.cell? ⟨w3.heap.size, 1, none⟩ = some (.func (.func f3) #[] c3) := by rw [cell_at _ _ 1 _ _ HBX0_8.out]; rfl
  have b10 : WB1.cell? ⟨w7.heap.size, 0, none⟩ = some (.func (.func f6) #[] c6) := by rw [cell_at _ _ 0 _ _ HBX1.out]; rfl
  have b11 : WB1.cell? ⟨w7.heap.size, 1, none⟩ = some (.func (.func f7) #[] c7) := by rw [cell_at _ _ 1 _ _ HBX1.out]; rfl
  have HCEL : Hid (∀ w', Kept (fun _ => False) WB1 w' → w'.cell? ⟨w3.heap.size, 0, none⟩ = some (.func (.func f2) #[] c2) ∧ w'.cell? ⟨w3.heap.size, 1, none⟩ = some (.func (.func f3) #[] c3) ∧ w'.cell? ⟨w7.heap.size, 0, none⟩ = some (.func (.func f6) #[] c6) ∧ w'.cell? ⟨w7.heap.size, 1, none⟩ = some (.func (.func f7) #[] c7)) := Lib.hid (fun w' hk => ⟨(hk.cell (World.block_lt_of_cell? _ _ b00) (fun f => f)).trans b00, (hk.cell (World.block_lt_of_cell? _ _ b01) (fun f => f)).trans b01, (hk.cell (World.block_lt_of_cell? _ _ b10) (fun f => f)).trans b10, (hk.cell (World.block_lt_of_cell? _ _ b11) (fun f => f)).trans b11⟩)
  clear b00 b01 b10 b11
  go_wp2_with fail
  have HST : Hid (StayAll [PEq (.agg #[.func (.func f2) #[] c2, .func (.func f3) #[] c3]), PEq (.agg #[.func (.func f6) #[] c6, .func (.func f7) #[] c7]), PFit κ (fun m => m.kind == 5 && m.v == 0), PFits κ (fun m => m.kind == 5 && m.v == 0), PLook κ (marksL [fun _ m => (fun m => m.kind == 5 && m.v == 0) m]), PInts κ 1, PCome κ [1], PRow κ ⟨(marksL [fun _ m => (fun m => m.kind == 5 && m.v == 0) m]), [1]⟩, PRows κ [takeR 1, overR 0, ⟨(marksL [fun _ m => (fun m => m.kind == 5 && m.v == 0) m]), [1]⟩], PRows κ [takeR 1, overR 0, ⟨(marksL [fun _ m => (fun m => m.kind == 5 && m.v == 0) m]), [1]⟩]]) := Lib.hid ⟨stay_eq _, stay_eq _, stay_fit _ _, stay_fits _ _, stay_look _ _, stay_ints _ _, stay_come _ _, stay_row _ _, stay_rows _ _, stay_rows _ _, trivial⟩
  refine wp_region_any (by kernel_rfl) (wpAny_inv (fun l a w' => ∃ v0 v1 v2 v3 v4 v5 v6 v7 v8 v9, a = ⟨#[x.agg, Value.pointer (some { block := w.heap.size, off := 0 }), v9, Value.pointer (some { block := w3.heap.size, off := 0 }), Value.pointer (some { block := w7.heap.size, off := 0 }), Value.func (Fn.func f1) #[] c1, Value.slice (some { block := w1.heap.size, off := 0 }) 1 1, Value.func (Fn.func f2) #[] c2, Value.slice (some { block := w2.heap.size, off := 0 }) 1 1, Value.func (Fn.func f3) #[] c3, Value.agg #[Value.func (Fn.func f2) #[] c2, Value.func (Fn.func f3) #[] c3], Value.func (Fn.func f5) #[] c5, Value.slice (some { block := w5.heap.size, off := 0 }) 1 1, Value.func (Fn.func f6) #[] c6, Value.slice (some { block := w6.heap.size, off := 0 }) 1 1, Value.func (Fn.func f7) #[] c7, Value.agg #[Value.func (Fn.func f6) #[] c6, Value.func (Fn.func f7) #[] c7], Value.pointer (some { block := w.heap.size, off := 0 }), Value.int IntKind.i64 x.kind, Value.bool false, Value.bool false, Value.bool false, undef, undef, undef, undef, Value.bool true, Value.bool true, undef, v0, v1, v2, v3, v4, v5, v6, v7, v8, undef, undef, undef, undef, undef, undef, undef, undef, undef, undef, undef, undef, undef], []⟩ ∧ FG WB1 [PEq (.agg #[.func (.func f2) #[] c2, .func (.func f3) #[] c3]), PEq (.agg #[.func (.func f6) #[] c6, .func (.func f7) #[] c7]), PFit κ (fun m => m.kind == 5 && m.v == 0), PFits κ (fun m => m.kind == 5 && m.v == 0), PLook κ (marksL [fun _ m => (fun m => m.kind == 5 && m.v == 0) m]), PInts κ 1, PCome κ [1], PRow κ ⟨(marksL [fun _ m => (fun m => m.kind == 5 && m.v == 0) m]), [1]⟩, PRows κ [takeR 1, overR 0, ⟨(marksL [fun _ m => (fun m => m.kind == 5 && m.v == 0) m]), [1]⟩], PRows κ [takeR 1, overR 0, ⟨(marksL [fun _ m => (fun m => m.kind == 5 && m.v == 0) m]), [1]⟩]] l w' [v0, v1, v2, v3, v4, v5, v6, v7, v8, v9]) ?hstep ?hend _ _ _ _ (by simp) (by simp) ?hstart)
  case hstart =>
    exact ⟨_, _, _, _, _, _, _, _, _, _, rfl, ⟨(Kept.refl _ _).drew, fun i P v _ hv hf => (flag_none hf).elim⟩⟩
  case hstep =>
    intro l a w2 i hs hI hi
    have hs' : l.size = 10 := hs
    obtain ⟨hlt, hu, hd⟩ := ready_of hi
    have hsj : ∀ j, j ≠ i → (l.setIfInBounds i true).getD j false = true → l.getD j false = true := fun j hj h => by
      rw [getD_set (by omega), if_neg hj] at h; exact h
    have HS := Lib.hid hsj; clear hsj
    have hlt' : i < 10 := hlt
    clear hi hlt hu
    obtain ⟨v0, v1, v2, v3, v4, v5, v6, v7, v8, v9, rfl, F⟩ := hI
    have hi : i = 0 ∨ i = 1 ∨ i = 2 ∨ i = 3 ∨ i = 4 ∨ i = 5 ∨ i = 6 ∨ i = 7 ∨ i = 8 ∨ i = 9 := by omega
    clear hlt'
    rcases hi with rfl | rfl | rfl | rfl | rfl | rfl | rfl | rfl | rfl | rfl
    · obtain ⟨y0, y1, y2, y3⟩ := HCEL.out _ F.kept
      refine wpOp_open rfl (fun K hK => ?_)
      go_simp
      exact hK.out _ _ ⟨_, _, _, _, _, _, _, _, _, _, rfl, F.step HST.out 0 HS.out (Kept.refl _ _) _ rfl _ (rfl)⟩
    · obtain ⟨y0, y1, y2, y3⟩ := HCEL.out _ F.kept
      refine wpOp_open rfl (fun K hK => ?_)
      go_simp
      exact hK.out _ _ ⟨_, _, _, _, _, _, _, _, _, _, rfl, F.step HST.out 1 HS.out (Kept.refl _ _) _ rfl _ (rfl)⟩
    · refine wpOp_open rfl (fun K hK => ?_)
      go_simp
      refine (just_any κ 5 0 w2 (HW8.out.kept0 F.kept)).mono ?_
      rintro e w4 ⟨f4, c4, rfl, hx4, hk4⟩
      exact hK.out _ _ ⟨_, _, _, _, _, _, _, _, _, _, rfl, F.step HST.out 2 HS.out (hk4) _ rfl _ (⟨_, _, rfl, hx4⟩)⟩
    · have d2 : l.getD 2 false = true := by simp [Region.binds] at hd; simp [hd]
      obtain ⟨f3, c3, e3, hx3⟩ := F.at_ 2 _ _ rfl rfl d2
      subst e3
      refine wpOp_open rfl (fun K hK => ?_)
      go_simp
      exact hK.out _ _ ⟨_, _, _, _, _, _, _, _, _, _, rfl, F.step HST.out 3 HS.out ((Kept.refl _ _).alloc _) _ rfl _ (fits_p (HW8.out.kept0 F.kept) hx3)⟩
    · have d3 : l.getD 3 false = true := by simp [Region.binds] at hd; simp [hd]
      obtain ⟨g3, f3, c3, e3, hx3, hy3⟩ := F.at_ 3 _ _ rfl rfl d3
      subst e3
      refine wpOp_open rfl (fun K hK => ?_)
      go_simp
      refine (marks_p (HW8.out.kept0 F.kept) hx3 hy3).mono ?_
      rintro e w4 ⟨f4, c4, rfl, hx4, hk4⟩
      exact hK.out _ _ ⟨_, _, _, _, _, _, _, _, _, _, rfl, F.step HST.out 4 HS.out (hk4) _ rfl _ (⟨_, _, rfl, hx4⟩)⟩
    · refine wpOp_open rfl (fun K hK => ?_)
      go_simp
      exact hK.out _ _ ⟨_, _, _, _, _, _, _, _, _, _, rfl, F.step HST.out 5 HS.out ((Kept.refl _ _).alloc _) _ rfl _ (ints_p (HW8.out.kept0 F.kept) 1)⟩
    · have d5 : l.getD 5 false = true := by simp [Region.binds] at hd; simp [hd]
      obtain ⟨g3, e3, hx3⟩ := F.at_ 5 _ _ rfl rfl d5
      subst e3
      refine wpOp_open rfl (fun K hK => ?_)
      go_simp
      refine (to_p (HW8.out.kept0 F.kept) hx3).mono ?_
      rintro e w4 ⟨f4, c4, rfl, hx4, hk4⟩
      exact hK.out _ _ ⟨_, _, _, _, _, _, _, _, _, _, rfl, F.step HST.out 6 HS.out (hk4) _ rfl _ (⟨_, _, rfl, hx4⟩)⟩
    · have d4 : l.getD 4 false = true := by simp [Region.binds] at hd; simp [hd]
      have d6 : l.getD 6 false = true := by simp [Region.binds] at hd; simp [hd]
      obtain ⟨f3, c3, e3, hx3⟩ := F.at_ 4 _ _ rfl rfl d4
      subst e3
      obtain ⟨f5, c5, e5, hx5⟩ := F.at_ 6 _ _ rfl rfl d6
      subst e5
      refine wpOp_open rfl (fun K hK => ?_)
      go_simp
      exact hK.out _ _ ⟨_, _, _, _, _, _, _, _, _, _, rfl, F.step HST.out 7 HS.out (Kept.refl _ _) _ rfl _ (⟨_, _, _, _, rfl, hx3, hx5⟩)⟩
    · have d0 : l.getD 0 false = true := by simp [Region.binds] at hd; simp [hd]
      obtain rfl := F.at_ 0 _ _ rfl rfl d0
      have d1 : l.getD 1 false = true := by simp [Region.binds] at hd; simp [hd]
      obtain rfl := F.at_ 1 _ _ rfl rfl d1
      have d7 : l.getD 7 false = true := by simp [Region.binds] at hd; simp [hd]
      obtain ⟨fx7, cx7, gx7, zx7, e7, hx7, hy7⟩ := F.at_ 7 _ _ rfl rfl d7
      subst e7
      have hl2 := Lat.of0 (κ := κ) F.kept
      have hRI := rows_new (HW8.out.kept0 F.kept) [Rc.mk f2 c2 f3 c3, Rc.mk f6 c6 f7 c7, Rc.mk fx7 cx7 gx7 zx7] [takeR 1, overR 0, ⟨(marksL [fun _ m => (fun m => m.kind == 5 && m.v == 0) m]), [1]⟩] #[.func (.func f2) #[] c2, .func (.func f3) #[] c3, .func (.func f6) #[] c6, .func (.func f7) #[] c7, .func (.func fx7) #[] cx7, .func (.func gx7) #[] zx7] 140 rfl (by simp [maxLen]) ⟨⟨HL0_8.out.lat hl2, HC0_8.out.lat hl2⟩, ⟨HL1_8.out.lat hl2, HC1_8.out.lat hl2⟩, ⟨hx7, hy7⟩, trivial⟩
      refine wpOp_open rfl (fun K hK => ?_)
      go_simp
      exact hK.out _ _ ⟨_, _, _, _, _, _, _, _, _, _, rfl, F.step HST.out 8 HS.out ((Kept.refl _ _).alloc _) _ rfl _ (⟨_, _, _, _, rfl, rfl, hRI⟩)⟩
    · have d8 : l.getD 8 false = true := by simp [Region.binds] at hd; simp [hd]
      obtain ⟨s3, n3, c3, xs3, e3, hx3, hy3⟩ := F.at_ 8 _ _ rfl rfl d8
      subst e3
      have HX3 := Lib.hid hx3
      clear hx3
      refine wpOp_open rfl (fun K hK => ?_)
      go_simp
      exact hK.out _ _ ⟨_, _, _, _, _, _, _, _, _, _, rfl, F.step HST.out 9 HS.out (Kept.refl _ _) _ rfl _ (⟨_, _, _, _, rfl, HX3.out, hy3⟩)⟩
  case hend =>
    intro l a w2 hs hI hr
    have hs' : l.size = 10 := hs
    obtain ⟨v0, v1, v2, v3, v4, v5, v6, v7, v8, v9, rfl, F⟩ := hI
    have HAR := all_ready hs (by kernel_rfl) hr
    obtain ⟨s3, n3, c3, xs3, e3', hx3, hy3⟩ := F.at_ 9 _ _ rfl rfl (HAR 9 (by decide))
    subst e3'
    have HKF := Lib.hid F.kept
    have HX3 := Lib.hid hx3
    have HY3 := Lib.hid hy3
    clear F hr hx3 hy3 HAR
    go_wp2_with fail
    go_ret
    exact ⟨_, _, _, _, rfl, HX3.out, HY3.out, HK8.out.tr0 HKF.out⟩
set_option maxHeartbeats 8000000 in
theorem hold_14 (κ : Nat → Nat) (w : World) (hW : Wl κ w) (x : Cl) (k1 : (x.kind == 1) = false) (k13 : (x.kind == 13) = false) (k2 : (x.kind == 2) = false) (k14 : (x.kind == 14) = true) : Calls Tryz.prog 61 #[x.agg] w (Lad κ w ([takeR 1, overR 0, failR 0])) := by
  obtain ⟨W0, hW0⟩ : ∃ W0, w.alloc (.cells #[.int .i64 x.kind, .int .i64 x.obj, .int .i64 x.n, .int .i64 x.wait, .bool x.breaks] 72) = W0 := ⟨_, rfl⟩
  have hk0 : Kept (fun _ => False) w W0 := by rw [← hW0]; exact (Kept.refl _ _).alloc _
  have hh : W0.heap[w.heap.size]? = some (.cells #[.int .i64 x.kind, .int .i64 x.obj, .int .i64 x.n, .int .i64 x.wait, .bool x.breaks] 72 (0, 0)) := by rw [← hW0]; exact heap_new1 _ _
  have m0 : W0.cell? ⟨w.heap.size, 0, none⟩ = some (.int .i64 x.kind) := by rw [cell_at _ _ 0 _ _ hh]; rfl
  have m2 : W0.cell? ⟨w.heap.size, 2, none⟩ = some (.int .i64 x.n) := by rw [cell_at _ _ 2 _ _ hh]; rfl
  have HW0 := Lib.hid (hW.kept0 hk0)
  have HK0 := Lib.hid hk0
  have HOP := Lib.hid hh
  clear hW hk0 hh
  go_enter Tryz.func61, Tryz.ntmps61
  go_wp2_with fail
  refine (just_any κ 1 1 _ HW0.out).mono ?_
  rintro e w1 ⟨f1, c1, rfl, hx1, hk1⟩
  have hl1 := Lat.of0 (κ := κ) hk1
  have HW1 := Lib.hid (HW0.out.kept0 hk1)
  have HOP_1 := Lib.hid (hk1.at0 HOP.out)
  clear HOP
  have HK1 := Lib.hid (HK0.out.tr0 hk1)
  clear HK0
  have HF00 := Lib.hid hx1
  clear hx1 hk1 hl1
  go_wp2_with fail
  refine (marks1 HW1.out HF00.out).mono ?_
  rintro e w2 ⟨f2, c2, rfl, hx2, hk2⟩
  have hl2 := Lat.of0 (κ := κ) hk2
  have HW2 := Lib.hid (HW1.out.kept0 hk2)
  have HF00_2 := Lib.hid (HF00.out.lat hl2)
  clear HF00
  have HOP_2 := Lib.hid (hk2.at0 HOP_1.out)
  clear HOP_1
  have HK2 := Lib.hid (HK1.out.tr0 hk2)
  clear HK1
  have HL0 := Lib.hid hx2
  clear hx2 hk2 hl2
  go_wp2_with fail
  refine (to1 HW2.out 0).mono ?_
  rintro e w3 ⟨f3, c3, rfl, hx3, hk3⟩
  have hl3 := Lat.of0 (κ := κ) hk3
  have HW3 := Lib.hid (HW2.out.kept0 hk3)
  have HL0_3 := Lib.hid (HL0.out.lat hl3)
  clear HL0
  have HOP_3 := Lib.hid (hk3.at0 HOP_2.out)
  clear HOP_2
  have HK3 := Lib.hid (HK2.out.tr0 hk3)
  clear HK2
  have HC0 := Lib.hid hx3
  clear hx3 hk3 hl3
  obtain ⟨WB0, hWB0⟩ : ∃ WB0, w3.alloc (.cells #[.func (.func f2) #[] c2, .func (.func f3) #[] c3] 140) = WB0 := ⟨_, rfl⟩
  have hk4 : Kept (fun _ => False) w3 WB0 := by rw [← hWB0]; exact (Kept.refl _ _).alloc _
  have hb0 : WB0.heap[w3.heap.size]? = some (.cells #[.func (.func f2) #[] c2, .func (.func f3) #[] c3] 140 (0, 0)) := by rw [← hWB0]; exact heap_new1 _ _
  have hl4 := Lat.of0 (κ := κ) hk4
  have HW4 := Lib.hid (HW3.out.kept0 hk4)
  have HL0_4 := Lib.hid (HL0_3.out.lat hl4)
  clear HL0_3
  have HC0_4 := Lib.hid (HC0.out.lat hl4)
  clear HC0
  have HOP_4 := Lib.hid (hk4.at0 HOP_3.out)
  clear HOP_3
  have HK4 := Lib.hid (HK3.out.tr0 hk4)
  clear HK3
  have HBX0 := Lib.hid hb0
  clear hk4 hb0 hl4
  go_wp2_with fail
  refine (just_any κ 7 0 _ HW4.out).mono ?_
  rintro e w5 ⟨f5, c5, rfl, hx5, hk5⟩
  have hl5 := Lat.of0 (κ := κ) hk5
  have HW5 := Lib.hid (HW4.out.kept0 hk5)
  have HL0_5 := Lib.hid (HL0_4.out.lat hl5)
  clear HL0_4
  have HC0_5 := Lib.hid (HC0_4.out.lat hl5)
  clear HC0_4
  have HBX0_5 := Lib.hid (hk5.at0 HBX0.out)
  clear HBX0
  have HOP_5 := Lib.hid (hk5.at0 HOP_4.out)
  clear HOP_4
  have HK5 := Lib.hid (HK4.out.tr0 hk5)
  clear HK4
  have HF10 := Lib.hid hx5
  clear hx5 hk5 hl5
  go_wp2_with fail
  refine (marks1 HW5.out HF10.out).mono ?_
  rintro e w6 ⟨f6, c6, rfl, hx6, hk6⟩
  have hl6 := Lat.of0 (κ := κ) hk6
  have HW6 := Lib.hid (HW5.out.kept0 hk6)
  have HL0_6 := Lib.hid (HL0_5.out.lat hl6)
  clear HL0_5
  have HC0_6 := Lib.hid (HC0_5.out.lat hl6)
  clear HC0_5
  have HBX0_6 := Lib.hid (hk6.at0 HBX0_5.out)
  clear HBX0_5
  have HF10_6 := Lib.hid (HF10.out.lat hl6)
  clear HF10
  have HOP_6 := Lib.hid (hk6.at0 HOP_5.out)
  clear HOP_5
  have HK6 := Lib.hid (HK5.out.tr0 hk6)
  clear HK5
  have HL1 := Lib.hid hx6
  clear hx6 hk6 hl6
  go_wp2_with fail
  refine (to1 HW6.out 5).mono ?_
  rintro e w7 ⟨f7, c7, rfl, hx7, hk7⟩
  have hl7 := Lat.of0 (κ := κ) hk7
  have HW7 := Lib.hid (HW6.out.kept0 hk7)
  have HL0_7 := Lib.hid (HL0_6.out.lat hl7)
  clear HL0_6
  have HC0_7 := Lib.hid (HC0_6.out.lat hl7)
  clear HC0_6
  have HBX0_7 := Lib.hid (hk7.at0 HBX0_6.out)
  clear HBX0_6
  have HL1_7 := Lib.hid (HL1.out.lat hl7)
  clear HL1
  have HOP_7 := Lib.hid (hk7.at0 HOP_6.out)
  clear HOP_6
  have HK7 := Lib.hid (HK6.out.tr0 hk7)
  clear HK6
  have HC1 := Lib.hid hx7
  clear hx7 hk7 hl7
  obtain ⟨WB1, hWB1⟩ : ∃ WB1, w7.alloc (.cells #[.func (.func f6) #[] c6, .func (.func f7) #[] c7] 140) = WB1 := ⟨_, rfl⟩
  have hk8 : Kept (fun _ => False) w7 WB1 := by rw [← hWB1]; exact (Kept.refl _ _).alloc _
  have hb1 : WB1.heap[w7.heap.size]? = some (.cells #[.func (.func f6) #[] c6, .func (.func f7) #[] c7] 140 (0, 0)) := by rw [← hWB1]; exact heap_new1 _ _
  have hl8 := Lat.of0 (κ := κ) hk8
  have HW8 := Lib.hid (HW7.out.kept0 hk8)
  have HL0_8 := Lib.hid (HL0_7.out.lat hl8)
  clear HL0_7
  have HC0_8 := Lib.hid (HC0_7.out.lat hl8)
  clear HC0_7
  have HBX0_8 := Lib.hid (hk8.at0 HBX0_7.out)
  clear HBX0_7
  have HL1_8 := Lib.hid (HL1_7.out.lat hl8)
  clear HL1_7
  have HC1_8 := Lib.hid (HC1.out.lat hl8)
  clear HC1
  have HOP_8 := Lib.hid (hk8.at0 HOP_7.out)
  clear HOP_7
  have HK8 := Lib.hid (HK7.out.tr0 hk8)
  clear HK7
  have HBX1 := Lib.hid hb1
  clear hk8 hb1 hl8
  have m0 : WB1.cell? ⟨w.heap.size, 0, none⟩ = some (.int .i64 x.kind) := by rw [cell_at _ _ 0 _ _ HOP_8.out]; rfl
  have m2 : WB1.cell? ⟨w.heap.size, 2, none⟩ = some (.int .i64 x.n) := by rw [cell_at _ _ 2 _ _ HOP_8.out]; rfl
  have b00 : WB1.cell? ⟨w3.heap.size, 0, none⟩ = some (.func (.func f2) #[] c2) := by rw [cell_at _ _ 0 _ _ HBX0_8.out]; rfl
  have b01 : WB1.cell? ⟨w3.heap.size, 1, none⟩ = some (.func (.func f3) #[] c3) := by rw [cell_at _ _ 1 _ _ HBX0_8.out]; rfl
  have b10 : WB1.cell? ⟨w7.heap.size, 0, none⟩ = some (.func (.func f6) #[] c6) := by rw [cell_at _ _ 0 _ _ HBX1.out]; rfl
  have b11 : WB1.cell? ⟨w7.heap.size, 1, none⟩ = some (.func (.func f7) #[] c7) := by rw [cell_at _ _ 1 _ _ HBX1.out]; rfl
  have HCEL : Hid (∀ w', Kept (fun _ => False) WB1 w' → w'.cell? ⟨w3.heap.size, 0, none⟩ = some (.func (.func f2) #[] c2) ∧ w'.cell? ⟨w3.heap.size, 1, none⟩ = some (.func (.func f3) #[] c3) ∧ w'.cell? ⟨w7.heap.size, 0, none⟩ = some (.func (.func f6) #[] c6) ∧ w'.cell? ⟨w7.heap.size, 1, none⟩ = some (.func (.func f7) #[] c7)) := Lib.hid (fun w' hk => ⟨(hk.cell (World.block_lt_of_cell? _ _ b00) (fun f => f)).trans b00, (hk.cell (World.block_lt_of_cell? _ _ b01) (fun f => f)).trans b01, (hk.cell (World.block_lt_of_cell? _ _ b10) (fun f => f)).trans b10, (hk.cell (World.block_lt_of_cell? _ _ b11) (fun f => f)).trans b11⟩)
  clear b00 b01 b10 b11
  go_wp2_with fail
  have HST : Hid (StayAll [PEq (.agg #[.func (.func f2) #[] c2, .func (.func f3) #[] c3]), PEq (.agg #[.func (.func f6) #[] c6, .func (.func f7) #[] c7]), PFit κ (fun m => m.kind == 5 && m.v == 0), PFits κ (fun m => m.kind == 5 && m.v == 0), PLook κ (marksL [fun _ m => (fun m => m.kind == 5 && m.v == 0) m]), PInts κ 1, PCome κ [1], PRow κ ⟨(marksL [fun _ m => (fun m => m.kind == 5 && m.v == 0) m]), [1]⟩, PRows κ [takeR 1, overR 0, ⟨(marksL [fun _ m => (fun m => m.kind == 5 && m.v == 0) m]), [1]⟩], PRows κ [takeR 1, overR 0, ⟨(marksL [fun _ m => (fun m => m.kind == 5 && m.v == 0) m]), [1]⟩]]) := Lib.hid ⟨stay_eq _, stay_eq _, stay_fit _ _, stay_fits _ _, stay_look _ _, stay_ints _ _, stay_come _ _, stay_row _ _, stay_rows _ _, stay_rows _ _, trivial⟩
  refine wp_region_any (by kernel_rfl) (wpAny_inv (fun l a w' => ∃ v0 v1 v2 v3 v4 v5 v6 v7 v8 v9, a = ⟨#[x.agg, Value.pointer (some { block := w.heap.size, off := 0 }), v9, Value.pointer (some { block := w3.heap.size, off := 0 }), Value.pointer (some { block := w7.heap.size, off := 0 }), Value.func (Fn.func f1) #[] c1, Value.slice (some { block := w1.heap.size, off := 0 }) 1 1, Value.func (Fn.func f2) #[] c2, Value.slice (some { block := w2.heap.size, off := 0 }) 1 1, Value.func (Fn.func f3) #[] c3, Value.agg #[Value.func (Fn.func f2) #[] c2, Value.func (Fn.func f3) #[] c3], Value.func (Fn.func f5) #[] c5, Value.slice (some { block := w5.heap.size, off := 0 }) 1 1, Value.func (Fn.func f6) #[] c6, Value.slice (some { block := w6.heap.size, off := 0 }) 1 1, Value.func (Fn.func f7) #[] c7, Value.agg #[Value.func (Fn.func f6) #[] c6, Value.func (Fn.func f7) #[] c7], Value.pointer (some { block := w.heap.size, off := 0 }), Value.int IntKind.i64 x.kind, Value.bool false, Value.bool false, Value.bool false, undef, undef, undef, undef, Value.bool true, Value.bool false, Value.bool true, v0, v1, v2, v3, v4, v5, v6, v7, v8, undef, undef, undef, undef, undef, undef, undef, undef, undef, undef, undef, undef, undef], []⟩ ∧ FG WB1 [PEq (.agg #[.func (.func f2) #[] c2, .func (.func f3) #[] c3]), PEq (.agg #[.func (.func f6) #[] c6, .func (.func f7) #[] c7]), PFit κ (fun m => m.kind == 5 && m.v == 0), PFits κ (fun m => m.kind == 5 && m.v == 0), PLook κ (marksL [fun _ m => (fun m => m.kind == 5 && m.v == 0) m]), PInts κ 1, PCome κ [1], PRow κ ⟨(marksL [fun _ m => (fun m => m.kind == 5 && m.v == 0) m]), [1]⟩, PRows κ [takeR 1, overR 0, ⟨(marksL [fun _ m => (fun m => m.kind == 5 && m.v == 0) m]), [1]⟩], PRows κ [takeR 1, overR 0, ⟨(marksL [fun _ m => (fun m => m.kind == 5 && m.v == 0) m]), [1]⟩]] l w' [v0, v1, v2, v3, v4, v5, v6, v7, v8, v9]) ?hstep ?hend _ _ _ _ (by simp) (by simp) ?hstart)
  case hstart =>
    exact ⟨_, _, _, _, _, _, _, _, _, _, rfl, ⟨(Kept.refl _ _).drew, fun i P v _ hv hf => (flag_none hf).elim⟩⟩
  case hstep =>
    intro l a w2 i hs hI hi
    have hs' : l.size = 10 := hs
    obtain ⟨hlt, hu, hd⟩ := ready_of hi
    have hsj : ∀ j, j ≠ i → (l.setIfInBounds i true).getD j false = true → l.getD j false = true := fun j hj h => by
      rw [getD_set (by omega), if_neg hj] at h; exact h
    have HS := Lib.hid hsj; clear hsj
    have hlt' : i < 10 := hlt
    clear hi hlt hu
    obtain ⟨v0, v1, v2, v3, v4, v5, v6, v7, v8, v9, rfl, F⟩ := hI
    have hi : i = 0 ∨ i = 1 ∨ i = 2 ∨ i = 3 ∨ i = 4 ∨ i = 5 ∨ i = 6 ∨ i = 7 ∨ i = 8 ∨ i = 9 := by omega
    clear hlt'
    rcases hi with rfl | rfl | rfl | rfl | rfl | rfl | rfl | rfl | rfl | rfl
    · obtain ⟨y0, y1, y2, y3⟩ := HCEL.out _ F.kept
      refine wpOp_open rfl (fun K hK => ?_)
      go_simp
      exact hK.out _ _ ⟨_, _, _, _, _, _, _, _, _, _, rfl, F.step HST.out 0 HS.out (Kept.refl _ _) _ rfl _ (rfl)⟩
    · obtain ⟨y0, y1, y2, y3⟩ := HCEL.out _ F.kept
      refine wpOp_open rfl (fun K hK => ?_)
      go_simp
      exact hK.out _ _ ⟨_, _, _, _, _, _, _, _, _, _, rfl, F.step HST.out 1 HS.out (Kept.refl _ _) _ rfl _ (rfl)⟩
    · refine wpOp_open rfl (fun K hK => ?_)
      go_simp
      refine (just_any κ 5 0 w2 (HW8.out.kept0 F.kept)).mono ?_
      rintro e w4 ⟨f4, c4, rfl, hx4, hk4⟩
      exact hK.out _ _ ⟨_, _, _, _, _, _, _, _, _, _, rfl, F.step HST.out 2 HS.out (hk4) _ rfl _ (⟨_, _, rfl, hx4⟩)⟩
    · have d2 : l.getD 2 false = true := by simp [Region.binds] at hd; simp [hd]
      obtain ⟨f3, c3, e3, hx3⟩ := F.at_ 2 _ _ rfl rfl d2
      subst e3
      refine wpOp_open rfl (fun K hK => ?_)
      go_simp
      exact hK.out _ _ ⟨_, _, _, _, _, _, _, _, _, _, rfl, F.step HST.out 3 HS.out ((Kept.refl _ _).alloc _) _ rfl _ (fits_p (HW8.out.kept0 F.kept) hx3)⟩
    · have d3 : l.getD 3 false = true := by simp [Region.binds] at hd; simp [hd]
      obtain ⟨g3, f3, c3, e3, hx3, hy3⟩ := F.at_ 3 _ _ rfl rfl d3
      subst e3
      refine wpOp_open rfl (fun K hK => ?_)
      go_simp
      refine (marks_p (HW8.out.kept0 F.kept) hx3 hy3).mono ?_
      rintro e w4 ⟨f4, c4, rfl, hx4, hk4⟩
      exact hK.out _ _ ⟨_, _, _, _, _, _, _, _, _, _, rfl, F.step HST.out 4 HS.out (hk4) _ rfl _ (⟨_, _, rfl, hx4⟩)⟩
    · refine wpOp_open rfl (fun K hK => ?_)
      go_simp
      exact hK.out _ _ ⟨_, _, _, _, _, _, _, _, _, _, rfl, F.step HST.out 5 HS.out ((Kept.refl _ _).alloc _) _ rfl _ (ints_p (HW8.out.kept0 F.kept) 1)⟩
    · have d5 : l.getD 5 false = true := by simp [Region.binds] at hd; simp [hd]
      obtain ⟨g3, e3, hx3⟩ := F.at_ 5 _ _ rfl rfl d5
      subst e3
      refine wpOp_open rfl (fun K hK => ?_)
      go_simp
      refine (to_p (HW8.out.kept0 F.kept) hx3).mono ?_
      rintro e w4 ⟨f4, c4, rfl, hx4, hk4⟩
      exact hK.out _ _ ⟨_, _, _, _, _, _, _, _, _, _, rfl, F.step HST.out 6 HS.out (hk4) _ rfl _ (⟨_, _, rfl, hx4⟩)⟩
    · have d4 : l.getD 4 false = true := by simp [Region.binds] at hd; simp [hd]
      have d6 : l.getD 6 false = true := by simp [Region.binds] at hd; simp [hd]
      obtain ⟨f3, c3, e3, hx3⟩ := F.at_ 4 _ _ rfl rfl d4
      subst e3
      obtain ⟨f5, c5, e5, hx5⟩ := F.at_ 6 _ _ rfl rfl d6
      subst e5
      refine wpOp_open rfl (fun K hK => ?_)
      go_simp
      exact hK.out _ _ ⟨_, _, _, _, _, _, _, _, _, _, rfl, F.step HST.out 7 HS.out (Kept.refl _ _) _ rfl _ (⟨_, _, _, _, rfl, hx3, hx5⟩)⟩
    · have d0 : l.getD 0 false = true := by simp [Region.binds] at hd; simp [hd]
      obtain rfl := F.at_ 0 _ _ rfl rfl d0
      have d1 : l.getD 1 false = true := by simp [Region.binds] at hd; simp [hd]
      obtain rfl := F.at_ 1 _ _ rfl rfl d1
      have d7 : l.getD 7 false = true := by simp [Region.binds] at hd; simp [hd]
      obtain ⟨fx7, cx7, gx7, zx7, e7, hx7, hy7⟩ := F.at_ 7 _ _ rfl rfl d7
      subst e7
      have hl2 := Lat.of0 (κ := κ) F.kept
      have hRI := rows_new (HW8.out.kept0 F.kept) [Rc.mk f2 c2 f3 c3, Rc.mk f6 c6 f7 c7, Rc.mk fx7 cx7 gx7 zx7] [takeR 1, overR 0, ⟨(marksL [fun _ m => (fun m => m.kind == 5 && m.v == 0) m]), [1]⟩] #[.func (.func f2) #[] c2, .func (.func f3) #[] c3, .func (.func f6) #[] c6, .func (.func f7) #[] c7, .func (.func fx7) #[] cx7, .func (.func gx7) #[] zx7] 140 rfl (by simp [maxLen]) ⟨⟨HL0_8.out.lat hl2, HC0_8.out.lat hl2⟩, ⟨HL1_8.out.lat hl2, HC1_8.out.lat hl2⟩, ⟨hx7, hy7⟩, trivial⟩
      refine wpOp_open rfl (fun K hK => ?_)
      go_simp
      exact hK.out _ _ ⟨_, _, _, _, _, _, _, _, _, _, rfl, F.step HST.out 8 HS.out ((Kept.refl _ _).alloc _) _ rfl _ (⟨_, _, _, _, rfl, rfl, hRI⟩)⟩
    · have d8 : l.getD 8 false = true := by simp [Region.binds] at hd; simp [hd]
      obtain ⟨s3, n3, c3, xs3, e3, hx3, hy3⟩ := F.at_ 8 _ _ rfl rfl d8
      subst e3
      have HX3 := Lib.hid hx3
      clear hx3
      refine wpOp_open rfl (fun K hK => ?_)
      go_simp
      exact hK.out _ _ ⟨_, _, _, _, _, _, _, _, _, _, rfl, F.step HST.out 9 HS.out (Kept.refl _ _) _ rfl _ (⟨_, _, _, _, rfl, HX3.out, hy3⟩)⟩
  case hend =>
    intro l a w2 hs hI hr
    have hs' : l.size = 10 := hs
    obtain ⟨v0, v1, v2, v3, v4, v5, v6, v7, v8, v9, rfl, F⟩ := hI
    have HAR := all_ready hs (by kernel_rfl) hr
    obtain ⟨s3, n3, c3, xs3, e3', hx3, hy3⟩ := F.at_ 9 _ _ rfl rfl (HAR 9 (by decide))
    subst e3'
    have HKF := Lib.hid F.kept
    have HX3 := Lib.hid hx3
    have HY3 := Lib.hid hy3
    clear F hr hx3 hy3 HAR
    go_wp2_with fail
    go_ret
    exact ⟨_, _, _, _, rfl, HX3.out, HY3.out, HK8.out.tr0 HKF.out⟩
set_option maxHeartbeats 8000000 in
theorem hold_no (κ : Nat → Nat) (w : World) (hW : Wl κ w) (x : Cl) (k1 : (x.kind == 1) = false) (k13 : (x.kind == 13) = false) (k2 : (x.kind == 2) = false) (k14 : (x.kind == 14) = false) : Calls Tryz.prog 61 #[x.agg] w (Lad κ w ([freeR 0, monR 0])) := by
  obtain ⟨W0, hW0⟩ : ∃ W0, w.alloc (.cells #[.int .i64 x.kind, .int .i64 x.obj, .int .i64 x.n, .int .i64 x.wait, .bool x.breaks] 72) = W0 := ⟨_, rfl⟩
  have hk0 : Kept (fun _ => False) w W0 := by rw [← hW0]; exact (Kept.refl _ _).alloc _
  have hh : W0.heap[w.heap.size]? = some (.cells #[.int .i64 x.kind, .int .i64 x.obj, .int .i64 x.n, .int .i64 x.wait, .bool x.breaks] 72 (0, 0)) := by rw [← hW0]; exact heap_new1 _ _
  have m0 : W0.cell? ⟨w.heap.size, 0, none⟩ = some (.int .i64 x.kind) := by rw [cell_at _ _ 0 _ _ hh]; rfl
  have m2 : W0.cell? ⟨w.heap.size, 2, none⟩ = some (.int .i64 x.n) := by rw [cell_at _ _ 2 _ _ hh]; rfl
  have HW0 := Lib.hid (hW.kept0 hk0)
  have HK0 := Lib.hid hk0
  have HOP := Lib.hid hh
  clear hW hk0 hh
  go_enter Tryz.func61, Tryz.ntmps61
  go_wp2_with fail
  refine (just_any κ 1 1 _ HW0.out).mono ?_
  rintro e w1 ⟨f1, c1, rfl, hx1, hk1⟩
  have hl1 := Lat.of0 (κ := κ) hk1
  have HW1 := Lib.hid (HW0.out.kept0 hk1)
  have HOP_1 := Lib.hid (hk1.at0 HOP.out)
  clear HOP
  have HK1 := Lib.hid (HK0.out.tr0 hk1)
  clear HK0
  have HF00 := Lib.hid hx1
  clear hx1 hk1 hl1
  go_wp2_with fail
  refine (marks1 HW1.out HF00.out).mono ?_
  rintro e w2 ⟨f2, c2, rfl, hx2, hk2⟩
  have hl2 := Lat.of0 (κ := κ) hk2
  have HW2 := Lib.hid (HW1.out.kept0 hk2)
  have HF00_2 := Lib.hid (HF00.out.lat hl2)
  clear HF00
  have HOP_2 := Lib.hid (hk2.at0 HOP_1.out)
  clear HOP_1
  have HK2 := Lib.hid (HK1.out.tr0 hk2)
  clear HK1
  have HL0 := Lib.hid hx2
  clear hx2 hk2 hl2
  go_wp2_with fail
  refine (to1 HW2.out 0).mono ?_
  rintro e w3 ⟨f3, c3, rfl, hx3, hk3⟩
  have hl3 := Lat.of0 (κ := κ) hk3
  have HW3 := Lib.hid (HW2.out.kept0 hk3)
  have HL0_3 := Lib.hid (HL0.out.lat hl3)
  clear HL0
  have HOP_3 := Lib.hid (hk3.at0 HOP_2.out)
  clear HOP_2
  have HK3 := Lib.hid (HK2.out.tr0 hk3)
  clear HK2
  have HC0 := Lib.hid hx3
  clear hx3 hk3 hl3
  obtain ⟨WB0, hWB0⟩ : ∃ WB0, w3.alloc (.cells #[.func (.func f2) #[] c2, .func (.func f3) #[] c3] 140) = WB0 := ⟨_, rfl⟩
  have hk4 : Kept (fun _ => False) w3 WB0 := by rw [← hWB0]; exact (Kept.refl _ _).alloc _
  have hb0 : WB0.heap[w3.heap.size]? = some (.cells #[.func (.func f2) #[] c2, .func (.func f3) #[] c3] 140 (0, 0)) := by rw [← hWB0]; exact heap_new1 _ _
  have hl4 := Lat.of0 (κ := κ) hk4
  have HW4 := Lib.hid (HW3.out.kept0 hk4)
  have HL0_4 := Lib.hid (HL0_3.out.lat hl4)
  clear HL0_3
  have HC0_4 := Lib.hid (HC0.out.lat hl4)
  clear HC0
  have HOP_4 := Lib.hid (hk4.at0 HOP_3.out)
  clear HOP_3
  have HK4 := Lib.hid (HK3.out.tr0 hk4)
  clear HK3
  have HBX0 := Lib.hid hb0
  clear hk4 hb0 hl4
  go_wp2_with fail
  refine (just_any κ 7 0 _ HW4.out).mono ?_
  rintro e w5 ⟨f5, c5, rfl, hx5, hk5⟩
  have hl5 := Lat.of0 (κ := κ) hk5
  have HW5 := Lib.hid (HW4.out.kept0 hk5)
  have HL0_5 := Lib.hid (HL0_4.out.lat hl5)
  clear HL0_4
  have HC0_5 := Lib.hid (HC0_4.out.lat hl5)
  clear HC0_4
  have HBX0_5 := Lib.hid (hk5.at0 HBX0.out)
  clear HBX0
  have HOP_5 := Lib.hid (hk5.at0 HOP_4.out)
  clear HOP_4
  have HK5 := Lib.hid (HK4.out.tr0 hk5)
  clear HK4
  have HF10 := Lib.hid hx5
  clear hx5 hk5 hl5
  go_wp2_with fail
  refine (marks1 HW5.out HF10.out).mono ?_
  rintro e w6 ⟨f6, c6, rfl, hx6, hk6⟩
  have hl6 := Lat.of0 (κ := κ) hk6
  have HW6 := Lib.hid (HW5.out.kept0 hk6)
  have HL0_6 := Lib.hid (HL0_5.out.lat hl6)
  clear HL0_5
  have HC0_6 := Lib.hid (HC0_5.out.lat hl6)
  clear HC0_5
  have HBX0_6 := Lib.hid (hk6.at0 HBX0_5.out)
  clear HBX0_5
  have HF10_6 := Lib.hid (HF10.out.lat hl6)
  clear HF10
  have HOP_6 := Lib.hid (hk6.at0 HOP_5.out)
  clear HOP_5
  have HK6 := Lib.hid (HK5.out.tr0 hk6)
  clear HK5
  have HL1 := Lib.hid hx6
  clear hx6 hk6 hl6
  go_wp2_with fail
  refine (to1 HW6.out 5).mono ?_
  rintro e w7 ⟨f7, c7, rfl, hx7, hk7⟩
  have hl7 := Lat.of0 (κ := κ) hk7
  have HW7 := Lib.hid (HW6.out.kept0 hk7)
  have HL0_7 := Lib.hid (HL0_6.out.lat hl7)
  clear HL0_6
  have HC0_7 := Lib.hid (HC0_6.out.lat hl7)
  clear HC0_6
  have HBX0_7 := Lib.hid (hk7.at0 HBX0_6.out)
  clear HBX0_6
  have HL1_7 := Lib.hid (HL1.out.lat hl7)
  clear HL1
  have HOP_7 := Lib.hid (hk7.at0 HOP_6.out)
  clear HOP_6
  have HK7 := Lib.hid (HK6.out.tr0 hk7)
  clear HK6
  have HC1 := Lib.hid hx7
  clear hx7 hk7 hl7
  obtain ⟨WB1, hWB1⟩ : ∃ WB1, w7.alloc (.cells #[.func (.func f6) #[] c6, .func (.func f7) #[] c7] 140) = WB1 := ⟨_, rfl⟩
  have hk8 : Kept (fun _ => False) w7 WB1 := by rw [← hWB1]; exact (Kept.refl _ _).alloc _
  have hb1 : WB1.heap[w7.heap.size]? = some (.cells #[.func (.func f6) #[] c6, .func (.func f7) #[] c7] 140 (0, 0)) := by rw [← hWB1]; exact heap_new1 _ _
  have hl8 := Lat.of0 (κ := κ) hk8
  have HW8 := Lib.hid (HW7.out.kept0 hk8)
  have HL0_8 := Lib.hid (HL0_7.out.lat hl8)
  clear HL0_7
  have HC0_8 := Lib.hid (HC0_7.out.lat hl8)
  clear HC0_7
  have HBX0_8 := Lib.hid (hk8.at0 HBX0_7.out)
  clear HBX0_7
  have HL1_8 := Lib.hid (HL1_7.out.lat hl8)
  clear HL1_7
  have HC1_8 := Lib.hid (HC1.out.lat hl8)
  clear HC1
  have HOP_8 := Lib.hid (hk8.at0 HOP_7.out)
  clear HOP_7
  have HK8 := Lib.hid (HK7.out.tr0 hk8)
  clear HK7
  have HBX1 := Lib.hid hb1
  clear hk8 hb1 hl8
  have m0 : WB1.cell? ⟨w.heap.size, 0, none⟩ = some (.int .i64 x.kind) := by rw [cell_at _ _ 0 _ _ HOP_8.out]; rfl
  have m2 : WB1.cell? ⟨w.heap.size, 2, none⟩ = some (.int .i64 x.n) := by rw [cell_at _ _ 2 _ _ HOP_8.out]; rfl
  have b00 : WB1.cell? ⟨w3.heap.size, 0, none⟩ = some (.func (.func f2) #[] c2) := by rw [cell_at _ _ 0 _ _ HBX0_8.out]; rfl
  have b01 : WB1.cell? ⟨w3.heap.size, 1, none⟩ = some (.func (.func f3) #[] c3) := by rw [cell_at _ _ 1 _ _ HBX0_8.out]; rfl
  have b10 : WB1.cell? ⟨w7.heap.size, 0, none⟩ = some (.func (.func f6) #[] c6) := by rw [cell_at _ _ 0 _ _ HBX1.out]; rfl
  have b11 : WB1.cell? ⟨w7.heap.size, 1, none⟩ = some (.func (.func f7) #[] c7) := by rw [cell_at _ _ 1 _ _ HBX1.out]; rfl
  clear HL0_8
  clear HC0_8
  clear HL1_8
  clear HC1_8
  clear HBX0_8
  clear HBX1
  go_wp2_with fail
  refine (just_any κ 3 0 _ HW8.out).mono ?_
  rintro e w9 ⟨f9, c9, rfl, hx9, hk9⟩
  have hl9 := Lat.of0 (κ := κ) hk9
  have HW9 := Lib.hid (HW8.out.kept0 hk9)
  have HOP_9 := Lib.hid (hk9.at0 HOP_8.out)
  clear HOP_8
  have HK9 := Lib.hid (HK8.out.tr0 hk9)
  clear HK8
  have HF20 := Lib.hid hx9
  clear hx9 hk9 hl9
  go_wp2_with fail
  refine (marks1 HW9.out HF20.out).mono ?_
  rintro e w10 ⟨f10, c10, rfl, hx10, hk10⟩
  have hl10 := Lat.of0 (κ := κ) hk10
  have HW10 := Lib.hid (HW9.out.kept0 hk10)
  have HF20_10 := Lib.hid (HF20.out.lat hl10)
  clear HF20
  have HOP_10 := Lib.hid (hk10.at0 HOP_9.out)
  clear HOP_9
  have HK10 := Lib.hid (HK9.out.tr0 hk10)
  clear HK9
  have HL2 := Lib.hid hx10
  clear hx10 hk10 hl10
  go_wp2_with fail
  refine (to1 HW10.out 0).mono ?_
  rintro e w11 ⟨f11, c11, rfl, hx11, hk11⟩
  have hl11 := Lat.of0 (κ := κ) hk11
  have HW11 := Lib.hid (HW10.out.kept0 hk11)
  have HL2_11 := Lib.hid (HL2.out.lat hl11)
  clear HL2
  have HOP_11 := Lib.hid (hk11.at0 HOP_10.out)
  clear HOP_10
  have HK11 := Lib.hid (HK10.out.tr0 hk11)
  clear HK10
  have HC2 := Lib.hid hx11
  clear hx11 hk11 hl11
  go_wp2_with fail
  refine (just_any κ 6 0 _ HW11.out).mono ?_
  rintro e w12 ⟨f12, c12, rfl, hx12, hk12⟩
  have hl12 := Lat.of0 (κ := κ) hk12
  have HW12 := Lib.hid (HW11.out.kept0 hk12)
  have HL2_12 := Lib.hid (HL2_11.out.lat hl12)
  clear HL2_11
  have HC2_12 := Lib.hid (HC2.out.lat hl12)
  clear HC2
  have HOP_12 := Lib.hid (hk12.at0 HOP_11.out)
  clear HOP_11
  have HK12 := Lib.hid (HK11.out.tr0 hk12)
  clear HK11
  have HF30 := Lib.hid hx12
  clear hx12 hk12 hl12
  go_wp2_with fail
  refine (marks1 HW12.out HF30.out).mono ?_
  rintro e w13 ⟨f13, c13, rfl, hx13, hk13⟩
  have hl13 := Lat.of0 (κ := κ) hk13
  have HW13 := Lib.hid (HW12.out.kept0 hk13)
  have HL2_13 := Lib.hid (HL2_12.out.lat hl13)
  clear HL2_12
  have HC2_13 := Lib.hid (HC2_12.out.lat hl13)
  clear HC2_12
  have HF30_13 := Lib.hid (HF30.out.lat hl13)
  clear HF30
  have HOP_13 := Lib.hid (hk13.at0 HOP_12.out)
  clear HOP_12
  have HK13 := Lib.hid (HK12.out.tr0 hk13)
  clear HK12
  have HL3 := Lib.hid hx13
  clear hx13 hk13 hl13
  go_wp2_with fail
  refine (to1 HW13.out 4).mono ?_
  rintro e w14 ⟨f14, c14, rfl, hx14, hk14⟩
  have hl14 := Lat.of0 (κ := κ) hk14
  have HW14 := Lib.hid (HW13.out.kept0 hk14)
  have HL2_14 := Lib.hid (HL2_13.out.lat hl14)
  clear HL2_13
  have HC2_14 := Lib.hid (HC2_13.out.lat hl14)
  clear HC2_13
  have HL3_14 := Lib.hid (HL3.out.lat hl14)
  clear HL3
  have HOP_14 := Lib.hid (hk14.at0 HOP_13.out)
  clear HOP_13
  have HK14 := Lib.hid (HK13.out.tr0 hk14)
  clear HK13
  have HC3 := Lib.hid hx14
  clear hx14 hk14 hl14
  have hRI := rows_new HW14.out [Rc.mk f10 c10 f11 c11, Rc.mk f13 c13 f14 c14] [freeR 0, monR 0] #[.func (.func f10) #[] c10, .func (.func f11) #[] c11, .func (.func f13) #[] c13, .func (.func f14) #[] c14] 140 rfl (by simp [maxLen]) ⟨⟨HL2_14.out, HC2_14.out⟩, ⟨HL3_14.out, HC3.out⟩, trivial⟩
  have hRK : Kept (fun _ => False) w (w14.alloc (.cells #[.func (.func f10) #[] c10, .func (.func f11) #[] c11, .func (.func f13) #[] c13, .func (.func f14) #[] c14] 140)) := HK14.out.alloc _
  have HRW := Lib.hid (HW14.out.kept0 ((Kept.refl _ _).alloc (.cells #[.func (.func f10) #[] c10, .func (.func f11) #[] c11, .func (.func f13) #[] c13, .func (.func f14) #[] c14] 140)))
  have HRI := Lib.hid hRI
  have HRK := Lib.hid hRK
  clear hRI hRK
  clear HL2_14
  clear HC2_14
  clear HL3_14
  clear HC3
  go_wp2_with fail
  go_ret
  exact ⟨_, _, _, _, rfl, rfl, HRI.out, HRK.out⟩
set_option maxHeartbeats 8000000 in
theorem read_10 (κ : Nat → Nat) (w : World) (hW : Wl κ w) (x : Cl) (k10 : (x.kind == 10) = true) : Calls Tryz.prog 59 #[x.agg] w (Lad κ w ([quitR, noneR, readR, overR 1])) := by
  obtain ⟨W0, hW0⟩ : ∃ W0, w.alloc (.cells #[.int .i64 x.kind, .int .i64 x.obj, .int .i64 x.n, .int .i64 x.wait, .bool x.breaks] 72) = W0 := ⟨_, rfl⟩
  have hk0 : Kept (fun _ => False) w W0 := by rw [← hW0]; exact (Kept.refl _ _).alloc _
  have hh : W0.heap[w.heap.size]? = some (.cells #[.int .i64 x.kind, .int .i64 x.obj, .int .i64 x.n, .int .i64 x.wait, .bool x.breaks] 72 (0, 0)) := by rw [← hW0]; exact heap_new1 _ _
  have m0 : W0.cell? ⟨w.heap.size, 0, none⟩ = some (.int .i64 x.kind) := by rw [cell_at _ _ 0 _ _ hh]; rfl
  have m2 : W0.cell? ⟨w.heap.size, 2, none⟩ = some (.int .i64 x.n) := by rw [cell_at _ _ 2 _ _ hh]; rfl
  have HW0 := Lib.hid (hW.kept0 hk0)
  have HK0 := Lib.hid hk0
  have HOP := Lib.hid hh
  clear hW hk0 hh
  go_enter Tryz.func59, Tryz.ntmps59
  go_wp2_with fail
  refine (just_any κ 2 0 _ HW0.out).mono ?_
  rintro e w1 ⟨f1, c1, rfl, hx1, hk1⟩
  have hl1 := Lat.of0 (κ := κ) hk1
  have HW1 := Lib.hid (HW0.out.kept0 hk1)
  have HOP_1 := Lib.hid (hk1.at0 HOP.out)
  clear HOP
  have HK1 := Lib.hid (HK0.out.tr0 hk1)
  clear HK0
  have HF00 := Lib.hid hx1
  clear hx1 hk1 hl1
  go_wp2_with fail
  refine (marks1 HW1.out HF00.out).mono ?_
  rintro e w2 ⟨f2, c2, rfl, hx2, hk2⟩
  have hl2 := Lat.of0 (κ := κ) hk2
  have HW2 := Lib.hid (HW1.out.kept0 hk2)
  have HF00_2 := Lib.hid (HF00.out.lat hl2)
  clear HF00
  have HOP_2 := Lib.hid (hk2.at0 HOP_1.out)
  clear HOP_1
  have HK2 := Lib.hid (HK1.out.tr0 hk2)
  clear HK1
  have HL0 := Lib.hid hx2
  clear hx2 hk2 hl2
  go_wp2_with fail
  refine (to1 HW2.out 0).mono ?_
  rintro e w3 ⟨f3, c3, rfl, hx3, hk3⟩
  have hl3 := Lat.of0 (κ := κ) hk3
  have HW3 := Lib.hid (HW2.out.kept0 hk3)
  have HL0_3 := Lib.hid (HL0.out.lat hl3)
  clear HL0
  have HOP_3 := Lib.hid (hk3.at0 HOP_2.out)
  clear HOP_2
  have HK3 := Lib.hid (HK2.out.tr0 hk3)
  clear HK2
  have HC0 := Lib.hid hx3
  clear hx3 hk3 hl3
  obtain ⟨WB0, hWB0⟩ : ∃ WB0, w3.alloc (.cells #[.func (.func f2) #[] c2, .func (.func f3) #[] c3] 140) = WB0 := ⟨_, rfl⟩
  have hk4 : Kept (fun _ => False) w3 WB0 := by rw [← hWB0]; exact (Kept.refl _ _).alloc _
  have hb0 : WB0.heap[w3.heap.size]? = some (.cells #[.func (.func f2) #[] c2, .func (.func f3) #[] c3] 140 (0, 0)) := by rw [← hWB0]; exact heap_new1 _ _
  have hl4 := Lat.of0 (κ := κ) hk4
  have HW4 := Lib.hid (HW3.out.kept0 hk4)
  have HL0_4 := Lib.hid (HL0_3.out.lat hl4)
  clear HL0_3
  have HC0_4 := Lib.hid (HC0.out.lat hl4)
  clear HC0
  have HOP_4 := Lib.hid (hk4.at0 HOP_3.out)
  clear HOP_3
  have HK4 := Lib.hid (HK3.out.tr0 hk4)
  clear HK3
  have HBX0 := Lib.hid hb0
  clear hk4 hb0 hl4
  go_wp2_with fail
  refine (just_any κ 7 1 _ HW4.out).mono ?_
  rintro e w5 ⟨f5, c5, rfl, hx5, hk5⟩
  have hl5 := Lat.of0 (κ := κ) hk5
  have HW5 := Lib.hid (HW4.out.kept0 hk5)
  have HL0_5 := Lib.hid (HL0_4.out.lat hl5)
  clear HL0_4
  have HC0_5 := Lib.hid (HC0_4.out.lat hl5)
  clear HC0_4
  have HBX0_5 := Lib.hid (hk5.at0 HBX0.out)
  clear HBX0
  have HOP_5 := Lib.hid (hk5.at0 HOP_4.out)
  clear HOP_4
  have HK5 := Lib.hid (HK4.out.tr0 hk5)
  clear HK4
  have HF10 := Lib.hid hx5
  clear hx5 hk5 hl5
  go_wp2_with fail
  refine (marks1 HW5.out HF10.out).mono ?_
  rintro e w6 ⟨f6, c6, rfl, hx6, hk6⟩
  have hl6 := Lat.of0 (κ := κ) hk6
  have HW6 := Lib.hid (HW5.out.kept0 hk6)
  have HL0_6 := Lib.hid (HL0_5.out.lat hl6)
  clear HL0_5
  have HC0_6 := Lib.hid (HC0_5.out.lat hl6)
  clear HC0_5
  have HBX0_6 := Lib.hid (hk6.at0 HBX0_5.out)
  clear HBX0_5
  have HF10_6 := Lib.hid (HF10.out.lat hl6)
  clear HF10
  have HOP_6 := Lib.hid (hk6.at0 HOP_5.out)
  clear HOP_5
  have HK6 := Lib.hid (HK5.out.tr0 hk6)
  clear HK5
  have HL1 := Lib.hid hx6
  clear hx6 hk6 hl6
  go_wp2_with fail
  refine (to1 HW6.out 5).mono ?_
  rintro e w7 ⟨f7, c7, rfl, hx7, hk7⟩
  have hl7 := Lat.of0 (κ := κ) hk7
  have HW7 := Lib.hid (HW6.out.kept0 hk7)
  have HL0_7 := Lib.hid (HL0_6.out.lat hl7)
  clear HL0_6
  have HC0_7 := Lib.hid (HC0_6.out.lat hl7)
  clear HC0_6
  have HBX0_7 := Lib.hid (hk7.at0 HBX0_6.out)
  clear HBX0_6
  have HL1_7 := Lib.hid (HL1.out.lat hl7)
  clear HL1
  have HOP_7 := Lib.hid (hk7.at0 HOP_6.out)
  clear HOP_6
  have HK7 := Lib.hid (HK6.out.tr0 hk7)
  clear HK6
  have HC1 := Lib.hid hx7
  clear hx7 hk7 hl7
  obtain ⟨WB1, hWB1⟩ : ∃ WB1, w7.alloc (.cells #[.func (.func f6) #[] c6, .func (.func f7) #[] c7] 140) = WB1 := ⟨_, rfl⟩
  have hk8 : Kept (fun _ => False) w7 WB1 := by rw [← hWB1]; exact (Kept.refl _ _).alloc _
  have hb1 : WB1.heap[w7.heap.size]? = some (.cells #[.func (.func f6) #[] c6, .func (.func f7) #[] c7] 140 (0, 0)) := by rw [← hWB1]; exact heap_new1 _ _
  have hl8 := Lat.of0 (κ := κ) hk8
  have HW8 := Lib.hid (HW7.out.kept0 hk8)
  have HL0_8 := Lib.hid (HL0_7.out.lat hl8)
  clear HL0_7
  have HC0_8 := Lib.hid (HC0_7.out.lat hl8)
  clear HC0_7
  have HBX0_8 := Lib.hid (hk8.at0 HBX0_7.out)
  clear HBX0_7
  have HL1_8 := Lib.hid (HL1_7.out.lat hl8)
  clear HL1_7
  have HC1_8 := Lib.hid (HC1.out.lat hl8)
  clear HC1
  have HOP_8 := Lib.hid (hk8.at0 HOP_7.out)
  clear HOP_7
  have HK8 := Lib.hid (HK7.out.tr0 hk8)
  clear HK7
  have HBX1 := Lib.hid hb1
  clear hk8 hb1 hl8
  have m0 : WB1.cell? ⟨w.heap.size, 0, none⟩ = some (.int .i64 x.kind) := by rw [cell_at _ _ 0 _ _ HOP_8.out]; rfl
  have m2 : WB1.cell? ⟨w.heap.size, 2, none⟩ = some (.int .i64 x.n) := by rw [cell_at _ _ 2 _ _ HOP_8.out]; rfl
  have b00 : WB1.cell? ⟨w3.heap.size, 0, none⟩ = some (.func (.func f2) #[] c2) := by rw [cell_at _ _ 0 _ _ HBX0_8.out]; rfl
  have b01 : WB1.cell? ⟨w3.heap.size, 1, none⟩ = some (.func (.func f3) #[] c3) := by rw [cell_at _ _ 1 _ _ HBX0_8.out]; rfl
  have b10 : WB1.cell? ⟨w7.heap.size, 0, none⟩ = some (.func (.func f6) #[] c6) := by rw [cell_at _ _ 0 _ _ HBX1.out]; rfl
  have b11 : WB1.cell? ⟨w7.heap.size, 1, none⟩ = some (.func (.func f7) #[] c7) := by rw [cell_at _ _ 1 _ _ HBX1.out]; rfl
  have hRI := rows_new HW8.out [Rc.mk f2 c2 f3 c3, Rc.mk f6 c6 f7 c7] [readR, overR 1] #[.func (.func f2) #[] c2, .func (.func f3) #[] c3, .func (.func f6) #[] c6, .func (.func f7) #[] c7] 140 rfl (by simp [maxLen]) ⟨⟨HL0_8.out, HC0_8.out⟩, ⟨HL1_8.out, HC1_8.out⟩, trivial⟩
  have hRK : Kept (fun _ => False) w (WB1.alloc (.cells #[.func (.func f2) #[] c2, .func (.func f3) #[] c3, .func (.func f6) #[] c6, .func (.func f7) #[] c7] 140)) := HK8.out.alloc _
  have HRW := Lib.hid (HW8.out.kept0 ((Kept.refl _ _).alloc (.cells #[.func (.func f2) #[] c2, .func (.func f3) #[] c3, .func (.func f6) #[] c6, .func (.func f7) #[] c7] 140)))
  have HRI := Lib.hid hRI
  have HRK := Lib.hid hRK
  clear hRI hRK
  clear HL0_8
  clear HC0_8
  clear HBX0_8
  clear HL1_8
  clear HC1_8
  clear HBX1
  go_wp2_with fail
  refine (rwaiting_any κ _ HRW.out _ 2 2 _ _ rfl (by decide) HRI.out).mono ?_
  rintro e w99 ⟨s9, n9, c9, xs9, rfl, h91, h92, h93⟩
  have HT := Lib.hid (show Lad κ w _ _ w99 from ⟨s9, n9, c9, xs9, rfl, h91, h92, HRK.out.tr0 h93⟩)
  clear h91 h92 h93
  go_wp2_with fail
  go_ret
  exact HT.out
set_option maxHeartbeats 8000000 in
theorem read_11 (κ : Nat → Nat) (w : World) (hW : Wl κ w) (x : Cl) (k10 : (x.kind == 10) = false) (k11 : (x.kind == 11) = true) : Calls Tryz.prog 59 #[x.agg] w (Lad κ w ([readR, overR 1, failR 1])) := by
  obtain ⟨W0, hW0⟩ : ∃ W0, w.alloc (.cells #[.int .i64 x.kind, .int .i64 x.obj, .int .i64 x.n, .int .i64 x.wait, .bool x.breaks] 72) = W0 := ⟨_, rfl⟩
  have hk0 : Kept (fun _ => False) w W0 := by rw [← hW0]; exact (Kept.refl _ _).alloc _
  have hh : W0.heap[w.heap.size]? = some (.cells #[.int .i64 x.kind, .int .i64 x.obj, .int .i64 x.n, .int .i64 x.wait, .bool x.breaks] 72 (0, 0)) := by rw [← hW0]; exact heap_new1 _ _
  have m0 : W0.cell? ⟨w.heap.size, 0, none⟩ = some (.int .i64 x.kind) := by rw [cell_at _ _ 0 _ _ hh]; rfl
  have m2 : W0.cell? ⟨w.heap.size, 2, none⟩ = some (.int .i64 x.n) := by rw [cell_at _ _ 2 _ _ hh]; rfl
  have HW0 := Lib.hid (hW.kept0 hk0)
  have HK0 := Lib.hid hk0
  have HOP := Lib.hid hh
  clear hW hk0 hh
  go_enter Tryz.func59, Tryz.ntmps59
  go_wp2_with fail
  refine (just_any κ 2 0 _ HW0.out).mono ?_
  rintro e w1 ⟨f1, c1, rfl, hx1, hk1⟩
  have hl1 := Lat.of0 (κ := κ) hk1
  have HW1 := Lib.hid (HW0.out.kept0 hk1)
  have HOP_1 := Lib.hid (hk1.at0 HOP.out)
  clear HOP
  have HK1 := Lib.hid (HK0.out.tr0 hk1)
  clear HK0
  have HF00 := Lib.hid hx1
  clear hx1 hk1 hl1
  go_wp2_with fail
  refine (marks1 HW1.out HF00.out).mono ?_
  rintro e w2 ⟨f2, c2, rfl, hx2, hk2⟩
  have hl2 := Lat.of0 (κ := κ) hk2
  have HW2 := Lib.hid (HW1.out.kept0 hk2)
  have HF00_2 := Lib.hid (HF00.out.lat hl2)
  clear HF00
  have HOP_2 := Lib.hid (hk2.at0 HOP_1.out)
  clear HOP_1
  have HK2 := Lib.hid (HK1.out.tr0 hk2)
  clear HK1
  have HL0 := Lib.hid hx2
  clear hx2 hk2 hl2
  go_wp2_with fail
  refine (to1 HW2.out 0).mono ?_
  rintro e w3 ⟨f3, c3, rfl, hx3, hk3⟩
  have hl3 := Lat.of0 (κ := κ) hk3
  have HW3 := Lib.hid (HW2.out.kept0 hk3)
  have HL0_3 := Lib.hid (HL0.out.lat hl3)
  clear HL0
  have HOP_3 := Lib.hid (hk3.at0 HOP_2.out)
  clear HOP_2
  have HK3 := Lib.hid (HK2.out.tr0 hk3)
  clear HK2
  have HC0 := Lib.hid hx3
  clear hx3 hk3 hl3
  obtain ⟨WB0, hWB0⟩ : ∃ WB0, w3.alloc (.cells #[.func (.func f2) #[] c2, .func (.func f3) #[] c3] 140) = WB0 := ⟨_, rfl⟩
  have hk4 : Kept (fun _ => False) w3 WB0 := by rw [← hWB0]; exact (Kept.refl _ _).alloc _
  have hb0 : WB0.heap[w3.heap.size]? = some (.cells #[.func (.func f2) #[] c2, .func (.func f3) #[] c3] 140 (0, 0)) := by rw [← hWB0]; exact heap_new1 _ _
  have hl4 := Lat.of0 (κ := κ) hk4
  have HW4 := Lib.hid (HW3.out.kept0 hk4)
  have HL0_4 := Lib.hid (HL0_3.out.lat hl4)
  clear HL0_3
  have HC0_4 := Lib.hid (HC0.out.lat hl4)
  clear HC0
  have HOP_4 := Lib.hid (hk4.at0 HOP_3.out)
  clear HOP_3
  have HK4 := Lib.hid (HK3.out.tr0 hk4)
  clear HK3
  have HBX0 := Lib.hid hb0
  clear hk4 hb0 hl4
  go_wp2_with fail
  refine (just_any κ 7 1 _ HW4.out).mono ?_
  rintro e w5 ⟨f5, c5, rfl, hx5, hk5⟩
  have hl5 := Lat.of0 (κ := κ) hk5
  have HW5 := Lib.hid (HW4.out.kept0 hk5)
  have HL0_5 := Lib.hid (HL0_4.out.lat hl5)
  clear HL0_4
  have HC0_5 := Lib.hid (HC0_4.out.lat hl5)
  clear HC0_4
  have HBX0_5 := Lib.hid (hk5.at0 HBX0.out)
  clear HBX0
  have HOP_5 := Lib.hid (hk5.at0 HOP_4.out)
  clear HOP_4
  have HK5 := Lib.hid (HK4.out.tr0 hk5)
  clear HK4
  have HF10 := Lib.hid hx5
  clear hx5 hk5 hl5
  go_wp2_with fail
  refine (marks1 HW5.out HF10.out).mono ?_
  rintro e w6 ⟨f6, c6, rfl, hx6, hk6⟩
  have hl6 := Lat.of0 (κ := κ) hk6
  have HW6 := Lib.hid (HW5.out.kept0 hk6)
  have HL0_6 := Lib.hid (HL0_5.out.lat hl6)
  clear HL0_5
  have HC0_6 := Lib.hid (HC0_5.out.lat hl6)
  clear HC0_5
  have HBX0_6 := Lib.hid (hk6.at0 HBX0_5.out)
  clear HBX0_5
  have HF10_6 := Lib.hid (HF10.out.lat hl6)
  clear HF10
  have HOP_6 := Lib.hid (hk6.at0 HOP_5.out)
  clear HOP_5
  have HK6 := Lib.hid (HK5.out.tr0 hk6)
  clear HK5
  have HL1 := Lib.hid hx6
  clear hx6 hk6 hl6
  go_wp2_with fail
  refine (to1 HW6.out 5).mono ?_
  rintro e w7 ⟨f7, c7, rfl, hx7, hk7⟩
  have hl7 := Lat.of0 (κ := κ) hk7
  have HW7 := Lib.hid (HW6.out.kept0 hk7)
  have HL0_7 := Lib.hid (HL0_6.out.lat hl7)
  clear HL0_6
  have HC0_7 := Lib.hid (HC0_6.out.lat hl7)
  clear HC0_6
  have HBX0_7 := Lib.hid (hk7.at0 HBX0_6.out)
  clear HBX0_6
  have HL1_7 := Lib.hid (HL1.out.lat hl7)
  clear HL1
  have HOP_7 := Lib.hid (hk7.at0 HOP_6.out)
  clear HOP_6
  have HK7 := Lib.hid (HK6.out.tr0 hk7)
  clear HK6
  have HC1 := Lib.hid hx7
  clear hx7 hk7 hl7
  obtain ⟨WB1, hWB1⟩ : ∃ WB1, w7.alloc (.cells #[.func (.func f6) #[] c6, .func (.func f7) #[] c7] 140) = WB1 := ⟨_, rfl⟩
  have hk8 : Kept (fun _ => False) w7 WB1 := by rw [← hWB1]; exact (Kept.refl _ _).alloc _
  have hb1 : WB1.heap[w7.heap.size]? = some (.cells #[.func (.func f6) #[] c6, .func (.func f7) #[] c7] 140 (0, 0)) := by rw [← hWB1]; exact heap_new1 _ _
  have hl8 := Lat.of0 (κ := κ) hk8
  have HW8 := Lib.hid (HW7.out.kept0 hk8)
  have HL0_8 := Lib.hid (HL0_7.out.lat hl8)
  clear HL0_7
  have HC0_8 := Lib.hid (HC0_7.out.lat hl8)
  clear HC0_7
  have HBX0_8 := Lib.hid (hk8.at0 HBX0_7.out)
  clear HBX0_7
  have HL1_8 := Lib.hid (HL1_7.out.lat hl8)
  clear HL1_7
  have HC1_8 := Lib.hid (HC1.out.lat hl8)
  clear HC1
  have HOP_8 := Lib.hid (hk8.at0 HOP_7.out)
  clear HOP_7
  have HK8 := Lib.hid (HK7.out.tr0 hk8)
  clear HK7
  have HBX1 := Lib.hid hb1
  clear hk8 hb1 hl8
  have m0 : WB1.cell? ⟨w.heap.size, 0, none⟩ = some (.int .i64 x.kind) := by rw [cell_at _ _ 0 _ _ HOP_8.out]; rfl
  have m2 : WB1.cell? ⟨w.heap.size, 2, none⟩ = some (.int .i64 x.n) := by rw [cell_at _ _ 2 _ _ HOP_8.out]; rfl
  have b00 : WB1.cell? ⟨w3.heap.size, 0, none⟩ = some (.func (.func f2) #[] c2) := by rw [cell_at _ _ 0 _ _ HBX0_8.out]; rfl
  have b01 : WB1.cell? ⟨w3.heap.size, 1, none⟩ = some (.func (.func f3) #[] c3) := by rw [cell_at _ _ 1 _ _ HBX0_8.out]; rfl
  have b10 : WB1.cell? ⟨w7.heap.size, 0, none⟩ = some (.func (.func f6) #[] c6) := by rw [cell_at _ _ 0 _ _ HBX1.out]; rfl
  have b11 : WB1.cell? ⟨w7.heap.size, 1, none⟩ = some (.func (.func f7) #[] c7) := by rw [cell_at _ _ 1 _ _ HBX1.out]; rfl
  have HCEL : Hid (∀ w', Kept (fun _ => False) WB1 w' → w'.cell? ⟨w3.heap.size, 0, none⟩ = some (.func (.func f2) #[] c2) ∧ w'.cell? ⟨w3.heap.size, 1, none⟩ = some (.func (.func f3) #[] c3) ∧ w'.cell? ⟨w7.heap.size, 0, none⟩ = some (.func (.func f6) #[] c6) ∧ w'.cell? ⟨w7.heap.size, 1, none⟩ = some (.func (.func f7) #[] c7)) := Lib.hid (fun w' hk => ⟨(hk.cell (World.block_lt_of_cell? _ _ b00) (fun f => f)).trans b00, (hk.cell (World.block_lt_of_cell? _ _ b01) (fun f => f)).trans b01, (hk.cell (World.block_lt_of_cell? _ _ b10) (fun f => f)).trans b10, (hk.cell (World.block_lt_of_cell? _ _ b11) (fun f => f)).trans b11⟩)
  clear b00 b01 b10 b11
  go_wp2_with fail
  have HST : Hid (StayAll [PEq (.agg #[.func (.func f2) #[] c2, .func (.func f3) #[] c3]), PEq (.agg #[.func (.func f6) #[] c6, .func (.func f7) #[] c7]), PFit κ (fun m => m.kind == 5 && m.v == 1), PFits κ (fun m => m.kind == 5 && m.v == 1), PLook κ (marksL [fun _ m => (fun m => m.kind == 5 && m.v == 1) m]), PInts κ 1, PCome κ [1], PRow κ ⟨(marksL [fun _ m => (fun m => m.kind == 5 && m.v == 1) m]), [1]⟩, PRows κ [readR, overR 1, ⟨(marksL [fun _ m => (fun m => m.kind == 5 && m.v == 1) m]), [1]⟩], PRows κ [readR, overR 1, ⟨(marksL [fun _ m => (fun m => m.kind == 5 && m.v == 1) m]), [1]⟩]]) := Lib.hid ⟨stay_eq _, stay_eq _, stay_fit _ _, stay_fits _ _, stay_look _ _, stay_ints _ _, stay_come _ _, stay_row _ _, stay_rows _ _, stay_rows _ _, trivial⟩
  refine wp_region_any (by kernel_rfl) (wpAny_inv (fun l a w' => ∃ v0 v1 v2 v3 v4 v5 v6 v7 v8 v9, a = ⟨#[x.agg, Value.pointer (some { block := w.heap.size, off := 0 }), v9, Value.pointer (some { block := w3.heap.size, off := 0 }), Value.pointer (some { block := w7.heap.size, off := 0 }), Value.func (Fn.func f1) #[] c1, Value.slice (some { block := w1.heap.size, off := 0 }) 1 1, Value.func (Fn.func f2) #[] c2, Value.slice (some { block := w2.heap.size, off := 0 }) 1 1, Value.func (Fn.func f3) #[] c3, Value.agg #[Value.func (Fn.func f2) #[] c2, Value.func (Fn.func f3) #[] c3], Value.func (Fn.func f5) #[] c5, Value.slice (some { block := w5.heap.size, off := 0 }) 1 1, Value.func (Fn.func f6) #[] c6, Value.slice (some { block := w6.heap.size, off := 0 }) 1 1, Value.func (Fn.func f7) #[] c7, Value.agg #[Value.func (Fn.func f6) #[] c6, Value.func (Fn.func f7) #[] c7], Value.pointer (some { block := w.heap.size, off := 0 }), Value.int IntKind.i64 x.kind, Value.bool false, Value.bool false, undef, undef, undef, undef, Value.bool true, Value.bool true, v0, v1, v2, v3, v4, v5, v6, v7, v8, undef, undef, undef, undef, undef, undef, undef, undef, undef, undef, undef, undef, undef], []⟩ ∧ FG WB1 [PEq (.agg #[.func (.func f2) #[] c2, .func (.func f3) #[] c3]), PEq (.agg #[.func (.func f6) #[] c6, .func (.func f7) #[] c7]), PFit κ (fun m => m.kind == 5 && m.v == 1), PFits κ (fun m => m.kind == 5 && m.v == 1), PLook κ (marksL [fun _ m => (fun m => m.kind == 5 && m.v == 1) m]), PInts κ 1, PCome κ [1], PRow κ ⟨(marksL [fun _ m => (fun m => m.kind == 5 && m.v == 1) m]), [1]⟩, PRows κ [readR, overR 1, ⟨(marksL [fun _ m => (fun m => m.kind == 5 && m.v == 1) m]), [1]⟩], PRows κ [readR, overR 1, ⟨(marksL [fun _ m => (fun m => m.kind == 5 && m.v == 1) m]), [1]⟩]] l w' [v0, v1, v2, v3, v4, v5, v6, v7, v8, v9]) ?hstep ?hend _ _ _ _ (by simp) (by simp) ?hstart)
  case hstart =>
    exact ⟨_, _, _, _, _, _, _, _, _, _, rfl, ⟨(Kept.refl _ _).drew, fun i P v _ hv hf => (flag_none hf).elim⟩⟩
  case hstep =>
    intro l a w2 i hs hI hi
    have hs' : l.size = 10 := hs
    obtain ⟨hlt, hu, hd⟩ := ready_of hi
    have hsj : ∀ j, j ≠ i → (l.setIfInBounds i true).getD j false = true → l.getD j false = true := fun j hj h => by
      rw [getD_set (by omega), if_neg hj] at h; exact h
    have HS := Lib.hid hsj; clear hsj
    have hlt' : i < 10 := hlt
    clear hi hlt hu
    obtain ⟨v0, v1, v2, v3, v4, v5, v6, v7, v8, v9, rfl, F⟩ := hI
    have hi : i = 0 ∨ i = 1 ∨ i = 2 ∨ i = 3 ∨ i = 4 ∨ i = 5 ∨ i = 6 ∨ i = 7 ∨ i = 8 ∨ i = 9 := by omega
    clear hlt'
    rcases hi with rfl | rfl | rfl | rfl | rfl | rfl | rfl | rfl | rfl | rfl
    · obtain ⟨y0, y1, y2, y3⟩ := HCEL.out _ F.kept
      refine wpOp_open rfl (fun K hK => ?_)
      go_simp
      exact hK.out _ _ ⟨_, _, _, _, _, _, _, _, _, _, rfl, F.step HST.out 0 HS.out (Kept.refl _ _) _ rfl _ (rfl)⟩
    · obtain ⟨y0, y1, y2, y3⟩ := HCEL.out _ F.kept
      refine wpOp_open rfl (fun K hK => ?_)
      go_simp
      exact hK.out _ _ ⟨_, _, _, _, _, _, _, _, _, _, rfl, F.step HST.out 1 HS.out (Kept.refl _ _) _ rfl _ (rfl)⟩
    · refine wpOp_open rfl (fun K hK => ?_)
      go_simp
      refine (just_any κ 5 1 w2 (HW8.out.kept0 F.kept)).mono ?_
      rintro e w4 ⟨f4, c4, rfl, hx4, hk4⟩
      exact hK.out _ _ ⟨_, _, _, _, _, _, _, _, _, _, rfl, F.step HST.out 2 HS.out (hk4) _ rfl _ (⟨_, _, rfl, hx4⟩)⟩
    · have d2 : l.getD 2 false = true := by simp [Region.binds] at hd; simp [hd]
      obtain ⟨f3, c3, e3, hx3⟩ := F.at_ 2 _ _ rfl rfl d2
      subst e3
      refine wpOp_open rfl (fun K hK => ?_)
      go_simp
      exact hK.out _ _ ⟨_, _, _, _, _, _, _, _, _, _, rfl, F.step HST.out 3 HS.out ((Kept.refl _ _).alloc _) _ rfl _ (fits_p (HW8.out.kept0 F.kept) hx3)⟩
    · have d3 : l.getD 3 false = true := by simp [Region.binds] at hd; simp [hd]
      obtain ⟨g3, f3, c3, e3, hx3, hy3⟩ := F.at_ 3 _ _ rfl rfl d3
      subst e3
      refine wpOp_open rfl (fun K hK => ?_)
      go_simp
      refine (marks_p (HW8.out.kept0 F.kept) hx3 hy3).mono ?_
      rintro e w4 ⟨f4, c4, rfl, hx4, hk4⟩
      exact hK.out _ _ ⟨_, _, _, _, _, _, _, _, _, _, rfl, F.step HST.out 4 HS.out (hk4) _ rfl _ (⟨_, _, rfl, hx4⟩)⟩
    · refine wpOp_open rfl (fun K hK => ?_)
      go_simp
      exact hK.out _ _ ⟨_, _, _, _, _, _, _, _, _, _, rfl, F.step HST.out 5 HS.out ((Kept.refl _ _).alloc _) _ rfl _ (ints_p (HW8.out.kept0 F.kept) 1)⟩
    · have d5 : l.getD 5 false = true := by simp [Region.binds] at hd; simp [hd]
      obtain ⟨g3, e3, hx3⟩ := F.at_ 5 _ _ rfl rfl d5
      subst e3
      refine wpOp_open rfl (fun K hK => ?_)
      go_simp
      refine (to_p (HW8.out.kept0 F.kept) hx3).mono ?_
      rintro e w4 ⟨f4, c4, rfl, hx4, hk4⟩
      exact hK.out _ _ ⟨_, _, _, _, _, _, _, _, _, _, rfl, F.step HST.out 6 HS.out (hk4) _ rfl _ (⟨_, _, rfl, hx4⟩)⟩
    · have d4 : l.getD 4 false = true := by simp [Region.binds] at hd; simp [hd]
      have d6 : l.getD 6 false = true := by simp [Region.binds] at hd; simp [hd]
      obtain ⟨f3, c3, e3, hx3⟩ := F.at_ 4 _ _ rfl rfl d4
      subst e3
      obtain ⟨f5, c5, e5, hx5⟩ := F.at_ 6 _ _ rfl rfl d6
      subst e5
      refine wpOp_open rfl (fun K hK => ?_)
      go_simp
      exact hK.out _ _ ⟨_, _, _, _, _, _, _, _, _, _, rfl, F.step HST.out 7 HS.out (Kept.refl _ _) _ rfl _ (⟨_, _, _, _, rfl, hx3, hx5⟩)⟩
    · have d0 : l.getD 0 false = true := by simp [Region.binds] at hd; simp [hd]
      obtain rfl := F.at_ 0 _ _ rfl rfl d0
      have d1 : l.getD 1 false = true := by simp [Region.binds] at hd; simp [hd]
      obtain rfl := F.at_ 1 _ _ rfl rfl d1
      have d7 : l.getD 7 false = true := by simp [Region.binds] at hd; simp [hd]
      obtain ⟨fx7, cx7, gx7, zx7, e7, hx7, hy7⟩ := F.at_ 7 _ _ rfl rfl d7
      subst e7
      have hl2 := Lat.of0 (κ := κ) F.kept
      have hRI := rows_new (HW8.out.kept0 F.kept) [Rc.mk f2 c2 f3 c3, Rc.mk f6 c6 f7 c7, Rc.mk fx7 cx7 gx7 zx7] [readR, overR 1, ⟨(marksL [fun _ m => (fun m => m.kind == 5 && m.v == 1) m]), [1]⟩] #[.func (.func f2) #[] c2, .func (.func f3) #[] c3, .func (.func f6) #[] c6, .func (.func f7) #[] c7, .func (.func fx7) #[] cx7, .func (.func gx7) #[] zx7] 140 rfl (by simp [maxLen]) ⟨⟨HL0_8.out.lat hl2, HC0_8.out.lat hl2⟩, ⟨HL1_8.out.lat hl2, HC1_8.out.lat hl2⟩, ⟨hx7, hy7⟩, trivial⟩
      refine wpOp_open rfl (fun K hK => ?_)
      go_simp
      exact hK.out _ _ ⟨_, _, _, _, _, _, _, _, _, _, rfl, F.step HST.out 8 HS.out ((Kept.refl _ _).alloc _) _ rfl _ (⟨_, _, _, _, rfl, rfl, hRI⟩)⟩
    · have d8 : l.getD 8 false = true := by simp [Region.binds] at hd; simp [hd]
      obtain ⟨s3, n3, c3, xs3, e3, hx3, hy3⟩ := F.at_ 8 _ _ rfl rfl d8
      subst e3
      have HX3 := Lib.hid hx3
      clear hx3
      refine wpOp_open rfl (fun K hK => ?_)
      go_simp
      exact hK.out _ _ ⟨_, _, _, _, _, _, _, _, _, _, rfl, F.step HST.out 9 HS.out (Kept.refl _ _) _ rfl _ (⟨_, _, _, _, rfl, HX3.out, hy3⟩)⟩
  case hend =>
    intro l a w2 hs hI hr
    have hs' : l.size = 10 := hs
    obtain ⟨v0, v1, v2, v3, v4, v5, v6, v7, v8, v9, rfl, F⟩ := hI
    have HAR := all_ready hs (by kernel_rfl) hr
    obtain ⟨s3, n3, c3, xs3, e3', hx3, hy3⟩ := F.at_ 9 _ _ rfl rfl (HAR 9 (by decide))
    subst e3'
    have HKF := Lib.hid F.kept
    have HX3 := Lib.hid hx3
    have HY3 := Lib.hid hy3
    clear F hr hx3 hy3 HAR
    go_wp2_with fail
    go_ret
    exact ⟨_, _, _, _, rfl, HX3.out, HY3.out, HK8.out.tr0 HKF.out⟩
set_option maxHeartbeats 8000000 in
theorem read_no (κ : Nat → Nat) (w : World) (hW : Wl κ w) (x : Cl) (k10 : (x.kind == 10) = false) (k11 : (x.kind == 11) = false) : Calls Tryz.prog 59 #[x.agg] w (Lad κ w ([unreadR, monR 1])) := by
  obtain ⟨W0, hW0⟩ : ∃ W0, w.alloc (.cells #[.int .i64 x.kind, .int .i64 x.obj, .int .i64 x.n, .int .i64 x.wait, .bool x.breaks] 72) = W0 := ⟨_, rfl⟩
  have hk0 : Kept (fun _ => False) w W0 := by rw [← hW0]; exact (Kept.refl _ _).alloc _
  have hh : W0.heap[w.heap.size]? = some (.cells #[.int .i64 x.kind, .int .i64 x.obj, .int .i64 x.n, .int .i64 x.wait, .bool x.breaks] 72 (0, 0)) := by rw [← hW0]; exact heap_new1 _ _
  have m0 : W0.cell? ⟨w.heap.size, 0, none⟩ = some (.int .i64 x.kind) := by rw [cell_at _ _ 0 _ _ hh]; rfl
  have m2 : W0.cell? ⟨w.heap.size, 2, none⟩ = some (.int .i64 x.n) := by rw [cell_at _ _ 2 _ _ hh]; rfl
  have HW0 := Lib.hid (hW.kept0 hk0)
  have HK0 := Lib.hid hk0
  have HOP := Lib.hid hh
  clear hW hk0 hh
  go_enter Tryz.func59, Tryz.ntmps59
  go_wp2_with fail
  refine (just_any κ 2 0 _ HW0.out).mono ?_
  rintro e w1 ⟨f1, c1, rfl, hx1, hk1⟩
  have hl1 := Lat.of0 (κ := κ) hk1
  have HW1 := Lib.hid (HW0.out.kept0 hk1)
  have HOP_1 := Lib.hid (hk1.at0 HOP.out)
  clear HOP
  have HK1 := Lib.hid (HK0.out.tr0 hk1)
  clear HK0
  have HF00 := Lib.hid hx1
  clear hx1 hk1 hl1
  go_wp2_with fail
  refine (marks1 HW1.out HF00.out).mono ?_
  rintro e w2 ⟨f2, c2, rfl, hx2, hk2⟩
  have hl2 := Lat.of0 (κ := κ) hk2
  have HW2 := Lib.hid (HW1.out.kept0 hk2)
  have HF00_2 := Lib.hid (HF00.out.lat hl2)
  clear HF00
  have HOP_2 := Lib.hid (hk2.at0 HOP_1.out)
  clear HOP_1
  have HK2 := Lib.hid (HK1.out.tr0 hk2)
  clear HK1
  have HL0 := Lib.hid hx2
  clear hx2 hk2 hl2
  go_wp2_with fail
  refine (to1 HW2.out 0).mono ?_
  rintro e w3 ⟨f3, c3, rfl, hx3, hk3⟩
  have hl3 := Lat.of0 (κ := κ) hk3
  have HW3 := Lib.hid (HW2.out.kept0 hk3)
  have HL0_3 := Lib.hid (HL0.out.lat hl3)
  clear HL0
  have HOP_3 := Lib.hid (hk3.at0 HOP_2.out)
  clear HOP_2
  have HK3 := Lib.hid (HK2.out.tr0 hk3)
  clear HK2
  have HC0 := Lib.hid hx3
  clear hx3 hk3 hl3
  obtain ⟨WB0, hWB0⟩ : ∃ WB0, w3.alloc (.cells #[.func (.func f2) #[] c2, .func (.func f3) #[] c3] 140) = WB0 := ⟨_, rfl⟩
  have hk4 : Kept (fun _ => False) w3 WB0 := by rw [← hWB0]; exact (Kept.refl _ _).alloc _
  have hb0 : WB0.heap[w3.heap.size]? = some (.cells #[.func (.func f2) #[] c2, .func (.func f3) #[] c3] 140 (0, 0)) := by rw [← hWB0]; exact heap_new1 _ _
  have hl4 := Lat.of0 (κ := κ) hk4
  have HW4 := Lib.hid (HW3.out.kept0 hk4)
  have HL0_4 := Lib.hid (HL0_3.out.lat hl4)
  clear HL0_3
  have HC0_4 := Lib.hid (HC0.out.lat hl4)
  clear HC0
  have HOP_4 := Lib.hid (hk4.at0 HOP_3.out)
  clear HOP_3
  have HK4 := Lib.hid (HK3.out.tr0 hk4)
  clear HK3
  have HBX0 := Lib.hid hb0
  clear hk4 hb0 hl4
  go_wp2_with fail
  refine (just_any κ 7 1 _ HW4.out).mono ?_
  rintro e w5 ⟨f5, c5, rfl, hx5, hk5⟩
  have hl5 := Lat.of0 (κ := κ) hk5
  have HW5 := Lib.hid (HW4.out.kept0 hk5)
  have HL0_5 := Lib.hid (HL0_4.out.lat hl5)
  clear HL0_4
  have HC0_5 := Lib.hid (HC0_4.out.lat hl5)
  clear HC0_4
  have HBX0_5 := Lib.hid (hk5.at0 HBX0.out)
  clear HBX0
  have HOP_5 := Lib.hid (hk5.at0 HOP_4.out)
  clear HOP_4
  have HK5 := Lib.hid (HK4.out.tr0 hk5)
  clear HK4
  have HF10 := Lib.hid hx5
  clear hx5 hk5 hl5
  go_wp2_with fail
  refine (marks1 HW5.out HF10.out).mono ?_
  rintro e w6 ⟨f6, c6, rfl, hx6, hk6⟩
  have hl6 := Lat.of0 (κ := κ) hk6
  have HW6 := Lib.hid (HW5.out.kept0 hk6)
  have HL0_6 := Lib.hid (HL0_5.out.lat hl6)
  clear HL0_5
  have HC0_6 := Lib.hid (HC0_5.out.lat hl6)
  clear HC0_5
  have HBX0_6 := Lib.hid (hk6.at0 HBX0_5.out)
  clear HBX0_5
  have HF10_6 := Lib.hid (HF10.out.lat hl6)
  clear HF10
  have HOP_6 := Lib.hid (hk6.at0 HOP_5.out)
  clear HOP_5
  have HK6 := Lib.hid (HK5.out.tr0 hk6)
  clear HK5
  have HL1 := Lib.hid hx6
  clear hx6 hk6 hl6
  go_wp2_with fail
  refine (to1 HW6.out 5).mono ?_
  rintro e w7 ⟨f7, c7, rfl, hx7, hk7⟩
  have hl7 := Lat.of0 (κ := κ) hk7
  have HW7 := Lib.hid (HW6.out.kept0 hk7)
  have HL0_7 := Lib.hid (HL0_6.out.lat hl7)
  clear HL0_6
  have HC0_7 := Lib.hid (HC0_6.out.lat hl7)
  clear HC0_6
  have HBX0_7 := Lib.hid (hk7.at0 HBX0_6.out)
  clear HBX0_6
  have HL1_7 := Lib.hid (HL1.out.lat hl7)
  clear HL1
  have HOP_7 := Lib.hid (hk7.at0 HOP_6.out)
  clear HOP_6
  have HK7 := Lib.hid (HK6.out.tr0 hk7)
  clear HK6
  have HC1 := Lib.hid hx7
  clear hx7 hk7 hl7
  obtain ⟨WB1, hWB1⟩ : ∃ WB1, w7.alloc (.cells #[.func (.func f6) #[] c6, .func (.func f7) #[] c7] 140) = WB1 := ⟨_, rfl⟩
  have hk8 : Kept (fun _ => False) w7 WB1 := by rw [← hWB1]; exact (Kept.refl _ _).alloc _
  have hb1 : WB1.heap[w7.heap.size]? = some (.cells #[.func (.func f6) #[] c6, .func (.func f7) #[] c7] 140 (0, 0)) := by rw [← hWB1]; exact heap_new1 _ _
  have hl8 := Lat.of0 (κ := κ) hk8
  have HW8 := Lib.hid (HW7.out.kept0 hk8)
  have HL0_8 := Lib.hid (HL0_7.out.lat hl8)
  clear HL0_7
  have HC0_8 := Lib.hid (HC0_7.out.lat hl8)
  clear HC0_7
  have HBX0_8 := Lib.hid (hk8.at0 HBX0_7.out)
  clear HBX0_7
  have HL1_8 := Lib.hid (HL1_7.out.lat hl8)
  clear HL1_7
  have HC1_8 := Lib.hid (HC1.out.lat hl8)
  clear HC1
  have HOP_8 := Lib.hid (hk8.at0 HOP_7.out)
  clear HOP_7
  have HK8 := Lib.hid (HK7.out.tr0 hk8)
  clear HK7
  have HBX1 := Lib.hid hb1
  clear hk8 hb1 hl8
  have m0 : WB1.cell? ⟨w.heap.size, 0, none⟩ = some (.int .i64 x.kind) := by rw [cell_at _ _ 0 _ _ HOP_8.out]; rfl
  have m2 : WB1.cell? ⟨w.heap.size, 2, none⟩ = some (.int .i64 x.n) := by rw [cell_at _ _ 2 _ _ HOP_8.out]; rfl
  have b00 : WB1.cell? ⟨w3.heap.size, 0, none⟩ = some (.func (.func f2) #[] c2) := by rw [cell_at _ _ 0 _ _ HBX0_8.out]; rfl
  have b01 : WB1.cell? ⟨w3.heap.size, 1, none⟩ = some (.func (.func f3) #[] c3) := by rw [cell_at _ _ 1 _ _ HBX0_8.out]; rfl
  have b10 : WB1.cell? ⟨w7.heap.size, 0, none⟩ = some (.func (.func f6) #[] c6) := by rw [cell_at _ _ 0 _ _ HBX1.out]; rfl
  have b11 : WB1.cell? ⟨w7.heap.size, 1, none⟩ = some (.func (.func f7) #[] c7) := by rw [cell_at _ _ 1 _ _ HBX1.out]; rfl
  clear HL0_8
  clear HC0_8
  clear HL1_8
  clear HC1_8
  clear HBX0_8
  clear HBX1
  go_wp2_with fail
  refine (just_any κ 4 0 _ HW8.out).mono ?_
  rintro e w9 ⟨f9, c9, rfl, hx9, hk9⟩
  have hl9 := Lat.of0 (κ := κ) hk9
  have HW9 := Lib.hid (HW8.out.kept0 hk9)
  have HOP_9 := Lib.hid (hk9.at0 HOP_8.out)
  clear HOP_8
  have HK9 := Lib.hid (HK8.out.tr0 hk9)
  clear HK8
  have HF20 := Lib.hid hx9
  clear hx9 hk9 hl9
  go_wp2_with fail
  refine (marks1 HW9.out HF20.out).mono ?_
  rintro e w10 ⟨f10, c10, rfl, hx10, hk10⟩
  have hl10 := Lat.of0 (κ := κ) hk10
  have HW10 := Lib.hid (HW9.out.kept0 hk10)
  have HF20_10 := Lib.hid (HF20.out.lat hl10)
  clear HF20
  have HOP_10 := Lib.hid (hk10.at0 HOP_9.out)
  clear HOP_9
  have HK10 := Lib.hid (HK9.out.tr0 hk10)
  clear HK9
  have HL2 := Lib.hid hx10
  clear hx10 hk10 hl10
  go_wp2_with fail
  refine (to1 HW10.out 0).mono ?_
  rintro e w11 ⟨f11, c11, rfl, hx11, hk11⟩
  have hl11 := Lat.of0 (κ := κ) hk11
  have HW11 := Lib.hid (HW10.out.kept0 hk11)
  have HL2_11 := Lib.hid (HL2.out.lat hl11)
  clear HL2
  have HOP_11 := Lib.hid (hk11.at0 HOP_10.out)
  clear HOP_10
  have HK11 := Lib.hid (HK10.out.tr0 hk11)
  clear HK10
  have HC2 := Lib.hid hx11
  clear hx11 hk11 hl11
  go_wp2_with fail
  refine (just_any κ 6 1 _ HW11.out).mono ?_
  rintro e w12 ⟨f12, c12, rfl, hx12, hk12⟩
  have hl12 := Lat.of0 (κ := κ) hk12
  have HW12 := Lib.hid (HW11.out.kept0 hk12)
  have HL2_12 := Lib.hid (HL2_11.out.lat hl12)
  clear HL2_11
  have HC2_12 := Lib.hid (HC2.out.lat hl12)
  clear HC2
  have HOP_12 := Lib.hid (hk12.at0 HOP_11.out)
  clear HOP_11
  have HK12 := Lib.hid (HK11.out.tr0 hk12)
  clear HK11
  have HF30 := Lib.hid hx12
  clear hx12 hk12 hl12
  go_wp2_with fail
  refine (marks1 HW12.out HF30.out).mono ?_
  rintro e w13 ⟨f13, c13, rfl, hx13, hk13⟩
  have hl13 := Lat.of0 (κ := κ) hk13
  have HW13 := Lib.hid (HW12.out.kept0 hk13)
  have HL2_13 := Lib.hid (HL2_12.out.lat hl13)
  clear HL2_12
  have HC2_13 := Lib.hid (HC2_12.out.lat hl13)
  clear HC2_12
  have HF30_13 := Lib.hid (HF30.out.lat hl13)
  clear HF30
  have HOP_13 := Lib.hid (hk13.at0 HOP_12.out)
  clear HOP_12
  have HK13 := Lib.hid (HK12.out.tr0 hk13)
  clear HK12
  have HL3 := Lib.hid hx13
  clear hx13 hk13 hl13
  go_wp2_with fail
  refine (to1 HW13.out 4).mono ?_
  rintro e w14 ⟨f14, c14, rfl, hx14, hk14⟩
  have hl14 := Lat.of0 (κ := κ) hk14
  have HW14 := Lib.hid (HW13.out.kept0 hk14)
  have HL2_14 := Lib.hid (HL2_13.out.lat hl14)
  clear HL2_13
  have HC2_14 := Lib.hid (HC2_13.out.lat hl14)
  clear HC2_13
  have HL3_14 := Lib.hid (HL3.out.lat hl14)
  clear HL3
  have HOP_14 := Lib.hid (hk14.at0 HOP_13.out)
  clear HOP_13
  have HK14 := Lib.hid (HK13.out.tr0 hk14)
  clear HK13
  have HC3 := Lib.hid hx14
  clear hx14 hk14 hl14
  have hRI := rows_new HW14.out [Rc.mk f10 c10 f11 c11, Rc.mk f13 c13 f14 c14] [unreadR, monR 1] #[.func (.func f10) #[] c10, .func (.func f11) #[] c11, .func (.func f13) #[] c13, .func (.func f14) #[] c14] 140 rfl (by simp [maxLen]) ⟨⟨HL2_14.out, HC2_14.out⟩, ⟨HL3_14.out, HC3.out⟩, trivial⟩
  have hRK : Kept (fun _ => False) w (w14.alloc (.cells #[.func (.func f10) #[] c10, .func (.func f11) #[] c11, .func (.func f13) #[] c13, .func (.func f14) #[] c14] 140)) := HK14.out.alloc _
  have HRW := Lib.hid (HW14.out.kept0 ((Kept.refl _ _).alloc (.cells #[.func (.func f10) #[] c10, .func (.func f11) #[] c11, .func (.func f13) #[] c13, .func (.func f14) #[] c14] 140)))
  have HRI := Lib.hid hRI
  have HRK := Lib.hid hRK
  clear hRI hRK
  clear HL2_14
  clear HC2_14
  clear HL3_14
  clear HC3
  go_wp2_with fail
  go_ret
  exact ⟨_, _, _, _, rfl, rfl, HRI.out, HRK.out⟩
end Go.Proofs.YtbodlaiakcoabaaGreatDoor
