/-
  The rows of calls of a Sema, and of a Lock's signals: what semaRows and signalRows lay.
  Conditions: the colours fit the world.
-/
import Derived.Test.YtbodlaiakcoabaaGreatDoorRepInv
import Derived.Laws.EntriesVeiled
namespace Go.Proofs.YtbodlaiakcoabaaGreatDoor
open Go.RowKit
set_option linter.unusedSimpArgs false
set_option linter.unusedVariables false
set_option maxRecDepth 100000

set_option maxHeartbeats 8000000 in
theorem rsema_4 (κ : Nat → Nat) (w : World) (hW : Wl κ w) (x : Cl) (k4 : (x.kind == 4) = true) : Calls Tryz.prog 57 #[x.agg] w (Lad κ w ([quitR, noneR, takeR x.n])) := by
  obtain ⟨W0, hW0⟩ : ∃ W0, w.alloc (.cells #[.int .i64 x.kind, .int .i64 x.obj, .int .i64 x.n, .int .i64 x.wait, .bool x.breaks] 72) = W0 := ⟨_, rfl⟩
  have hk0 : Kept (fun _ => False) w W0 := by rw [← hW0]; exact (Kept.refl _ _).alloc _
  have hh : W0.heap[w.heap.size]? = some (.cells #[.int .i64 x.kind, .int .i64 x.obj, .int .i64 x.n, .int .i64 x.wait, .bool x.breaks] 72 (0, 0)) := by rw [← hW0]; exact heap_new1 _ _
  have m0 : W0.cell? ⟨w.heap.size, 0, none⟩ = some (.int .i64 x.kind) := by rw [cell_at _ _ 0 _ _ hh]; rfl
  have m2 : W0.cell? ⟨w.heap.size, 2, none⟩ = some (.int .i64 x.n) := by rw [cell_at _ _ 2 _ _ hh]; rfl
  have HW0 := Lib.hid (hW.kept0 hk0)
  have HK0 := Lib.hid hk0
  have HOP := Lib.hid hh
  clear hW hk0 hh
  go_enter Tryz.func57, Tryz.ntmps57
  go_wp2_with fail
  refine (just_any κ 1 x.n _ HW0.out).mono ?_
  rintro e w1 ⟨f1, c1, rfl, hx1, hk1⟩
  have hl1 := Lat.of0 (κ := κ) hk1
  have HW1 := Lib.hid (HW0.out.kept0 hk1)
  have HOP_1 := Lib.hid (hk1.at0 HOP.out)
  clear HOP
  have HK1 := Lib.hid (HK0.out.tr0 hk1)
  clear HK0
  have HF00 := Lib.hid hx1
  clear hx1 hk1 hl1
  go_wp2_with fail
  refine (marks1 HW1.out HF00.out).mono ?_
  rintro e w2 ⟨f2, c2, rfl, hx2, hk2⟩
  have hl2 := Lat.of0 (κ := κ) hk2
  have HW2 := Lib.hid (HW1.out.kept0 hk2)
  have HF00_2 := Lib.hid (HF00.out.lat hl2)
  clear HF00
  have HOP_2 := Lib.hid (hk2.at0 HOP_1.out)
  clear HOP_1
  have HK2 := Lib.hid (HK1.out.tr0 hk2)
  clear HK1
  have HL0 := Lib.hid hx2
  clear hx2 hk2 hl2
  go_wp2_with fail
  refine (to1 HW2.out 0).mono ?_
  rintro e w3 ⟨f3, c3, rfl, hx3, hk3⟩
  have hl3 := Lat.of0 (κ := κ) hk3
  have HW3 := Lib.hid (HW2.out.kept0 hk3)
  have HL0_3 := Lib.hid (HL0.out.lat hl3)
  clear HL0
  have HOP_3 := Lib.hid (hk3.at0 HOP_2.out)
  clear HOP_2
  have HK3 := Lib.hid (HK2.out.tr0 hk3)
  clear HK2
  have HC0 := Lib.hid hx3
  clear hx3 hk3 hl3
  obtain ⟨WB0, hWB0⟩ : ∃ WB0, w3.alloc (.cells #[.func (.func f2) #[] c2, .func (.func f3) #[] c3] 140) = WB0 := ⟨_, rfl⟩
  have hk4 : Kept (fun _ => False) w3 WB0 := by rw [← hWB0]; exact (Kept.refl _ _).alloc _
  have hb0 : WB0.heap[w3.heap.size]? = some (.cells #[.func (.func f2) #[] c2, .func (.func f3) #[] c3] 140 (0, 0)) := by rw [← hWB0]; exact heap_new1 _ _
  have hl4 := Lat.of0 (κ := κ) hk4
  have HW4 := Lib.hid (HW3.out.kept0 hk4)
  have HL0_4 := Lib.hid (HL0_3.out.lat hl4)
  clear HL0_3
  have HC0_4 := Lib.hid (HC0.out.lat hl4)
  clear HC0
  have HOP_4 := Lib.hid (hk4.at0 HOP_3.out)
  clear HOP_3
  have HK4 := Lib.hid (HK3.out.tr0 hk4)
  clear HK3
  have HBX0 := Lib.hid hb0
  clear hk4 hb0 hl4
  have m0 : WB0.cell? ⟨w.heap.size, 0, none⟩ = some (.int .i64 x.kind) := by rw [cell_at _ _ 0 _ _ HOP_4.out]; rfl
  have m2 : WB0.cell? ⟨w.heap.size, 2, none⟩ = some (.int .i64 x.n) := by rw [cell_at _ _ 2 _ _ HOP_4.out]; rfl
  have b00 : WB0.cell? ⟨w3.heap.size, 0, none⟩ = some (.func (.func f2) #[] c2) := by rw [cell_at _ _ 0 _ _ HBX0.out]; rfl
  have b01 : WB0.cell? ⟨w3.heap.size, 1, none⟩ = some (.func (.func f3) #[] c3) := by rw [cell_at _ _ 1 _ _ HBX0.out]; rfl
  have hRI := rows_new HW4.out [Rc.mk f2 c2 f3 c3] [takeR x.n] #[.func (.func f2) #[] c2, .func (.func f3) #[] c3] 140 rfl (by simp [maxLen]) ⟨⟨HL0_4.out, HC0_4.out⟩, trivial⟩
  have hRK : Kept (fun _ => False) w (WB0.alloc (.cells #[.func (.func f2) #[] c2, .func (.func f3) #[] c3] 140)) := HK4.out.alloc _
  have HRW := Lib.hid (HW4.out.kept0 ((Kept.refl _ _).alloc (.cells #[.func (.func f2) #[] c2, .func (.func f3) #[] c3] 140)))
  have HRI := Lib.hid hRI
  have HRK := Lib.hid hRK
  clear hRI hRK
  clear HL0_4
  clear HC0_4
  clear HBX0
  go_wp2_with fail
  refine (rwaiting_any κ _ HRW.out _ 1 1 _ _ rfl (by decide) HRI.out).mono ?_
  rintro e w99 ⟨s9, n9, c9, xs9, rfl, h91, h92, h93⟩
  have HT := Lib.hid (show Lad κ w _ _ w99 from ⟨s9, n9, c9, xs9, rfl, h91, h92, HRK.out.tr0 h93⟩)
  clear h91 h92 h93
  go_wp2_with fail
  go_ret
  exact HT.out
set_option maxHeartbeats 8000000 in
theorem rsema_5 (κ : Nat → Nat) (w : World) (hW : Wl κ w) (x : Cl) (k4 : (x.kind == 4) = false) (k5 : (x.kind == 5) = true) : Calls Tryz.prog 57 #[x.agg] w (Lad κ w ([takeR x.n, failR x.n])) := by
  obtain ⟨W0, hW0⟩ : ∃ W0, w.alloc (.cells #[.int .i64 x.kind, .int .i64 x.obj, .int .i64 x.n, .int .i64 x.wait, .bool x.breaks] 72) = W0 := ⟨_, rfl⟩
  have hk0 : Kept (fun _ => False) w W0 := by rw [← hW0]; exact (Kept.refl _ _).alloc _
  have hh : W0.heap[w.heap.size]? = some (.cells #[.int .i64 x.kind, .int .i64 x.obj, .int .i64 x.n, .int .i64 x.wait, .bool x.breaks] 72 (0, 0)) := by rw [← hW0]; exact heap_new1 _ _
  have m0 : W0.cell? ⟨w.heap.size, 0, none⟩ = some (.int .i64 x.kind) := by rw [cell_at _ _ 0 _ _ hh]; rfl
  have m2 : W0.cell? ⟨w.heap.size, 2, none⟩ = some (.int .i64 x.n) := by rw [cell_at _ _ 2 _ _ hh]; rfl
  have HW0 := Lib.hid (hW.kept0 hk0)
  have HK0 := Lib.hid hk0
  have HOP := Lib.hid hh
  clear hW hk0 hh
  go_enter Tryz.func57, Tryz.ntmps57
  go_wp2_with fail
  refine (just_any κ 1 x.n _ HW0.out).mono ?_
  rintro e w1 ⟨f1, c1, rfl, hx1, hk1⟩
  have hl1 := Lat.of0 (κ := κ) hk1
  have HW1 := Lib.hid (HW0.out.kept0 hk1)
  have HOP_1 := Lib.hid (hk1.at0 HOP.out)
  clear HOP
  have HK1 := Lib.hid (HK0.out.tr0 hk1)
  clear HK0
  have HF00 := Lib.hid hx1
  clear hx1 hk1 hl1
  go_wp2_with fail
  refine (marks1 HW1.out HF00.out).mono ?_
  rintro e w2 ⟨f2, c2, rfl, hx2, hk2⟩
  have hl2 := Lat.of0 (κ := κ) hk2
  have HW2 := Lib.hid (HW1.out.kept0 hk2)
  have HF00_2 := Lib.hid (HF00.out.lat hl2)
  clear HF00
  have HOP_2 := Lib.hid (hk2.at0 HOP_1.out)
  clear HOP_1
  have HK2 := Lib.hid (HK1.out.tr0 hk2)
  clear HK1
  have HL0 := Lib.hid hx2
  clear hx2 hk2 hl2
  go_wp2_with fail
  refine (to1 HW2.out 0).mono ?_
  rintro e w3 ⟨f3, c3, rfl, hx3, hk3⟩
  have hl3 := Lat.of0 (κ := κ) hk3
  have HW3 := Lib.hid (HW2.out.kept0 hk3)
  have HL0_3 := Lib.hid (HL0.out.lat hl3)
  clear HL0
  have HOP_3 := Lib.hid (hk3.at0 HOP_2.out)
  clear HOP_2
  have HK3 := Lib.hid (HK2.out.tr0 hk3)
  clear HK2
  have HC0 := Lib.hid hx3
  clear hx3 hk3 hl3
  obtain ⟨WB0, hWB0⟩ : ∃ WB0, w3.alloc (.cells #[.func (.func f2) #[] c2, .func (.func f3) #[] c3] 140) = WB0 := ⟨_, rfl⟩
  have hk4 : Kept (fun _ => False) w3 WB0 := by rw [← hWB0]; exact (Kept.refl _ _).alloc _
  have hb0 : WB0.heap[w3.heap.size]? = some (.cells #[.func (.func f2) #[] c2, .func (.func f3) #[] c3] 140 (0, 0)) := by rw [← hWB0]; exact heap_new1 _ _
  have hl4 := Lat.of0 (κ := κ) hk4
  have HW4 := Lib.hid (HW3.out.kept0 hk4)
  have HL0_4 := Lib.hid (HL0_3.out.lat hl4)
  clear HL0_3
  have HC0_4 := Lib.hid (HC0.out.lat hl4)
  clear HC0
  have HOP_4 := Lib.hid (hk4.at0 HOP_3.out)
  clear HOP_3
  have HK4 := Lib.hid (HK3.out.tr0 hk4)
  clear HK3
  have HBX0 := Lib.hid hb0
  clear hk4 hb0 hl4
  have m0 : WB0.cell? ⟨w.heap.size, 0, none⟩ = some (.int .i64 x.kind) := by rw [cell_at _ _ 0 _ _ HOP_4.out]; rfl
  have m2 : WB0.cell? ⟨w.heap.size, 2, none⟩ = some (.int .i64 x.n) := by rw [cell_at _ _ 2 _ _ HOP_4.out]; rfl
  have b00 : WB0.cell? ⟨w3.heap.size, 0, none⟩ = some (.func (.func f2) #[] c2) := by rw [cell_at _ _ 0 _ _ HBX0.out]; rfl
  have b01 : WB0.cell? ⟨w3.heap.size, 1, none⟩ = some (.func (.func f3) #[] c3) := by rw [cell_at _ _ 1 _ _ HBX0.out]; rfl
  have HCEL : Hid (∀ w', Kept (fun _ => False) WB0 w' → w'.cell? ⟨w.heap.size, 0, none⟩ = some (.int .i64 x.kind) ∧ w'.cell? ⟨w.heap.size, 2, none⟩ = some (.int .i64 x.n) ∧ w'.cell? ⟨w3.heap.size, 0, none⟩ = some (.func (.func f2) #[] c2) ∧ w'.cell? ⟨w3.heap.size, 1, none⟩ = some (.func (.func f3) #[] c3)) := Lib.hid (fun w' hk => ⟨(hk.cell (World.block_lt_of_cell? _ _ m0) (fun f => f)).trans m0, (hk.cell (World.block_lt_of_cell? _ _ m2) (fun f => f)).trans m2, (hk.cell (World.block_lt_of_cell? _ _ b00) (fun f => f)).trans b00, (hk.cell (World.block_lt_of_cell? _ _ b01) (fun f => f)).trans b01⟩)
  clear b00 b01
  go_wp2_with fail
  have HST : Hid (StayAll [PEq (.agg #[.func (.func f2) #[] c2, .func (.func f3) #[] c3]), PEq (.pointer (some ⟨w.heap.size, 2, none⟩)), PEq (.int .i64 x.n), PFit κ (fun m => m.kind == 5 && m.v == x.n), PFits κ (fun m => m.kind == 5 && m.v == x.n), PLook κ (marksL [fun _ m => (fun m => m.kind == 5 && m.v == x.n) m]), PInts κ 1, PCome κ [1], PRow κ ⟨(marksL [fun _ m => (fun m => m.kind == 5 && m.v == x.n) m]), [1]⟩, PRows κ [takeR x.n, ⟨(marksL [fun _ m => (fun m => m.kind == 5 && m.v == x.n) m]), [1]⟩], PRows κ [takeR x.n, ⟨(marksL [fun _ m => (fun m => m.kind == 5 && m.v == x.n) m]), [1]⟩]]) := Lib.hid ⟨stay_eq _, stay_eq _, stay_eq _, stay_fit _ _, stay_fits _ _, stay_look _ _, stay_ints _ _, stay_come _ _, stay_row _ _, stay_rows _ _, stay_rows _ _, trivial⟩
  refine wp_region_any (by kernel_rfl) (wpAny_inv (fun l a w' => ∃ v0 v1 v2 v3 v4 v5 v6 v7 v8 v9 v10, a = ⟨#[x.agg, Value.pointer (some { block := w.heap.size, off := 0 }), v10, Value.pointer (some { block := w3.heap.size, off := 0 }), Value.pointer (some { block := w.heap.size, off := 2 }), Value.int IntKind.i64 x.n, Value.func (Fn.func f1) #[] c1, Value.slice (some { block := w1.heap.size, off := 0 }) 1 1, Value.func (Fn.func f2) #[] c2, Value.slice (some { block := w2.heap.size, off := 0 }) 1 1, Value.func (Fn.func f3) #[] c3, Value.agg #[Value.func (Fn.func f2) #[] c2, Value.func (Fn.func f3) #[] c3], Value.pointer (some { block := w.heap.size, off := 0 }), Value.int IntKind.i64 x.kind, Value.bool false, Value.bool false, undef, undef, undef, Value.bool true, Value.bool true, v0, v1, v2, v3, v4, v5, v6, v7, v8, v9, undef, undef, undef, undef, undef, undef, undef, undef, undef, undef, undef, undef, undef, undef, undef, undef, undef, undef, undef, undef, undef, undef, undef, undef, undef, undef], []⟩ ∧ FG WB0 [PEq (.agg #[.func (.func f2) #[] c2, .func (.func f3) #[] c3]), PEq (.pointer (some ⟨w.heap.size, 2, none⟩)), PEq (.int .i64 x.n), PFit κ (fun m => m.kind == 5 && m.v == x.n), PFits κ (fun m => m.kind == 5 && m.v == x.n), PLook κ (marksL [fun _ m => (fun m => m.kind == 5 && m.v == x.n) m]), PInts κ 1, PCome κ [1], PRow κ ⟨(marksL [fun _ m => (fun m => m.kind == 5 && m.v == x.n) m]), [1]⟩, PRows κ [takeR x.n, ⟨(marksL [fun _ m => (fun m => m.kind == 5 && m.v == x.n) m]), [1]⟩], PRows κ [takeR x.n, ⟨(marksL [fun _ m => (fun m => m.kind == 5 && m.v == x.n) m]), [1]⟩]] l w' [v0, v1, v2, v3, v4, v5, v6, v7, v8, v9, v10]) ?hstep ?hend _ _ _ _ (by simp) (by simp) ?hstart)
  case hstart =>
    exact ⟨_, _, _, _, _, _, _, _, _, _, _, rfl, ⟨(Kept.refl _ _).drew, fun i P v _ hv hf => (flag_none hf).elim⟩⟩
  case hstep =>
    intro l a w2 i hs hI hi
    have hs' : l.size = 11 := hs
    obtain ⟨hlt, hu, hd⟩ := ready_of hi
    have hsj : ∀ j, j ≠ i → (l.setIfInBounds i true).getD j false = true → l.getD j false = true := fun j hj h => by
      rw [getD_set (by omega), if_neg hj] at h; exact h
    have HS := Lib.hid hsj; clear hsj
    have hlt' : i < 11 := hlt
    clear hi hlt hu
    obtain ⟨v0, v1, v2, v3, v4, v5, v6, v7, v8, v9, v10, rfl, F⟩ := hI
    have hi : i = 0 ∨ i = 1 ∨ i = 2 ∨ i = 3 ∨ i = 4 ∨ i = 5 ∨ i = 6 ∨ i = 7 ∨ i = 8 ∨ i = 9 ∨ i = 10 := by omega
    clear hlt'
    rcases hi with rfl | rfl | rfl | rfl | rfl | rfl | rfl | rfl | rfl | rfl | rfl
    · obtain ⟨y0, y1, y2, y3⟩ := HCEL.out _ F.kept
      refine wpOp_open rfl (fun K hK => ?_)
      go_simp
      exact hK.out _ _ ⟨_, _, _, _, _, _, _, _, _, _, _, rfl, F.step HST.out 0 HS.out (Kept.refl _ _) _ rfl _ (rfl)⟩
    · obtain ⟨y0, y1, y2, y3⟩ := HCEL.out _ F.kept
      refine wpOp_open rfl (fun K hK => ?_)
      go_simp
      exact hK.out _ _ ⟨_, _, _, _, _, _, _, _, _, _, _, rfl, F.step HST.out 1 HS.out (Kept.refl _ _) _ rfl _ (rfl)⟩
    · have d1 : l.getD 1 false = true := by simp [Region.binds] at hd; simp [hd]
      obtain rfl := F.at_ 1 _ _ rfl rfl d1
      obtain ⟨y0, y1, y2, y3⟩ := HCEL.out _ F.kept
      refine wpOp_open rfl (fun K hK => ?_)
      go_simp
      exact hK.out _ _ ⟨_, _, _, _, _, _, _, _, _, _, _, rfl, F.step HST.out 2 HS.out (Kept.refl _ _) _ rfl _ (rfl)⟩
    · have d2 : l.getD 2 false = true := by simp [Region.binds] at hd; simp [hd]
      obtain rfl := F.at_ 2 _ _ rfl rfl d2
      refine wpOp_open rfl (fun K hK => ?_)
      go_simp
      refine (just_any κ 5 x.n w2 (HW4.out.kept0 F.kept)).mono ?_
      rintro e w4 ⟨f4, c4, rfl, hx4, hk4⟩
      exact hK.out _ _ ⟨_, _, _, _, _, _, _, _, _, _, _, rfl, F.step HST.out 3 HS.out (hk4) _ rfl _ (⟨_, _, rfl, hx4⟩)⟩
    · have d3 : l.getD 3 false = true := by simp [Region.binds] at hd; simp [hd]
      obtain ⟨f3, c3, e3, hx3⟩ := F.at_ 3 _ _ rfl rfl d3
      subst e3
      refine wpOp_open rfl (fun K hK => ?_)
      go_simp
      exact hK.out _ _ ⟨_, _, _, _, _, _, _, _, _, _, _, rfl, F.step HST.out 4 HS.out ((Kept.refl _ _).alloc _) _ rfl _ (fits_p (HW4.out.kept0 F.kept) hx3)⟩
    · have d4 : l.getD 4 false = true := by simp [Region.binds] at hd; simp [hd]
      obtain ⟨g3, f3, c3, e3, hx3, hy3⟩ := F.at_ 4 _ _ rfl rfl d4
      subst e3
      refine wpOp_open rfl (fun K hK => ?_)
      go_simp
      refine (marks_p (HW4.out.kept0 F.kept) hx3 hy3).mono ?_
      rintro e w4 ⟨f4, c4, rfl, hx4, hk4⟩
      exact hK.out _ _ ⟨_, _, _, _, _, _, _, _, _, _, _, rfl, F.step HST.out 5 HS.out (hk4) _ rfl _ (⟨_, _, rfl, hx4⟩)⟩
    · refine wpOp_open rfl (fun K hK => ?_)
      go_simp
      exact hK.out _ _ ⟨_, _, _, _, _, _, _, _, _, _, _, rfl, F.step HST.out 6 HS.out ((Kept.refl _ _).alloc _) _ rfl _ (ints_p (HW4.out.kept0 F.kept) 1)⟩
    · have d6 : l.getD 6 false = true := by simp [Region.binds] at hd; simp [hd]
      obtain ⟨g3, e3, hx3⟩ := F.at_ 6 _ _ rfl rfl d6
      subst e3
      refine wpOp_open rfl (fun K hK => ?_)
      go_simp
      refine (to_p (HW4.out.kept0 F.kept) hx3).mono ?_
      rintro e w4 ⟨f4, c4, rfl, hx4, hk4⟩
      exact hK.out _ _ ⟨_, _, _, _, _, _, _, _, _, _, _, rfl, F.step HST.out 7 HS.out (hk4) _ rfl _ (⟨_, _, rfl, hx4⟩)⟩
    · have d5 : l.getD 5 false = true := by simp [Region.binds] at hd; simp [hd]
      have d7 : l.getD 7 false = true := by simp [Region.binds] at hd; simp [hd]
      obtain ⟨f3, c3, e3, hx3⟩ := F.at_ 5 _ _ rfl rfl d5
      subst e3
      obtain ⟨f5, c5, e5, hx5⟩ := F.at_ 7 _ _ rfl rfl d7
      subst e5
      refine wpOp_open rfl (fun K hK => ?_)
      go_simp
      exact hK.out _ _ ⟨_, _, _, _, _, _, _, _, _, _, _, rfl, F.step HST.out 8 HS.out (Kept.refl _ _) _ rfl _ (⟨_, _, _, _, rfl, hx3, hx5⟩)⟩
    · have d0 : l.getD 0 false = true := by simp [Region.binds] at hd; simp [hd]
      obtain rfl := F.at_ 0 _ _ rfl rfl d0
      have d8 : l.getD 8 false = true := by simp [Region.binds] at hd; simp [hd]
      obtain ⟨fx8, cx8, gx8, zx8, e8, hx8, hy8⟩ := F.at_ 8 _ _ rfl rfl d8
      subst e8
      have hl2 := Lat.of0 (κ := κ) F.kept
      have hRI := rows_new (HW4.out.kept0 F.kept) [Rc.mk f2 c2 f3 c3, Rc.mk fx8 cx8 gx8 zx8] [takeR x.n, ⟨(marksL [fun _ m => (fun m => m.kind == 5 && m.v == x.n) m]), [1]⟩] #[.func (.func f2) #[] c2, .func (.func f3) #[] c3, .func (.func fx8) #[] cx8, .func (.func gx8) #[] zx8] 140 rfl (by simp [maxLen]) ⟨⟨HL0_4.out.lat hl2, HC0_4.out.lat hl2⟩, ⟨hx8, hy8⟩, trivial⟩
      refine wpOp_open rfl (fun K hK => ?_)
      go_simp
      exact hK.out _ _ ⟨_, _, _, _, _, _, _, _, _, _, _, rfl, F.step HST.out 9 HS.out ((Kept.refl _ _).alloc _) _ rfl _ (⟨_, _, _, _, rfl, rfl, hRI⟩)⟩
    · have d9 : l.getD 9 false = true := by simp [Region.binds] at hd; simp [hd]
      obtain ⟨s3, n3, c3, xs3, e3, hx3, hy3⟩ := F.at_ 9 _ _ rfl rfl d9
      subst e3
      have HX3 := Lib.hid hx3
      clear hx3
      refine wpOp_open rfl (fun K hK => ?_)
      go_simp
      exact hK.out _ _ ⟨_, _, _, _, _, _, _, _, _, _, _, rfl, F.step HST.out 10 HS.out (Kept.refl _ _) _ rfl _ (⟨_, _, _, _, rfl, HX3.out, hy3⟩)⟩
  case hend =>
    intro l a w2 hs hI hr
    have hs' : l.size = 11 := hs
    obtain ⟨v0, v1, v2, v3, v4, v5, v6, v7, v8, v9, v10, rfl, F⟩ := hI
    have HAR := all_ready hs (by kernel_rfl) hr
    obtain ⟨s3, n3, c3, xs3, e3', hx3, hy3⟩ := F.at_ 10 _ _ rfl rfl (HAR 10 (by decide))
    subst e3'
    have HKF := Lib.hid F.kept
    have HX3 := Lib.hid hx3
    have HY3 := Lib.hid hy3
    clear F hr hx3 hy3 HAR
    go_wp2_with fail
    go_ret
    exact ⟨_, _, _, _, rfl, HX3.out, HY3.out, HK4.out.tr0 HKF.out⟩
set_option maxHeartbeats 8000000 in
theorem rsema_6 (κ : Nat → Nat) (w : World) (hW : Wl κ w) (x : Cl) (k4 : (x.kind == 4) = false) (k5 : (x.kind == 5) = false) (k6 : (x.kind == 6) = true) : Calls Tryz.prog 57 #[x.agg] w (Lad κ w ([freeR x.n, overR x.n])) := by
  obtain ⟨W0, hW0⟩ : ∃ W0, w.alloc (.cells #[.int .i64 x.kind, .int .i64 x.obj, .int .i64 x.n, .int .i64 x.wait, .bool x.breaks] 72) = W0 := ⟨_, rfl⟩
  have hk0 : Kept (fun _ => False) w W0 := by rw [← hW0]; exact (Kept.refl _ _).alloc _
  have hh : W0.heap[w.heap.size]? = some (.cells #[.int .i64 x.kind, .int .i64 x.obj, .int .i64 x.n, .int .i64 x.wait, .bool x.breaks] 72 (0, 0)) := by rw [← hW0]; exact heap_new1 _ _
  have m0 : W0.cell? ⟨w.heap.size, 0, none⟩ = some (.int .i64 x.kind) := by rw [cell_at _ _ 0 _ _ hh]; rfl
  have m2 : W0.cell? ⟨w.heap.size, 2, none⟩ = some (.int .i64 x.n) := by rw [cell_at _ _ 2 _ _ hh]; rfl
  have HW0 := Lib.hid (hW.kept0 hk0)
  have HK0 := Lib.hid hk0
  have HOP := Lib.hid hh
  clear hW hk0 hh
  go_enter Tryz.func57, Tryz.ntmps57
  go_wp2_with fail
  refine (just_any κ 1 x.n _ HW0.out).mono ?_
  rintro e w1 ⟨f1, c1, rfl, hx1, hk1⟩
  have hl1 := Lat.of0 (κ := κ) hk1
  have HW1 := Lib.hid (HW0.out.kept0 hk1)
  have HOP_1 := Lib.hid (hk1.at0 HOP.out)
  clear HOP
  have HK1 := Lib.hid (HK0.out.tr0 hk1)
  clear HK0
  have HF00 := Lib.hid hx1
  clear hx1 hk1 hl1
  go_wp2_with fail
  refine (marks1 HW1.out HF00.out).mono ?_
  rintro e w2 ⟨f2, c2, rfl, hx2, hk2⟩
  have hl2 := Lat.of0 (κ := κ) hk2
  have HW2 := Lib.hid (HW1.out.kept0 hk2)
  have HF00_2 := Lib.hid (HF00.out.lat hl2)
  clear HF00
  have HOP_2 := Lib.hid (hk2.at0 HOP_1.out)
  clear HOP_1
  have HK2 := Lib.hid (HK1.out.tr0 hk2)
  clear HK1
  have HL0 := Lib.hid hx2
  clear hx2 hk2 hl2
  go_wp2_with fail
  refine (to1 HW2.out 0).mono ?_
  rintro e w3 ⟨f3, c3, rfl, hx3, hk3⟩
  have hl3 := Lat.of0 (κ := κ) hk3
  have HW3 := Lib.hid (HW2.out.kept0 hk3)
  have HL0_3 := Lib.hid (HL0.out.lat hl3)
  clear HL0
  have HOP_3 := Lib.hid (hk3.at0 HOP_2.out)
  clear HOP_2
  have HK3 := Lib.hid (HK2.out.tr0 hk3)
  clear HK2
  have HC0 := Lib.hid hx3
  clear hx3 hk3 hl3
  obtain ⟨WB0, hWB0⟩ : ∃ WB0, w3.alloc (.cells #[.func (.func f2) #[] c2, .func (.func f3) #[] c3] 140) = WB0 := ⟨_, rfl⟩
  have hk4 : Kept (fun _ => False) w3 WB0 := by rw [← hWB0]; exact (Kept.refl _ _).alloc _
  have hb0 : WB0.heap[w3.heap.size]? = some (.cells #[.func (.func f2) #[] c2, .func (.func f3) #[] c3] 140 (0, 0)) := by rw [← hWB0]; exact heap_new1 _ _
  have hl4 := Lat.of0 (κ := κ) hk4
  have HW4 := Lib.hid (HW3.out.kept0 hk4)
  have HL0_4 := Lib.hid (HL0_3.out.lat hl4)
  clear HL0_3
  have HC0_4 := Lib.hid (HC0.out.lat hl4)
  clear HC0
  have HOP_4 := Lib.hid (hk4.at0 HOP_3.out)
  clear HOP_3
  have HK4 := Lib.hid (HK3.out.tr0 hk4)
  clear HK3
  have HBX0 := Lib.hid hb0
  clear hk4 hb0 hl4
  have m0 : WB0.cell? ⟨w.heap.size, 0, none⟩ = some (.int .i64 x.kind) := by rw [cell_at _ _ 0 _ _ HOP_4.out]; rfl
  have m2 : WB0.cell? ⟨w.heap.size, 2, none⟩ = some (.int .i64 x.n) := by rw [cell_at _ _ 2 _ _ HOP_4.out]; rfl
  have b00 : WB0.cell? ⟨w3.heap.size, 0, none⟩ = some (.func (.func f2) #[] c2) := by rw [cell_at _ _ 0 _ _ HBX0.out]; rfl
  have b01 : WB0.cell? ⟨w3.heap.size, 1, none⟩ = some (.func (.func f3) #[] c3) := by rw [cell_at _ _ 1 _ _ HBX0.out]; rfl
  clear HL0_4
  clear HC0_4
  clear HBX0
  clear b00 b01
  have HCEL : Hid (∀ w', Kept (fun _ => False) WB0 w' → w'.cell? ⟨w.heap.size, 0, none⟩ = some (.int .i64 x.kind) ∧ w'.cell? ⟨w.heap.size, 2, none⟩ = some (.int .i64 x.n)) := Lib.hid (fun w' hk => ⟨(hk.cell (World.block_lt_of_cell? _ _ m0) (fun f => f)).trans m0, (hk.cell (World.block_lt_of_cell? _ _ m2) (fun f => f)).trans m2⟩)
  go_wp2_with fail
  have HST : Hid (StayAll [PEq (.pointer (some ⟨w.heap.size, 2, none⟩)), PEq (.int .i64 x.n), PFit κ (fun m => m.kind == 3 && m.v == x.n), PFits κ (fun m => m.kind == 3 && m.v == x.n), PLook κ (marksL [fun _ m => (fun m => m.kind == 3 && m.v == x.n) m]), PInts κ 0, PCome κ [0], PRow κ ⟨(marksL [fun _ m => (fun m => m.kind == 3 && m.v == x.n) m]), [0]⟩, PEq (.pointer (some ⟨w.heap.size, 2, none⟩)), PEq (.int .i64 x.n), PFit κ (fun m => m.kind == 7 && m.v == x.n), PFits κ (fun m => m.kind == 7 && m.v == x.n), PLook κ (marksL [fun _ m => (fun m => m.kind == 7 && m.v == x.n) m]), PInts κ 5, PCome κ [5], PRow κ ⟨(marksL [fun _ m => (fun m => m.kind == 7 && m.v == x.n) m]), [5]⟩, PRows κ [⟨(marksL [fun _ m => (fun m => m.kind == 3 && m.v == x.n) m]), [0]⟩, ⟨(marksL [fun _ m => (fun m => m.kind == 7 && m.v == x.n) m]), [5]⟩], PRows κ [⟨(marksL [fun _ m => (fun m => m.kind == 3 && m.v == x.n) m]), [0]⟩, ⟨(marksL [fun _ m => (fun m => m.kind == 7 && m.v == x.n) m]), [5]⟩]]) := Lib.hid ⟨stay_eq _, stay_eq _, stay_fit _ _, stay_fits _ _, stay_look _ _, stay_ints _ _, stay_come _ _, stay_row _ _, stay_eq _, stay_eq _, stay_fit _ _, stay_fits _ _, stay_look _ _, stay_ints _ _, stay_come _ _, stay_row _ _, stay_rows _ _, stay_rows _ _, trivial⟩
  refine wp_region_any (by kernel_rfl) (wpAny_inv (fun l a w' => ∃ v0 v1 v2 v3 v4 v5 v6 v7 v8 v9 v10 v11 v12 v13 v14 v15 v16 v17, a = ⟨#[x.agg, Value.pointer (some { block := w.heap.size, off := 0 }), v17, Value.pointer (some { block := w3.heap.size, off := 0 }), Value.pointer (some { block := w.heap.size, off := 2 }), Value.int IntKind.i64 x.n, Value.func (Fn.func f1) #[] c1, Value.slice (some { block := w1.heap.size, off := 0 }) 1 1, Value.func (Fn.func f2) #[] c2, Value.slice (some { block := w2.heap.size, off := 0 }) 1 1, Value.func (Fn.func f3) #[] c3, Value.agg #[Value.func (Fn.func f2) #[] c2, Value.func (Fn.func f3) #[] c3], Value.pointer (some { block := w.heap.size, off := 0 }), Value.int IntKind.i64 x.kind, Value.bool false, Value.bool false, undef, undef, undef, Value.bool false, Value.bool false, undef, undef, undef, undef, undef, undef, undef, undef, undef, undef, Value.bool true, Value.bool true, v0, v1, v2, v3, v4, v5, v6, v7, v8, v9, v10, v11, v12, v13, v14, v15, v16, undef, undef, undef, undef, undef, undef, undef], []⟩ ∧ FG WB0 [PEq (.pointer (some ⟨w.heap.size, 2, none⟩)), PEq (.int .i64 x.n), PFit κ (fun m => m.kind == 3 && m.v == x.n), PFits κ (fun m => m.kind == 3 && m.v == x.n), PLook κ (marksL [fun _ m => (fun m => m.kind == 3 && m.v == x.n) m]), PInts κ 0, PCome κ [0], PRow κ ⟨(marksL [fun _ m => (fun m => m.kind == 3 && m.v == x.n) m]), [0]⟩, PEq (.pointer (some ⟨w.heap.size, 2, none⟩)), PEq (.int .i64 x.n), PFit κ (fun m => m.kind == 7 && m.v == x.n), PFits κ (fun m => m.kind == 7 && m.v == x.n), PLook κ (marksL [fun _ m => (fun m => m.kind == 7 && m.v == x.n) m]), PInts κ 5, PCome κ [5], PRow κ ⟨(marksL [fun _ m => (fun m => m.kind == 7 && m.v == x.n) m]), [5]⟩, PRows κ [⟨(marksL [fun _ m => (fun m => m.kind == 3 && m.v == x.n) m]), [0]⟩, ⟨(marksL [fun _ m => (fun m => m.kind == 7 && m.v == x.n) m]), [5]⟩], PRows κ [⟨(marksL [fun _ m => (fun m => m.kind == 3 && m.v == x.n) m]), [0]⟩, ⟨(marksL [fun _ m => (fun m => m.kind == 7 && m.v == x.n) m]), [5]⟩]] l w' [v0, v1, v2, v3, v4, v5, v6, v7, v8, v9, v10, v11, v12, v13, v14, v15, v16, v17]) ?hstep ?hend _ _ _ _ (by simp) (by simp) ?hstart)
  case hstart =>
    exact ⟨_, _, _, _, _, _, _, _, _, _, _, _, _, _, _, _, _, _, rfl, ⟨(Kept.refl _ _).drew, fun i P v _ hv hf => (flag_none hf).elim⟩⟩
  case hstep =>
    intro l a w2 i hs hI hi
    have hs' : l.size = 18 := hs
    obtain ⟨hlt, hu, hd⟩ := ready_of hi
    have hsj : ∀ j, j ≠ i → (l.setIfInBounds i true).getD j false = true → l.getD j false = true := fun j hj h => by
      rw [getD_set (by omega), if_neg hj] at h; exact h
    have HS := Lib.hid hsj; clear hsj
    have hlt' : i < 18 := hlt
    clear hi hlt hu
    obtain ⟨v0, v1, v2, v3, v4, v5, v6, v7, v8, v9, v10, v11, v12, v13, v14, v15, v16, v17, rfl, F⟩ := hI
    have hi : i = 0 ∨ i = 1 ∨ i = 2 ∨ i = 3 ∨ i = 4 ∨ i = 5 ∨ i = 6 ∨ i = 7 ∨ i = 8 ∨ i = 9 ∨ i = 10 ∨ i = 11 ∨ i = 12 ∨ i = 13 ∨ i = 14 ∨ i = 15 ∨ i = 16 ∨ i = 17 := by omega
    clear hlt'
    rcases hi with rfl | rfl | rfl | rfl | rfl | rfl | rfl | rfl | rfl | rfl | rfl | rfl | rfl | rfl | rfl | rfl | rfl | rfl
    · obtain ⟨y0, y1⟩ := HCEL.out _ F.kept
      refine wpOp_open rfl (fun K hK => ?_)
      go_simp
      exact hK.out _ _ ⟨_, _, _, _, _, _, _, _, _, _, _, _, _, _, _, _, _, _, rfl, F.step HST.out 0 HS.out (Kept.refl _ _) _ rfl _ (rfl)⟩
    · have d0 : l.getD 0 false = true := by simp [Region.binds] at hd; simp [hd]
      obtain rfl := F.at_ 0 _ _ rfl rfl d0
      obtain ⟨y0, y1⟩ := HCEL.out _ F.kept
      refine wpOp_open rfl (fun K hK => ?_)
      go_simp
      exact hK.out _ _ ⟨_, _, _, _, _, _, _, _, _, _, _, _, _, _, _, _, _, _, rfl, F.step HST.out 1 HS.out (Kept.refl _ _) _ rfl _ (rfl)⟩
    · have d1 : l.getD 1 false = true := by simp [Region.binds] at hd; simp [hd]
      obtain rfl := F.at_ 1 _ _ rfl rfl d1
      refine wpOp_open rfl (fun K hK => ?_)
      go_simp
      refine (just_any κ 3 x.n w2 (HW4.out.kept0 F.kept)).mono ?_
      rintro e w4 ⟨f4, c4, rfl, hx4, hk4⟩
      exact hK.out _ _ ⟨_, _, _, _, _, _, _, _, _, _, _, _, _, _, _, _, _, _, rfl, F.step HST.out 2 HS.out (hk4) _ rfl _ (⟨_, _, rfl, hx4⟩)⟩
    · have d2 : l.getD 2 false = true := by simp [Region.binds] at hd; simp [hd]
      obtain ⟨f3, c3, e3, hx3⟩ := F.at_ 2 _ _ rfl rfl d2
      subst e3
      refine wpOp_open rfl (fun K hK => ?_)
      go_simp
      exact hK.out _ _ ⟨_, _, _, _, _, _, _, _, _, _, _, _, _, _, _, _, _, _, rfl, F.step HST.out 3 HS.out ((Kept.refl _ _).alloc _) _ rfl _ (fits_p (HW4.out.kept0 F.kept) hx3)⟩
    · have d3 : l.getD 3 false = true := by simp [Region.binds] at hd; simp [hd]
      obtain ⟨g3, f3, c3, e3, hx3, hy3⟩ := F.at_ 3 _ _ rfl rfl d3
      subst e3
      refine wpOp_open rfl (fun K hK => ?_)
      go_simp
      refine (marks_p (HW4.out.kept0 F.kept) hx3 hy3).mono ?_
      rintro e w4 ⟨f4, c4, rfl, hx4, hk4⟩
      exact hK.out _ _ ⟨_, _, _, _, _, _, _, _, _, _, _, _, _, _, _, _, _, _, rfl, F.step HST.out 4 HS.out (hk4) _ rfl _ (⟨_, _, rfl, hx4⟩)⟩
    · refine wpOp_open rfl (fun K hK => ?_)
      go_simp
      exact hK.out _ _ ⟨_, _, _, _, _, _, _, _, _, _, _, _, _, _, _, _, _, _, rfl, F.step HST.out 5 HS.out ((Kept.refl _ _).alloc _) _ rfl _ (ints_p (HW4.out.kept0 F.kept) 0)⟩
    · have d5 : l.getD 5 false = true := by simp [Region.binds] at hd; simp [hd]
      obtain ⟨g3, e3, hx3⟩ := F.at_ 5 _ _ rfl rfl d5
      subst e3
      refine wpOp_open rfl (fun K hK => ?_)
      go_simp
      refine (to_p (HW4.out.kept0 F.kept) hx3).mono ?_
      rintro e w4 ⟨f4, c4, rfl, hx4, hk4⟩
      exact hK.out _ _ ⟨_, _, _, _, _, _, _, _, _, _, _, _, _, _, _, _, _, _, rfl, F.step HST.out 6 HS.out (hk4) _ rfl _ (⟨_, _, rfl, hx4⟩)⟩
    · have d4 : l.getD 4 false = true := by simp [Region.binds] at hd; simp [hd]
      have d6 : l.getD 6 false = true := by simp [Region.binds] at hd; simp [hd]
      obtain ⟨f3, c3, e3, hx3⟩ := F.at_ 4 _ _ rfl rfl d4
      subst e3
      obtain ⟨f5, c5, e5, hx5⟩ := F.at_ 6 _ _ rfl rfl d6
      subst e5
      refine wpOp_open rfl (fun K hK => ?_)
      go_simp
      exact hK.out _ _ ⟨_, _, _, _, _, _, _, _, _, _, _, _, _, _, _, _, _, _, rfl, F.step HST.out 7 HS.out (Kept.refl _ _) _ rfl _ (⟨_, _, _, _, rfl, hx3, hx5⟩)⟩
    · obtain ⟨y0, y1⟩ := HCEL.out _ F.kept
      refine wpOp_open rfl (fun K hK => ?_)
      go_simp
      exact hK.out _ _ ⟨_, _, _, _, _, _, _, _, _, _, _, _, _, _, _, _, _, _, rfl, F.step HST.out 8 HS.out (Kept.refl _ _) _ rfl _ (rfl)⟩
    · have d8 : l.getD 8 false = true := by simp [Region.binds] at hd; simp [hd]
      obtain rfl := F.at_ 8 _ _ rfl rfl d8
      obtain ⟨y0, y1⟩ := HCEL.out _ F.kept
      refine wpOp_open rfl (fun K hK => ?_)
      go_simp
      exact hK.out _ _ ⟨_, _, _, _, _, _, _, _, _, _, _, _, _, _, _, _, _, _, rfl, F.step HST.out 9 HS.out (Kept.refl _ _) _ rfl _ (rfl)⟩
    · have d9 : l.getD 9 false = true := by simp [Region.binds] at hd; simp [hd]
      obtain rfl := F.at_ 9 _ _ rfl rfl d9
      refine wpOp_open rfl (fun K hK => ?_)
      go_simp
      refine (just_any κ 7 x.n w2 (HW4.out.kept0 F.kept)).mono ?_
      rintro e w4 ⟨f4, c4, rfl, hx4, hk4⟩
      exact hK.out _ _ ⟨_, _, _, _, _, _, _, _, _, _, _, _, _, _, _, _, _, _, rfl, F.step HST.out 10 HS.out (hk4) _ rfl _ (⟨_, _, rfl, hx4⟩)⟩
    · have d10 : l.getD 10 false = true := by simp [Region.binds] at hd; simp [hd]
      obtain ⟨f3, c3, e3, hx3⟩ := F.at_ 10 _ _ rfl rfl d10
      subst e3
      refine wpOp_open rfl (fun K hK => ?_)
      go_simp
      exact hK.out _ _ ⟨_, _, _, _, _, _, _, _, _, _, _, _, _, _, _, _, _, _, rfl, F.step HST.out 11 HS.out ((Kept.refl _ _).alloc _) _ rfl _ (fits_p (HW4.out.kept0 F.kept) hx3)⟩
    · have d11 : l.getD 11 false = true := by simp [Region.binds] at hd; simp [hd]
      obtain ⟨g3, f3, c3, e3, hx3, hy3⟩ := F.at_ 11 _ _ rfl rfl d11
      subst e3
      refine wpOp_open rfl (fun K hK => ?_)
      go_simp
      refine (marks_p (HW4.out.kept0 F.kept) hx3 hy3).mono ?_
      rintro e w4 ⟨f4, c4, rfl, hx4, hk4⟩
      exact hK.out _ _ ⟨_, _, _, _, _, _, _, _, _, _, _, _, _, _, _, _, _, _, rfl, F.step HST.out 12 HS.out (hk4) _ rfl _ (⟨_, _, rfl, hx4⟩)⟩
    · refine wpOp_open rfl (fun K hK => ?_)
      go_simp
      exact hK.out _ _ ⟨_, _, _, _, _, _, _, _, _, _, _, _, _, _, _, _, _, _, rfl, F.step HST.out 13 HS.out ((Kept.refl _ _).alloc _) _ rfl _ (ints_p (HW4.out.kept0 F.kept) 5)⟩
    · have d13 : l.getD 13 false = true := by simp [Region.binds] at hd; simp [hd]
      obtain ⟨g3, e3, hx3⟩ := F.at_ 13 _ _ rfl rfl d13
      subst e3
      refine wpOp_open rfl (fun K hK => ?_)
      go_simp
      refine (to_p (HW4.out.kept0 F.kept) hx3).mono ?_
      rintro e w4 ⟨f4, c4, rfl, hx4, hk4⟩
      exact hK.out _ _ ⟨_, _, _, _, _, _, _, _, _, _, _, _, _, _, _, _, _, _, rfl, F.step HST.out 14 HS.out (hk4) _ rfl _ (⟨_, _, rfl, hx4⟩)⟩
    · have d12 : l.getD 12 false = true := by simp [Region.binds] at hd; simp [hd]
      have d14 : l.getD 14 false = true := by simp [Region.binds] at hd; simp [hd]
      obtain ⟨f3, c3, e3, hx3⟩ := F.at_ 12 _ _ rfl rfl d12
      subst e3
      obtain ⟨f5, c5, e5, hx5⟩ := F.at_ 14 _ _ rfl rfl d14
      subst e5
      refine wpOp_open rfl (fun K hK => ?_)
      go_simp
      exact hK.out _ _ ⟨_, _, _, _, _, _, _, _, _, _, _, _, _, _, _, _, _, _, rfl, F.step HST.out 15 HS.out (Kept.refl _ _) _ rfl _ (⟨_, _, _, _, rfl, hx3, hx5⟩)⟩
    · have d7 : l.getD 7 false = true := by simp [Region.binds] at hd; simp [hd]
      obtain ⟨fx7, cx7, gx7, zx7, e7, hx7, hy7⟩ := F.at_ 7 _ _ rfl rfl d7
      subst e7
      have d15 : l.getD 15 false = true := by simp [Region.binds] at hd; simp [hd]
      obtain ⟨fx15, cx15, gx15, zx15, e15, hx15, hy15⟩ := F.at_ 15 _ _ rfl rfl d15
      subst e15
      have hl2 := Lat.of0 (κ := κ) F.kept
      have hRI := rows_new (HW4.out.kept0 F.kept) [Rc.mk fx7 cx7 gx7 zx7, Rc.mk fx15 cx15 gx15 zx15] [⟨(marksL [fun _ m => (fun m => m.kind == 3 && m.v == x.n) m]), [0]⟩, ⟨(marksL [fun _ m => (fun m => m.kind == 7 && m.v == x.n) m]), [5]⟩] #[.func (.func fx7) #[] cx7, .func (.func gx7) #[] zx7, .func (.func fx15) #[] cx15, .func (.func gx15) #[] zx15] 140 rfl (by simp [maxLen]) ⟨⟨hx7, hy7⟩, ⟨hx15, hy15⟩, trivial⟩
      refine wpOp_open rfl (fun K hK => ?_)
      go_simp
      exact hK.out _ _ ⟨_, _, _, _, _, _, _, _, _, _, _, _, _, _, _, _, _, _, rfl, F.step HST.out 16 HS.out ((Kept.refl _ _).alloc _) _ rfl _ (⟨_, _, _, _, rfl, rfl, hRI⟩)⟩
    · have d16 : l.getD 16 false = true := by simp [Region.binds] at hd; simp [hd]
      obtain ⟨s3, n3, c3, xs3, e3, hx3, hy3⟩ := F.at_ 16 _ _ rfl rfl d16
      subst e3
      have HX3 := Lib.hid hx3
      clear hx3
      refine wpOp_open rfl (fun K hK => ?_)
      go_simp
      exact hK.out _ _ ⟨_, _, _, _, _, _, _, _, _, _, _, _, _, _, _, _, _, _, rfl, F.step HST.out 17 HS.out (Kept.refl _ _) _ rfl _ (⟨_, _, _, _, rfl, HX3.out, hy3⟩)⟩
  case hend =>
    intro l a w2 hs hI hr
    have hs' : l.size = 18 := hs
    obtain ⟨v0, v1, v2, v3, v4, v5, v6, v7, v8, v9, v10, v11, v12, v13, v14, v15, v16, v17, rfl, F⟩ := hI
    have HAR := all_ready hs (by kernel_rfl) hr
    obtain ⟨s3, n3, c3, xs3, e3', hx3, hy3⟩ := F.at_ 17 _ _ rfl rfl (HAR 17 (by decide))
    subst e3'
    have HKF := Lib.hid F.kept
    have HX3 := Lib.hid hx3
    have HY3 := Lib.hid hy3
    clear F hr hx3 hy3 HAR
    go_wp2_with fail
    go_ret
    exact ⟨_, _, _, _, rfl, HX3.out, HY3.out, HK4.out.tr0 HKF.out⟩
set_option maxHeartbeats 8000000 in
theorem rsema_no (κ : Nat → Nat) (w : World) (hW : Wl κ w) (x : Cl) (k4 : (x.kind == 4) = false) (k5 : (x.kind == 5) = false) (k6 : (x.kind == 6) = false) : Calls Tryz.prog 57 #[x.agg] w (Lad κ w ([okR 9])) := by
  obtain ⟨W0, hW0⟩ : ∃ W0, w.alloc (.cells #[.int .i64 x.kind, .int .i64 x.obj, .int .i64 x.n, .int .i64 x.wait, .bool x.breaks] 72) = W0 := ⟨_, rfl⟩
  have hk0 : Kept (fun _ => False) w W0 := by rw [← hW0]; exact (Kept.refl _ _).alloc _
  have hh : W0.heap[w.heap.size]? = some (.cells #[.int .i64 x.kind, .int .i64 x.obj, .int .i64 x.n, .int .i64 x.wait, .bool x.breaks] 72 (0, 0)) := by rw [← hW0]; exact heap_new1 _ _
  have m0 : W0.cell? ⟨w.heap.size, 0, none⟩ = some (.int .i64 x.kind) := by rw [cell_at _ _ 0 _ _ hh]; rfl
  have m2 : W0.cell? ⟨w.heap.size, 2, none⟩ = some (.int .i64 x.n) := by rw [cell_at _ _ 2 _ _ hh]; rfl
  have HW0 := Lib.hid (hW.kept0 hk0)
  have HK0 := Lib.hid hk0
  have HOP := Lib.hid hh
  clear hW hk0 hh
  go_enter Tryz.func57, Tryz.ntmps57
  go_wp2_with fail
  refine (just_any κ 1 x.n _ HW0.out).mono ?_
  rintro e w1 ⟨f1, c1, rfl, hx1, hk1⟩
  have hl1 := Lat.of0 (κ := κ) hk1
  have HW1 := Lib.hid (HW0.out.kept0 hk1)
  have HOP_1 := Lib.hid (hk1.at0 HOP.out)
  clear HOP
  have HK1 := Lib.hid (HK0.out.tr0 hk1)
  clear HK0
  have HF00 := Lib.hid hx1
  clear hx1 hk1 hl1
  go_wp2_with fail
  refine (marks1 HW1.out HF00.out).mono ?_
  rintro e w2 ⟨f2, c2, rfl, hx2, hk2⟩
  have hl2 := Lat.of0 (κ := κ) hk2
  have HW2 := Lib.hid (HW1.out.kept0 hk2)
  have HF00_2 := Lib.hid (HF00.out.lat hl2)
  clear HF00
  have HOP_2 := Lib.hid (hk2.at0 HOP_1.out)
  clear HOP_1
  have HK2 := Lib.hid (HK1.out.tr0 hk2)
  clear HK1
  have HL0 := Lib.hid hx2
  clear hx2 hk2 hl2
  go_wp2_with fail
  refine (to1 HW2.out 0).mono ?_
  rintro e w3 ⟨f3, c3, rfl, hx3, hk3⟩
  have hl3 := Lat.of0 (κ := κ) hk3
  have HW3 := Lib.hid (HW2.out.kept0 hk3)
  have HL0_3 := Lib.hid (HL0.out.lat hl3)
  clear HL0
  have HOP_3 := Lib.hid (hk3.at0 HOP_2.out)
  clear HOP_2
  have HK3 := Lib.hid (HK2.out.tr0 hk3)
  clear HK2
  have HC0 := Lib.hid hx3
  clear hx3 hk3 hl3
  obtain ⟨WB0, hWB0⟩ : ∃ WB0, w3.alloc (.cells #[.func (.func f2) #[] c2, .func (.func f3) #[] c3] 140) = WB0 := ⟨_, rfl⟩
  have hk4 : Kept (fun _ => False) w3 WB0 := by rw [← hWB0]; exact (Kept.refl _ _).alloc _
  have hb0 : WB0.heap[w3.heap.size]? = some (.cells #[.func (.func f2) #[] c2, .func (.func f3) #[] c3] 140 (0, 0)) := by rw [← hWB0]; exact heap_new1 _ _
  have hl4 := Lat.of0 (κ := κ) hk4
  have HW4 := Lib.hid (HW3.out.kept0 hk4)
  have HL0_4 := Lib.hid (HL0_3.out.lat hl4)
  clear HL0_3
  have HC0_4 := Lib.hid (HC0.out.lat hl4)
  clear HC0
  have HOP_4 := Lib.hid (hk4.at0 HOP_3.out)
  clear HOP_3
  have HK4 := Lib.hid (HK3.out.tr0 hk4)
  clear HK3
  have HBX0 := Lib.hid hb0
  clear hk4 hb0 hl4
  have m0 : WB0.cell? ⟨w.heap.size, 0, none⟩ = some (.int .i64 x.kind) := by rw [cell_at _ _ 0 _ _ HOP_4.out]; rfl
  have m2 : WB0.cell? ⟨w.heap.size, 2, none⟩ = some (.int .i64 x.n) := by rw [cell_at _ _ 2 _ _ HOP_4.out]; rfl
  have b00 : WB0.cell? ⟨w3.heap.size, 0, none⟩ = some (.func (.func f2) #[] c2) := by rw [cell_at _ _ 0 _ _ HBX0.out]; rfl
  have b01 : WB0.cell? ⟨w3.heap.size, 1, none⟩ = some (.func (.func f3) #[] c3) := by rw [cell_at _ _ 1 _ _ HBX0.out]; rfl
  clear HL0_4
  clear HC0_4
  clear HBX0
  go_wp2_with fail
  refine (of_any1 κ 9 _ HW4.out).mono ?_
  rintro e w5 ⟨f5, c5, rfl, hx5, hk5⟩
  have hl5 := Lat.of0 (κ := κ) hk5
  have HW5 := Lib.hid (HW4.out.kept0 hk5)
  have HOP_5 := Lib.hid (hk5.at0 HOP_4.out)
  clear HOP_4
  have HK5 := Lib.hid (HK4.out.tr0 hk5)
  clear HK4
  have HF20 := Lib.hid hx5
  clear hx5 hk5 hl5
  go_wp2_with fail
  refine (marks1 HW5.out HF20.out).mono ?_
  rintro e w6 ⟨f6, c6, rfl, hx6, hk6⟩
  have hl6 := Lat.of0 (κ := κ) hk6
  have HW6 := Lib.hid (HW5.out.kept0 hk6)
  have HF20_6 := Lib.hid (HF20.out.lat hl6)
  clear HF20
  have HOP_6 := Lib.hid (hk6.at0 HOP_5.out)
  clear HOP_5
  have HK6 := Lib.hid (HK5.out.tr0 hk6)
  clear HK5
  have HL2 := Lib.hid hx6
  clear hx6 hk6 hl6
  go_wp2_with fail
  refine (to1 HW6.out 0).mono ?_
  rintro e w7 ⟨f7, c7, rfl, hx7, hk7⟩
  have hl7 := Lat.of0 (κ := κ) hk7
  have HW7 := Lib.hid (HW6.out.kept0 hk7)
  have HL2_7 := Lib.hid (HL2.out.lat hl7)
  clear HL2
  have HOP_7 := Lib.hid (hk7.at0 HOP_6.out)
  clear HOP_6
  have HK7 := Lib.hid (HK6.out.tr0 hk7)
  clear HK6
  have HC2 := Lib.hid hx7
  clear hx7 hk7 hl7
  have hRI := rows_new HW7.out [Rc.mk f6 c6 f7 c7] [okR 9] #[.func (.func f6) #[] c6, .func (.func f7) #[] c7] 140 rfl (by simp [maxLen]) ⟨⟨HL2_7.out, HC2.out⟩, trivial⟩
  have hRK : Kept (fun _ => False) w (w7.alloc (.cells #[.func (.func f6) #[] c6, .func (.func f7) #[] c7] 140)) := HK7.out.alloc _
  have HRW := Lib.hid (HW7.out.kept0 ((Kept.refl _ _).alloc (.cells #[.func (.func f6) #[] c6, .func (.func f7) #[] c7] 140)))
  have HRI := Lib.hid hRI
  have HRK := Lib.hid hRK
  clear hRI hRK
  clear HL2_7
  clear HC2
  go_wp2_with fail
  go_ret
  exact ⟨_, _, _, _, rfl, rfl, HRI.out, HRK.out⟩
set_option maxHeartbeats 8000000 in
theorem signal_17 (κ : Nat → Nat) (w : World) (hW : Wl κ w) (x : Cl) (k16 : (x.kind == 16) = false) (k17 : (x.kind == 17) = true) : Calls Tryz.prog 56 #[x.agg] w (Lad κ w ([monR 0, okR 11, okR 12])) := by
  obtain ⟨W0, hW0⟩ : ∃ W0, w.alloc (.cells #[.int .i64 x.kind, .int .i64 x.obj, .int .i64 x.n, .int .i64 x.wait, .bool x.breaks] 72) = W0 := ⟨_, rfl⟩
  have hk0 : Kept (fun _ => False) w W0 := by rw [← hW0]; exact (Kept.refl _ _).alloc _
  have hh : W0.heap[w.heap.size]? = some (.cells #[.int .i64 x.kind, .int .i64 x.obj, .int .i64 x.n, .int .i64 x.wait, .bool x.breaks] 72 (0, 0)) := by rw [← hW0]; exact heap_new1 _ _
  have m0 : W0.cell? ⟨w.heap.size, 0, none⟩ = some (.int .i64 x.kind) := by rw [cell_at _ _ 0 _ _ hh]; rfl
  have m2 : W0.cell? ⟨w.heap.size, 2, none⟩ = some (.int .i64 x.n) := by rw [cell_at _ _ 2 _ _ hh]; rfl
  have HW0 := Lib.hid (hW.kept0 hk0)
  have HK0 := Lib.hid hk0
  have HOP := Lib.hid hh
  clear hW hk0 hh
  go_enter Tryz.func56, Tryz.ntmps56
  go_wp2_with fail
  refine (just_any κ 6 0 _ HW0.out).mono ?_
  rintro e w1 ⟨f1, c1, rfl, hx1, hk1⟩
  have hl1 := Lat.of0 (κ := κ) hk1
  have HW1 := Lib.hid (HW0.out.kept0 hk1)
  have HOP_1 := Lib.hid (hk1.at0 HOP.out)
  clear HOP
  have HK1 := Lib.hid (HK0.out.tr0 hk1)
  clear HK0
  have HF00 := Lib.hid hx1
  clear hx1 hk1 hl1
  go_wp2_with fail
  refine (marks1 HW1.out HF00.out).mono ?_
  rintro e w2 ⟨f2, c2, rfl, hx2, hk2⟩
  have hl2 := Lat.of0 (κ := κ) hk2
  have HW2 := Lib.hid (HW1.out.kept0 hk2)
  have HF00_2 := Lib.hid (HF00.out.lat hl2)
  clear HF00
  have HOP_2 := Lib.hid (hk2.at0 HOP_1.out)
  clear HOP_1
  have HK2 := Lib.hid (HK1.out.tr0 hk2)
  clear HK1
  have HL0 := Lib.hid hx2
  clear hx2 hk2 hl2
  go_wp2_with fail
  refine (to1 HW2.out 4).mono ?_
  rintro e w3 ⟨f3, c3, rfl, hx3, hk3⟩
  have hl3 := Lat.of0 (κ := κ) hk3
  have HW3 := Lib.hid (HW2.out.kept0 hk3)
  have HL0_3 := Lib.hid (HL0.out.lat hl3)
  clear HL0
  have HOP_3 := Lib.hid (hk3.at0 HOP_2.out)
  clear HOP_2
  have HK3 := Lib.hid (HK2.out.tr0 hk3)
  clear HK2
  have HC0 := Lib.hid hx3
  clear hx3 hk3 hl3
  obtain ⟨WB0, hWB0⟩ : ∃ WB0, w3.alloc (.cells #[.func (.func f2) #[] c2, .func (.func f3) #[] c3] 140) = WB0 := ⟨_, rfl⟩
  have hk4 : Kept (fun _ => False) w3 WB0 := by rw [← hWB0]; exact (Kept.refl _ _).alloc _
  have hb0 : WB0.heap[w3.heap.size]? = some (.cells #[.func (.func f2) #[] c2, .func (.func f3) #[] c3] 140 (0, 0)) := by rw [← hWB0]; exact heap_new1 _ _
  have hl4 := Lat.of0 (κ := κ) hk4
  have HW4 := Lib.hid (HW3.out.kept0 hk4)
  have HL0_4 := Lib.hid (HL0_3.out.lat hl4)
  clear HL0_3
  have HC0_4 := Lib.hid (HC0.out.lat hl4)
  clear HC0
  have HOP_4 := Lib.hid (hk4.at0 HOP_3.out)
  clear HOP_3
  have HK4 := Lib.hid (HK3.out.tr0 hk4)
  clear HK3
  have HBX0 := Lib.hid hb0
  clear hk4 hb0 hl4
  have m0 : WB0.cell? ⟨w.heap.size, 0, none⟩ = some (.int .i64 x.kind) := by rw [cell_at _ _ 0 _ _ HOP_4.out]; rfl
  have m2 : WB0.cell? ⟨w.heap.size, 2, none⟩ = some (.int .i64 x.n) := by rw [cell_at _ _ 2 _ _ HOP_4.out]; rfl
  have b00 : WB0.cell? ⟨w3.heap.size, 0, none⟩ = some (.func (.func f2) #[] c2) := by rw [cell_at _ _ 0 _ _ HBX0.out]; rfl
  have b01 : WB0.cell? ⟨w3.heap.size, 1, none⟩ = some (.func (.func f3) #[] c3) := by rw [cell_at _ _ 1 _ _ HBX0.out]; rfl
  have HCEL : Hid (∀ w', Kept (fun _ => False) WB0 w' → w'.cell? ⟨w.heap.size, 0, none⟩ = some (.int .i64 x.kind) ∧ w'.cell? ⟨w.heap.size, 2, none⟩ = some (.int .i64 x.n) ∧ w'.cell? ⟨w3.heap.size, 0, none⟩ = some (.func (.func f2) #[] c2) ∧ w'.cell? ⟨w3.heap.size, 1, none⟩ = some (.func (.func f3) #[] c3)) := Lib.hid (fun w' hk => ⟨(hk.cell (World.block_lt_of_cell? _ _ m0) (fun f => f)).trans m0, (hk.cell (World.block_lt_of_cell? _ _ m2) (fun f => f)).trans m2, (hk.cell (World.block_lt_of_cell? _ _ b00) (fun f => f)).trans b00, (hk.cell (World.block_lt_of_cell? _ _ b01) (fun f => f)).trans b01⟩)
  clear b00 b01
  go_wp2_with fail
  have HST : Hid (StayAll [PEq (.agg #[.func (.func f2) #[] c2, .func (.func f3) #[] c3]), PFit κ (fun m => m.kind == 11), PFits κ (fun m => m.kind == 11), PLook κ (marksL [fun _ m => (fun m => m.kind == 11) m]), PInts κ 0, PCome κ [0], PRow κ ⟨(marksL [fun _ m => (fun m => m.kind == 11) m]), [0]⟩, PFit κ (fun m => m.kind == 12), PFits κ (fun m => m.kind == 12), PLook κ (marksL [fun _ m => (fun m => m.kind == 12) m]), PInts κ 0, PCome κ [0], PRow κ ⟨(marksL [fun _ m => (fun m => m.kind == 12) m]), [0]⟩, PRows κ [monR 0, ⟨(marksL [fun _ m => (fun m => m.kind == 11) m]), [0]⟩, ⟨(marksL [fun _ m => (fun m => m.kind == 12) m]), [0]⟩], PRows κ [monR 0, ⟨(marksL [fun _ m => (fun m => m.kind == 11) m]), [0]⟩, ⟨(marksL [fun _ m => (fun m => m.kind == 12) m]), [0]⟩]]) := Lib.hid ⟨stay_eq _, stay_fit _ _, stay_fits _ _, stay_look _ _, stay_ints _ _, stay_come _ _, stay_row _ _, stay_fit _ _, stay_fits _ _, stay_look _ _, stay_ints _ _, stay_come _ _, stay_row _ _, stay_rows _ _, stay_rows _ _, trivial⟩
  refine wp_region_any (by kernel_rfl) (wpAny_inv (fun l a w' => ∃ v0 v1 v2 v3 v4 v5 v6 v7 v8 v9 v10 v11 v12 v13 v14, a = ⟨#[x.agg, Value.pointer (some { block := w.heap.size, off := 0 }), v14, Value.pointer (some { block := w3.heap.size, off := 0 }), Value.func (Fn.func f1) #[] c1, Value.slice (some { block := w1.heap.size, off := 0 }) 1 1, Value.func (Fn.func f2) #[] c2, Value.slice (some { block := w2.heap.size, off := 0 }) 1 1, Value.func (Fn.func f3) #[] c3, Value.agg #[Value.func (Fn.func f2) #[] c2, Value.func (Fn.func f3) #[] c3], Value.pointer (some { block := w.heap.size, off := 0 }), Value.int IntKind.i64 x.kind, Value.bool false, Value.bool false, undef, undef, undef, undef, Value.bool true, Value.bool true, v0, v1, v2, v3, v4, v5, v6, v7, v8, v9, v10, v11, v12, v13, undef, undef, undef, undef, undef, undef, undef, undef], []⟩ ∧ FG WB0 [PEq (.agg #[.func (.func f2) #[] c2, .func (.func f3) #[] c3]), PFit κ (fun m => m.kind == 11), PFits κ (fun m => m.kind == 11), PLook κ (marksL [fun _ m => (fun m => m.kind == 11) m]), PInts κ 0, PCome κ [0], PRow κ ⟨(marksL [fun _ m => (fun m => m.kind == 11) m]), [0]⟩, PFit κ (fun m => m.kind == 12), PFits κ (fun m => m.kind == 12), PLook κ (marksL [fun _ m => (fun m => m.kind == 12) m]), PInts κ 0, PCome κ [0], PRow κ ⟨(marksL [fun _ m => (fun m => m.kind == 12) m]), [0]⟩, PRows κ [monR 0, ⟨(marksL [fun _ m => (fun m => m.kind == 11) m]), [0]⟩, ⟨(marksL [fun _ m => (fun m => m.kind == 12) m]), [0]⟩], PRows κ [monR 0, ⟨(marksL [fun _ m => (fun m => m.kind == 11) m]), [0]⟩, ⟨(marksL [fun _ m => (fun m => m.kind == 12) m]), [0]⟩]] l w' [v0, v1, v2, v3, v4, v5, v6, v7, v8, v9, v10, v11, v12, v13, v14]) ?hstep ?hend _ _ _ _ (by simp) (by simp) ?hstart)
  case hstart =>
    exact ⟨_, _, _, _, _, _, _, _, _, _, _, _, _, _, _, rfl, ⟨(Kept.refl _ _).drew, fun i P v _ hv hf => (flag_none hf).elim⟩⟩
  case hstep =>
    intro l a w2 i hs hI hi
    have hs' : l.size = 15 := hs
    obtain ⟨hlt, hu, hd⟩ := ready_of hi
    have hsj : ∀ j, j ≠ i → (l.setIfInBounds i true).getD j false = true → l.getD j false = true := fun j hj h => by
      rw [getD_set (by omega), if_neg hj] at h; exact h
    have HS := Lib.hid hsj; clear hsj
    have hlt' : i < 15 := hlt
    clear hi hlt hu
    obtain ⟨v0, v1, v2, v3, v4, v5, v6, v7, v8, v9, v10, v11, v12, v13, v14, rfl, F⟩ := hI
    have hi : i = 0 ∨ i = 1 ∨ i = 2 ∨ i = 3 ∨ i = 4 ∨ i = 5 ∨ i = 6 ∨ i = 7 ∨ i = 8 ∨ i = 9 ∨ i = 10 ∨ i = 11 ∨ i = 12 ∨ i = 13 ∨ i = 14 := by omega
    clear hlt'
    rcases hi with rfl | rfl | rfl | rfl | rfl | rfl | rfl | rfl | rfl | rfl | rfl | rfl | rfl | rfl | rfl
    · obtain ⟨y0, y1, y2, y3⟩ := HCEL.out _ F.kept
      refine wpOp_open rfl (fun K hK => ?_)
      go_simp
      exact hK.out _ _ ⟨_, _, _, _, _, _, _, _, _, _, _, _, _, _, _, rfl, F.step HST.out 0 HS.out (Kept.refl _ _) _ rfl _ (rfl)⟩
    · refine wpOp_open rfl (fun K hK => ?_)
      go_simp
      refine (of_any1 κ 11 w2 (HW4.out.kept0 F.kept)).mono ?_
      rintro e w4 ⟨f4, c4, rfl, hx4, hk4⟩
      exact hK.out _ _ ⟨_, _, _, _, _, _, _, _, _, _, _, _, _, _, _, rfl, F.step HST.out 1 HS.out (hk4) _ rfl _ (⟨_, _, rfl, hx4⟩)⟩
    · have d1 : l.getD 1 false = true := by simp [Region.binds] at hd; simp [hd]
      obtain ⟨f3, c3, e3, hx3⟩ := F.at_ 1 _ _ rfl rfl d1
      subst e3
      refine wpOp_open rfl (fun K hK => ?_)
      go_simp
      exact hK.out _ _ ⟨_, _, _, _, _, _, _, _, _, _, _, _, _, _, _, rfl, F.step HST.out 2 HS.out ((Kept.refl _ _).alloc _) _ rfl _ (fits_p (HW4.out.kept0 F.kept) hx3)⟩
    · have d2 : l.getD 2 false = true := by simp [Region.binds] at hd; simp [hd]
      obtain ⟨g3, f3, c3, e3, hx3, hy3⟩ := F.at_ 2 _ _ rfl rfl d2
      subst e3
      refine wpOp_open rfl (fun K hK => ?_)
      go_simp
      refine (marks_p (HW4.out.kept0 F.kept) hx3 hy3).mono ?_
      rintro e w4 ⟨f4, c4, rfl, hx4, hk4⟩
      exact hK.out _ _ ⟨_, _, _, _, _, _, _, _, _, _, _, _, _, _, _, rfl, F.step HST.out 3 HS.out (hk4) _ rfl _ (⟨_, _, rfl, hx4⟩)⟩
    · refine wpOp_open rfl (fun K hK => ?_)
      go_simp
      exact hK.out _ _ ⟨_, _, _, _, _, _, _, _, _, _, _, _, _, _, _, rfl, F.step HST.out 4 HS.out ((Kept.refl _ _).alloc _) _ rfl _ (ints_p (HW4.out.kept0 F.kept) 0)⟩
    · have d4 : l.getD 4 false = true := by simp [Region.binds] at hd; simp [hd]
      obtain ⟨g3, e3, hx3⟩ := F.at_ 4 _ _ rfl rfl d4
      subst e3
      refine wpOp_open rfl (fun K hK => ?_)
      go_simp
      refine (to_p (HW4.out.kept0 F.kept) hx3).mono ?_
      rintro e w4 ⟨f4, c4, rfl, hx4, hk4⟩
      exact hK.out _ _ ⟨_, _, _, _, _, _, _, _, _, _, _, _, _, _, _, rfl, F.step HST.out 5 HS.out (hk4) _ rfl _ (⟨_, _, rfl, hx4⟩)⟩
    · have d3 : l.getD 3 false = true := by simp [Region.binds] at hd; simp [hd]
      have d5 : l.getD 5 false = true := by simp [Region.binds] at hd; simp [hd]
      obtain ⟨f3, c3, e3, hx3⟩ := F.at_ 3 _ _ rfl rfl d3
      subst e3
      obtain ⟨f5, c5, e5, hx5⟩ := F.at_ 5 _ _ rfl rfl d5
      subst e5
      refine wpOp_open rfl (fun K hK => ?_)
      go_simp
      exact hK.out _ _ ⟨_, _, _, _, _, _, _, _, _, _, _, _, _, _, _, rfl, F.step HST.out 6 HS.out (Kept.refl _ _) _ rfl _ (⟨_, _, _, _, rfl, hx3, hx5⟩)⟩
    · refine wpOp_open rfl (fun K hK => ?_)
      go_simp
      refine (of_any1 κ 12 w2 (HW4.out.kept0 F.kept)).mono ?_
      rintro e w4 ⟨f4, c4, rfl, hx4, hk4⟩
      exact hK.out _ _ ⟨_, _, _, _, _, _, _, _, _, _, _, _, _, _, _, rfl, F.step HST.out 7 HS.out (hk4) _ rfl _ (⟨_, _, rfl, hx4⟩)⟩
    · have d7 : l.getD 7 false = true := by simp [Region.binds] at hd; simp [hd]
      obtain ⟨f3, c3, e3, hx3⟩ := F.at_ 7 _ _ rfl rfl d7
      subst e3
      refine wpOp_open rfl (fun K hK => ?_)
      go_simp
      exact hK.out _ _ ⟨_, _, _, _, _, _, _, _, _, _, _, _, _, _, _, rfl, F.step HST.out 8 HS.out ((Kept.refl _ _).alloc _) _ rfl _ (fits_p (HW4.out.kept0 F.kept) hx3)⟩
    · have d8 : l.getD 8 false = true := by simp [Region.binds] at hd; simp [hd]
      obtain ⟨g3, f3, c3, e3, hx3, hy3⟩ := F.at_ 8 _ _ rfl rfl d8
      subst e3
      refine wpOp_open rfl (fun K hK => ?_)
      go_simp
      refine (marks_p (HW4.out.kept0 F.kept) hx3 hy3).mono ?_
      rintro e w4 ⟨f4, c4, rfl, hx4, hk4⟩
      exact hK.out _ _ ⟨_, _, _, _, _, _, _, _, _, _, _, _, _, _, _, rfl, F.step HST.out 9 HS.out (hk4) _ rfl _ (⟨_, _, rfl, hx4⟩)⟩
    · refine wpOp_open rfl (fun K hK => ?_)
      go_simp
      exact hK.out _ _ ⟨_, _, _, _, _, _, _, _, _, _, _, _, _, _, _, rfl, F.step HST.out 10 HS.out ((Kept.refl _ _).alloc _) _ rfl _ (ints_p (HW4.out.kept0 F.kept) 0)⟩
    · have d10 : l.getD 10 false = true := by simp [Region.binds] at hd; simp [hd]
      obtain ⟨g3, e3, hx3⟩ := F.at_ 10 _ _ rfl rfl d10
      subst e3
      refine wpOp_open rfl (fun K hK => ?_)
      go_simp
      refine (to_p (HW4.out.kept0 F.kept) hx3).mono ?_
      rintro e w4 ⟨f4, c4, rfl, hx4, hk4⟩
      exact hK.out _ _ ⟨_, _, _, _, _, _, _, _, _, _, _, _, _, _, _, rfl, F.step HST.out 11 HS.out (hk4) _ rfl _ (⟨_, _, rfl, hx4⟩)⟩
    · have d9 : l.getD 9 false = true := by simp [Region.binds] at hd; simp [hd]
      have d11 : l.getD 11 false = true := by simp [Region.binds] at hd; simp [hd]
      obtain ⟨f3, c3, e3, hx3⟩ := F.at_ 9 _ _ rfl rfl d9
      subst e3
      obtain ⟨f5, c5, e5, hx5⟩ := F.at_ 11 _ _ rfl rfl d11
      subst e5
      refine wpOp_open rfl (fun K hK => ?_)
      go_simp
      exact hK.out _ _ ⟨_, _, _, _, _, _, _, _, _, _, _, _, _, _, _, rfl, F.step HST.out 12 HS.out (Kept.refl _ _) _ rfl _ (⟨_, _, _, _, rfl, hx3, hx5⟩)⟩
    · have d0 : l.getD 0 false = true := by simp [Region.binds] at hd; simp [hd]
      obtain rfl := F.at_ 0 _ _ rfl rfl d0
      have d6 : l.getD 6 false = true := by simp [Region.binds] at hd; simp [hd]
      obtain ⟨fx6, cx6, gx6, zx6, e6, hx6, hy6⟩ := F.at_ 6 _ _ rfl rfl d6
      subst e6
      have d12 : l.getD 12 false = true := by simp [Region.binds] at hd; simp [hd]
      obtain ⟨fx12, cx12, gx12, zx12, e12, hx12, hy12⟩ := F.at_ 12 _ _ rfl rfl d12
      subst e12
      have hl2 := Lat.of0 (κ := κ) F.kept
      have hRI := rows_new (HW4.out.kept0 F.kept) [Rc.mk f2 c2 f3 c3, Rc.mk fx6 cx6 gx6 zx6, Rc.mk fx12 cx12 gx12 zx12] [monR 0, ⟨(marksL [fun _ m => (fun m => m.kind == 11) m]), [0]⟩, ⟨(marksL [fun _ m => (fun m => m.kind == 12) m]), [0]⟩] #[.func (.func f2) #[] c2, .func (.func f3) #[] c3, .func (.func fx6) #[] cx6, .func (.func gx6) #[] zx6, .func (.func fx12) #[] cx12, .func (.func gx12) #[] zx12] 140 rfl (by simp [maxLen]) ⟨⟨HL0_4.out.lat hl2, HC0_4.out.lat hl2⟩, ⟨hx6, hy6⟩, ⟨hx12, hy12⟩, trivial⟩
      refine wpOp_open rfl (fun K hK => ?_)
      go_simp
      exact hK.out _ _ ⟨_, _, _, _, _, _, _, _, _, _, _, _, _, _, _, rfl, F.step HST.out 13 HS.out ((Kept.refl _ _).alloc _) _ rfl _ (⟨_, _, _, _, rfl, rfl, hRI⟩)⟩
    · have d13 : l.getD 13 false = true := by simp [Region.binds] at hd; simp [hd]
      obtain ⟨s3, n3, c3, xs3, e3, hx3, hy3⟩ := F.at_ 13 _ _ rfl rfl d13
      subst e3
      have HX3 := Lib.hid hx3
      clear hx3
      refine wpOp_open rfl (fun K hK => ?_)
      go_simp
      exact hK.out _ _ ⟨_, _, _, _, _, _, _, _, _, _, _, _, _, _, _, rfl, F.step HST.out 14 HS.out (Kept.refl _ _) _ rfl _ (⟨_, _, _, _, rfl, HX3.out, hy3⟩)⟩
  case hend =>
    intro l a w2 hs hI hr
    have hs' : l.size = 15 := hs
    obtain ⟨v0, v1, v2, v3, v4, v5, v6, v7, v8, v9, v10, v11, v12, v13, v14, rfl, F⟩ := hI
    have HAR := all_ready hs (by kernel_rfl) hr
    obtain ⟨s3, n3, c3, xs3, e3', hx3, hy3⟩ := F.at_ 14 _ _ rfl rfl (HAR 14 (by decide))
    subst e3'
    have HKF := Lib.hid F.kept
    have HX3 := Lib.hid hx3
    have HY3 := Lib.hid hy3
    clear F hr hx3 hy3 HAR
    go_wp2_with fail
    go_ret
    exact ⟨_, _, _, _, rfl, HX3.out, HY3.out, HK4.out.tr0 HKF.out⟩
set_option maxHeartbeats 8000000 in
theorem signal_18 (κ : Nat → Nat) (w : World) (hW : Wl κ w) (x : Cl) (k16 : (x.kind == 16) = false) (k17 : (x.kind == 17) = false) : Calls Tryz.prog 56 #[x.agg] w (Lad κ w ([monR 0, manyR])) := by
  obtain ⟨W0, hW0⟩ : ∃ W0, w.alloc (.cells #[.int .i64 x.kind, .int .i64 x.obj, .int .i64 x.n, .int .i64 x.wait, .bool x.breaks] 72) = W0 := ⟨_, rfl⟩
  have hk0 : Kept (fun _ => False) w W0 := by rw [← hW0]; exact (Kept.refl _ _).alloc _
  have hh : W0.heap[w.heap.size]? = some (.cells #[.int .i64 x.kind, .int .i64 x.obj, .int .i64 x.n, .int .i64 x.wait, .bool x.breaks] 72 (0, 0)) := by rw [← hW0]; exact heap_new1 _ _
  have m0 : W0.cell? ⟨w.heap.size, 0, none⟩ = some (.int .i64 x.kind) := by rw [cell_at _ _ 0 _ _ hh]; rfl
  have m2 : W0.cell? ⟨w.heap.size, 2, none⟩ = some (.int .i64 x.n) := by rw [cell_at _ _ 2 _ _ hh]; rfl
  have HW0 := Lib.hid (hW.kept0 hk0)
  have HK0 := Lib.hid hk0
  have HOP := Lib.hid hh
  clear hW hk0 hh
  go_enter Tryz.func56, Tryz.ntmps56
  go_wp2_with fail
  refine (just_any κ 6 0 _ HW0.out).mono ?_
  rintro e w1 ⟨f1, c1, rfl, hx1, hk1⟩
  have hl1 := Lat.of0 (κ := κ) hk1
  have HW1 := Lib.hid (HW0.out.kept0 hk1)
  have HOP_1 := Lib.hid (hk1.at0 HOP.out)
  clear HOP
  have HK1 := Lib.hid (HK0.out.tr0 hk1)
  clear HK0
  have HF00 := Lib.hid hx1
  clear hx1 hk1 hl1
  go_wp2_with fail
  refine (marks1 HW1.out HF00.out).mono ?_
  rintro e w2 ⟨f2, c2, rfl, hx2, hk2⟩
  have hl2 := Lat.of0 (κ := κ) hk2
  have HW2 := Lib.hid (HW1.out.kept0 hk2)
  have HF00_2 := Lib.hid (HF00.out.lat hl2)
  clear HF00
  have HOP_2 := Lib.hid (hk2.at0 HOP_1.out)
  clear HOP_1
  have HK2 := Lib.hid (HK1.out.tr0 hk2)
  clear HK1
  have HL0 := Lib.hid hx2
  clear hx2 hk2 hl2
  go_wp2_with fail
  refine (to1 HW2.out 4).mono ?_
  rintro e w3 ⟨f3, c3, rfl, hx3, hk3⟩
  have hl3 := Lat.of0 (κ := κ) hk3
  have HW3 := Lib.hid (HW2.out.kept0 hk3)
  have HL0_3 := Lib.hid (HL0.out.lat hl3)
  clear HL0
  have HOP_3 := Lib.hid (hk3.at0 HOP_2.out)
  clear HOP_2
  have HK3 := Lib.hid (HK2.out.tr0 hk3)
  clear HK2
  have HC0 := Lib.hid hx3
  clear hx3 hk3 hl3
  obtain ⟨WB0, hWB0⟩ : ∃ WB0, w3.alloc (.cells #[.func (.func f2) #[] c2, .func (.func f3) #[] c3] 140) = WB0 := ⟨_, rfl⟩
  have hk4 : Kept (fun _ => False) w3 WB0 := by rw [← hWB0]; exact (Kept.refl _ _).alloc _
  have hb0 : WB0.heap[w3.heap.size]? = some (.cells #[.func (.func f2) #[] c2, .func (.func f3) #[] c3] 140 (0, 0)) := by rw [← hWB0]; exact heap_new1 _ _
  have hl4 := Lat.of0 (κ := κ) hk4
  have HW4 := Lib.hid (HW3.out.kept0 hk4)
  have HL0_4 := Lib.hid (HL0_3.out.lat hl4)
  clear HL0_3
  have HC0_4 := Lib.hid (HC0.out.lat hl4)
  clear HC0
  have HOP_4 := Lib.hid (hk4.at0 HOP_3.out)
  clear HOP_3
  have HK4 := Lib.hid (HK3.out.tr0 hk4)
  clear HK3
  have HBX0 := Lib.hid hb0
  clear hk4 hb0 hl4
  have m0 : WB0.cell? ⟨w.heap.size, 0, none⟩ = some (.int .i64 x.kind) := by rw [cell_at _ _ 0 _ _ HOP_4.out]; rfl
  have m2 : WB0.cell? ⟨w.heap.size, 2, none⟩ = some (.int .i64 x.n) := by rw [cell_at _ _ 2 _ _ HOP_4.out]; rfl
  have b00 : WB0.cell? ⟨w3.heap.size, 0, none⟩ = some (.func (.func f2) #[] c2) := by rw [cell_at _ _ 0 _ _ HBX0.out]; rfl
  have b01 : WB0.cell? ⟨w3.heap.size, 1, none⟩ = some (.func (.func f3) #[] c3) := by rw [cell_at _ _ 1 _ _ HBX0.out]; rfl
  have HCEL : Hid (∀ w', Kept (fun _ => False) WB0 w' → w'.cell? ⟨w.heap.size, 0, none⟩ = some (.int .i64 x.kind) ∧ w'.cell? ⟨w.heap.size, 2, none⟩ = some (.int .i64 x.n) ∧ w'.cell? ⟨w3.heap.size, 0, none⟩ = some (.func (.func f2) #[] c2) ∧ w'.cell? ⟨w3.heap.size, 1, none⟩ = some (.func (.func f3) #[] c3)) := Lib.hid (fun w' hk => ⟨(hk.cell (World.block_lt_of_cell? _ _ m0) (fun f => f)).trans m0, (hk.cell (World.block_lt_of_cell? _ _ m2) (fun f => f)).trans m2, (hk.cell (World.block_lt_of_cell? _ _ b00) (fun f => f)).trans b00, (hk.cell (World.block_lt_of_cell? _ _ b01) (fun f => f)).trans b01⟩)
  clear b00 b01
  go_wp2_with fail
  have HST : Hid (StayAll [PEq (.agg #[.func (.func f2) #[] c2, .func (.func f3) #[] c3]), PFit κ (fun m => m.kind == 11), PFit κ (fun m => m.kind == 12), PLook κ (manyL (fun m => m.kind == 11) (fun m => m.kind == 12)), PInts κ 0, PCome κ [0], PRow κ ⟨(manyL (fun m => m.kind == 11) (fun m => m.kind == 12)), [0]⟩, PRows κ [monR 0, ⟨(manyL (fun m => m.kind == 11) (fun m => m.kind == 12)), [0]⟩], PRows κ [monR 0, ⟨(manyL (fun m => m.kind == 11) (fun m => m.kind == 12)), [0]⟩]]) := Lib.hid ⟨stay_eq _, stay_fit _ _, stay_fit _ _, stay_look _ _, stay_ints _ _, stay_come _ _, stay_row _ _, stay_rows _ _, stay_rows _ _, trivial⟩
  refine wp_region_any (by kernel_rfl) (wpAny_inv (fun l a w' => ∃ v0 v1 v2 v3 v4 v5 v6 v7 v8, a = ⟨#[x.agg, Value.pointer (some { block := w.heap.size, off := 0 }), v8, Value.pointer (some { block := w3.heap.size, off := 0 }), Value.func (Fn.func f1) #[] c1, Value.slice (some { block := w1.heap.size, off := 0 }) 1 1, Value.func (Fn.func f2) #[] c2, Value.slice (some { block := w2.heap.size, off := 0 }) 1 1, Value.func (Fn.func f3) #[] c3, Value.agg #[Value.func (Fn.func f2) #[] c2, Value.func (Fn.func f3) #[] c3], Value.pointer (some { block := w.heap.size, off := 0 }), Value.int IntKind.i64 x.kind, Value.bool false, Value.bool false, undef, undef, undef, undef, Value.bool false, Value.bool false, undef, undef, undef, undef, undef, undef, undef, undef, undef, undef, undef, undef, undef, undef, v0, v1, v2, v3, v4, v5, v6, v7], []⟩ ∧ FG WB0 [PEq (.agg #[.func (.func f2) #[] c2, .func (.func f3) #[] c3]), PFit κ (fun m => m.kind == 11), PFit κ (fun m => m.kind == 12), PLook κ (manyL (fun m => m.kind == 11) (fun m => m.kind == 12)), PInts κ 0, PCome κ [0], PRow κ ⟨(manyL (fun m => m.kind == 11) (fun m => m.kind == 12)), [0]⟩, PRows κ [monR 0, ⟨(manyL (fun m => m.kind == 11) (fun m => m.kind == 12)), [0]⟩], PRows κ [monR 0, ⟨(manyL (fun m => m.kind == 11) (fun m => m.kind == 12)), [0]⟩]] l w' [v0, v1, v2, v3, v4, v5, v6, v7, v8]) ?hstep ?hend _ _ _ _ (by simp) (by simp) ?hstart)
  case hstart =>
    exact ⟨_, _, _, _, _, _, _, _, _, rfl, ⟨(Kept.refl _ _).drew, fun i P v _ hv hf => (flag_none hf).elim⟩⟩
  case hstep =>
    intro l a w2 i hs hI hi
    have hs' : l.size = 9 := hs
    obtain ⟨hlt, hu, hd⟩ := ready_of hi
    have hsj : ∀ j, j ≠ i → (l.setIfInBounds i true).getD j false = true → l.getD j false = true := fun j hj h => by
      rw [getD_set (by omega), if_neg hj] at h; exact h
    have HS := Lib.hid hsj; clear hsj
    have hlt' : i < 9 := hlt
    clear hi hlt hu
    obtain ⟨v0, v1, v2, v3, v4, v5, v6, v7, v8, rfl, F⟩ := hI
    have hi : i = 0 ∨ i = 1 ∨ i = 2 ∨ i = 3 ∨ i = 4 ∨ i = 5 ∨ i = 6 ∨ i = 7 ∨ i = 8 := by omega
    clear hlt'
    rcases hi with rfl | rfl | rfl | rfl | rfl | rfl | rfl | rfl | rfl
    · obtain ⟨y0, y1, y2, y3⟩ := HCEL.out _ F.kept
      refine wpOp_open rfl (fun K hK => ?_)
      go_simp
      exact hK.out _ _ ⟨_, _, _, _, _, _, _, _, _, rfl, F.step HST.out 0 HS.out (Kept.refl _ _) _ rfl _ (rfl)⟩
    · refine wpOp_open rfl (fun K hK => ?_)
      go_simp
      refine (of_any1 κ 11 w2 (HW4.out.kept0 F.kept)).mono ?_
      rintro e w4 ⟨f4, c4, rfl, hx4, hk4⟩
      exact hK.out _ _ ⟨_, _, _, _, _, _, _, _, _, rfl, F.step HST.out 1 HS.out (hk4) _ rfl _ (⟨_, _, rfl, hx4⟩)⟩
    · refine wpOp_open rfl (fun K hK => ?_)
      go_simp
      refine (of_any1 κ 12 w2 (HW4.out.kept0 F.kept)).mono ?_
      rintro e w4 ⟨f4, c4, rfl, hx4, hk4⟩
      exact hK.out _ _ ⟨_, _, _, _, _, _, _, _, _, rfl, F.step HST.out 2 HS.out (hk4) _ rfl _ (⟨_, _, rfl, hx4⟩)⟩
    · have d1 : l.getD 1 false = true := by simp [Region.binds] at hd; simp [hd]
      have d2 : l.getD 2 false = true := by simp [Region.binds] at hd; simp [hd]
      obtain ⟨f3, c3, e3, hx3⟩ := F.at_ 1 _ _ rfl rfl d1
      subst e3
      obtain ⟨f5, c5, e5, hx5⟩ := F.at_ 2 _ _ rfl rfl d2
      subst e5
      refine wpOp_open rfl (fun K hK => ?_)
      go_simp
      refine (many_any (HW4.out.kept0 F.kept) hx3 hx5).mono ?_
      rintro e w4 ⟨f4, c4, rfl, hx4, hk4⟩
      exact hK.out _ _ ⟨_, _, _, _, _, _, _, _, _, rfl, F.step HST.out 3 HS.out (hk4) _ rfl _ (⟨_, _, rfl, hx4⟩)⟩
    · refine wpOp_open rfl (fun K hK => ?_)
      go_simp
      exact hK.out _ _ ⟨_, _, _, _, _, _, _, _, _, rfl, F.step HST.out 4 HS.out ((Kept.refl _ _).alloc _) _ rfl _ (ints_p (HW4.out.kept0 F.kept) 0)⟩
    · have d4 : l.getD 4 false = true := by simp [Region.binds] at hd; simp [hd]
      obtain ⟨g3, e3, hx3⟩ := F.at_ 4 _ _ rfl rfl d4
      subst e3
      refine wpOp_open rfl (fun K hK => ?_)
      go_simp
      refine (to_p (HW4.out.kept0 F.kept) hx3).mono ?_
      rintro e w4 ⟨f4, c4, rfl, hx4, hk4⟩
      exact hK.out _ _ ⟨_, _, _, _, _, _, _, _, _, rfl, F.step HST.out 5 HS.out (hk4) _ rfl _ (⟨_, _, rfl, hx4⟩)⟩
    · have d3 : l.getD 3 false = true := by simp [Region.binds] at hd; simp [hd]
      have d5 : l.getD 5 false = true := by simp [Region.binds] at hd; simp [hd]
      obtain ⟨f3, c3, e3, hx3⟩ := F.at_ 3 _ _ rfl rfl d3
      subst e3
      obtain ⟨f5, c5, e5, hx5⟩ := F.at_ 5 _ _ rfl rfl d5
      subst e5
      refine wpOp_open rfl (fun K hK => ?_)
      go_simp
      exact hK.out _ _ ⟨_, _, _, _, _, _, _, _, _, rfl, F.step HST.out 6 HS.out (Kept.refl _ _) _ rfl _ (⟨_, _, _, _, rfl, hx3, hx5⟩)⟩
    · have d0 : l.getD 0 false = true := by simp [Region.binds] at hd; simp [hd]
      obtain rfl := F.at_ 0 _ _ rfl rfl d0
      have d6 : l.getD 6 false = true := by simp [Region.binds] at hd; simp [hd]
      obtain ⟨fx6, cx6, gx6, zx6, e6, hx6, hy6⟩ := F.at_ 6 _ _ rfl rfl d6
      subst e6
      have hl2 := Lat.of0 (κ := κ) F.kept
      have hRI := rows_new (HW4.out.kept0 F.kept) [Rc.mk f2 c2 f3 c3, Rc.mk fx6 cx6 gx6 zx6] [monR 0, ⟨(manyL (fun m => m.kind == 11) (fun m => m.kind == 12)), [0]⟩] #[.func (.func f2) #[] c2, .func (.func f3) #[] c3, .func (.func fx6) #[] cx6, .func (.func gx6) #[] zx6] 140 rfl (by simp [maxLen]) ⟨⟨HL0_4.out.lat hl2, HC0_4.out.lat hl2⟩, ⟨hx6, hy6⟩, trivial⟩
      refine wpOp_open rfl (fun K hK => ?_)
      go_simp
      exact hK.out _ _ ⟨_, _, _, _, _, _, _, _, _, rfl, F.step HST.out 7 HS.out ((Kept.refl _ _).alloc _) _ rfl _ (⟨_, _, _, _, rfl, rfl, hRI⟩)⟩
    · have d7 : l.getD 7 false = true := by simp [Region.binds] at hd; simp [hd]
      obtain ⟨s3, n3, c3, xs3, e3, hx3, hy3⟩ := F.at_ 7 _ _ rfl rfl d7
      subst e3
      have HX3 := Lib.hid hx3
      clear hx3
      refine wpOp_open rfl (fun K hK => ?_)
      go_simp
      exact hK.out _ _ ⟨_, _, _, _, _, _, _, _, _, rfl, F.step HST.out 8 HS.out (Kept.refl _ _) _ rfl _ (⟨_, _, _, _, rfl, HX3.out, hy3⟩)⟩
  case hend =>
    intro l a w2 hs hI hr
    have hs' : l.size = 9 := hs
    obtain ⟨v0, v1, v2, v3, v4, v5, v6, v7, v8, rfl, F⟩ := hI
    have HAR := all_ready hs (by kernel_rfl) hr
    obtain ⟨s3, n3, c3, xs3, e3', hx3, hy3⟩ := F.at_ 8 _ _ rfl rfl (HAR 8 (by decide))
    subst e3'
    have HKF := Lib.hid F.kept
    have HX3 := Lib.hid hx3
    have HY3 := Lib.hid hy3
    clear F hr hx3 hy3 HAR
    go_wp2_with fail
    go_ret
    exact ⟨_, _, _, _, rfl, HX3.out, HY3.out, HK4.out.tr0 HKF.out⟩
end Go.Proofs.YtbodlaiakcoabaaGreatDoor
