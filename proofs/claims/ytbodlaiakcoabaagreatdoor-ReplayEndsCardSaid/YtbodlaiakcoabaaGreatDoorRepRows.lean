/-
  The rows of a Lock's Wait, whole: what signalRows lays for it.
  Conditions: the colours fit the world.
  The rows of a call: rowsOf, whole.
  Conditions: the colours fit the world.
-/
import Derived.Test.YtbodlaiakcoabaaGreatDoorRepInv
import Derived.Laws.EntriesVeiled
import Derived.Deep.RegionLaw
import Derived.Test.YtbodlaiakcoabaaGreatDoorRepHold
import Derived.Test.YtbodlaiakcoabaaGreatDoorRepSema
section
namespace Go.Proofs.YtbodlaiakcoabaaGreatDoor
open Go.RowKit
set_option linter.unusedSimpArgs false
set_option linter.unusedVariables false
set_option maxRecDepth 100000

theorem Kept.drewL {S : Nat → Prop} {a b : World} (h : Kept S a.drew b) : Kept S a b := ⟨h.os, h.tape, h.output, h.size, h.block⟩
theorem RowsAt.append {κ : Nat → Nat} {w : World} : ∀ {xs ys : List Rc} {rs qs : List Rw}, RowsAt κ w xs rs → RowsAt κ w ys qs → RowsAt κ w (xs ++ ys) (rs ++ qs)
  | [], _, [], _, _, h => h
  | _ :: _, _, _ :: _, _, h, k => ⟨h.1, RowsAt.append h.2 k⟩
  | [], _, _ :: _, _, h, _ => h.elim
  | _ :: _, _, [], _, h, _ => h.elim
/-- What a function that lays rows tells, whatever it is. -/
def Got (κ : Nat → Nat) (w : World) (rs : List Rw) (e : Ending) (w' : World) : Prop := ∃ κ' s n c xs, e = .returned (.slice s n c) ∧ n = xs.length ∧ RowsIn κ' w' s xs rs ∧ Kept (fun _ => False) w w' ∧ Wl κ' w' ∧ (κ' = κ ∨ ∃ b, w.heap.size ≤ b ∧ κ' = paint κ b 4)
theorem Lad.got {κ : Nat → Nat} {w w' : World} {rs : List Rw} {e : Ending} (h : Lad κ w rs e w') (hW : Wl κ w) : Got κ w rs e w' := by
  obtain ⟨s, n, c, xs, h1, h2, h3, h4⟩ := h
  exact ⟨κ, s, n, c, xs, h1, h2, h3, h4, hW.kept0 h4, .inl rfl⟩
/-- Behind the append. -/
theorem wait_end {κ : Nat → Nat} {w w3 w5 w6 : World} {xs : List Rc} {x : Rc} {s5 : Option Addr} {c5 b : Nat} {v' : Value} (hW : Wl κ w) (hb : w.heap.size ≤ b) (hat : RowsAt (paint κ b 4) w3 xs waitRows) (hW3 : Wl (paint κ b 4) w3) (h03 : Kept (fun _ => False) w w3)
    (h35 : Kept (fun _ => False) w3 w5) (hr : Looks κ w x.f x.c (monR 0).look ∧ Comes κ w x.g x.d (monR 0).to) (hown : w5.ownsRow w3.heap.size 140 2 (.slice s5 4 c5) 4 (flat Rc.cells xs))
    (h1 : w6.ownsRow w3.heap.size 140 2 v' (4 + [x].length) (flat Rc.cells xs ++ flat Rc.cells [x])) (h2 : w5.grownBy w6 (Value.slice s5 4 c5).ownBlock) :
    Got κ w (waitRows ++ [monR 0]) (.returned v') w6 := by
  have hxl : xs.length = 4 := hat.len
  have h36 : Kept (fun _ => False) w3 w6 := h35.grown h2 (fun k hk e => by have := (World.ownsRow.lt hown k e).1; omega)
  have h36' := h03.tr0 h36
  obtain ⟨s6, c6, rfl, hM⟩ := Made.of_own (ys := xs ++ [x]) Rc.two (by rw [flat_append]; exact h1) (by simp [hxl]) (by simp [hxl, maxLen])
  have hl : Lat κ (paint κ b 4) w w6 := ⟨fun i hi => paint_not κ (by omega), h36'.mono (fun _ _ f => f.elim)⟩
  refine ⟨paint κ b 4, s6, _, c6, xs ++ [x], rfl, rfl, RowsIn.of (hM.elemsQ hW3 (Nat.le_refl _)) ?_, h36', hW3.kept0 h36, .inr ⟨b, hb, rfl⟩⟩
  exact (hat.lat (Lat.of0 h36)).append ⟨⟨hr.1.lat hl, hr.2.lat hl⟩, trivial⟩

theorem step_wait {ops : Array Oper} {o : Oper} {a : Act} {K : Act → World → Prop} {Q : Exit → Act → World → Prop} {E : Prop} {κ : Nat → Nat} {w0 w w3 : World} (hgd : o.guard = none) (s x : Operand) (ho : o.op = .call { callee := .builtin .append, args := #[s, x], argTypes := #[121, 121] })
    {s5 : Option Addr} {c5 b g : Nat} {xs : List Rc} {y : Rc} (hs : a.eval s = .slice s5 4 c5) (hx : a.eval x = .slice (some ⟨g, 0, none⟩) 1 1)
    (hW : Wl κ w0) (hb : w0.heap.size ≤ b) (hat : RowsAt (paint κ b 4) w3 xs waitRows) (hW3 : Wl (paint κ b 4) w3) (h03 : Kept (fun _ => False) w0 w3) (h35 : Kept (fun _ => False) w3 w) (hr : Looks κ w0 y.f y.c (monR 0).look ∧ Comes κ w0 y.g y.d (monR 0).to)
    (hown : w.ownsRow w3.heap.size 140 2 (.slice s5 4 c5) 4 (flat Rc.cells xs)) (hE : Elems w w.heap.size (some ⟨g, 0, none⟩) 2 Rc.cells [y])
    (h : ∀ κ6 s6 n6 c6 xs6 w6, n6 = xs6.length → RowsIn κ6 w6 s6 xs6 (waitRows ++ [monR 0]) → Kept (fun _ => False) w0 w6 → Wl κ6 w6 → (κ6 = κ ∨ ∃ b, w0.heap.size ≤ b ∧ κ6 = paint κ b 4) → K (a.put o.dst (.slice s6 n6 c6)) w6) :
    if Region.wanted o (yielded ops a.tmps) = true then Oper.wp Tryz.prog o a w K Q else E := by
  obtain ⟨i0, hi, hz0, hz1, hz2⟩ := info_parts info_row
  refine step_append_elems (f := Rc.cells) (ys := [y]) w hgd s x 121 ho w3.heap.size 140 i0 (.agg #[.nilFunc, .nilFunc]) 2 16 Tryz.underlying121 hi hz0 hz1 hz2 rfl (by decide) Rc.two (rc_cell _) (.slice s5 4 c5) 4 (flat Rc.cells xs) hs hown w.heap.size _ 1 hx hE (by show 4 + 1 ≤ maxLen; unfold maxLen; omega) (by show (4 + 1) * 16 ≤ _; omega) h35.size ?_
  intro v' w6 h1 h2 h3
  obtain ⟨κ6, s6, n6, c6, xs6, he6, hn6, hr6, hk6, hw6, hp6⟩ := wait_end hW hb hat hW3 h03 h35 hr hown h1 h2
  cases he6
  exact h κ6 s6 n6 c6 xs6 w6 hn6 hr6 hk6 hw6 hp6

set_option maxHeartbeats 8000000 in
theorem signal_16 (κ : Nat → Nat) (w : World) (hW : Wl κ w) (x : Cl) (k16 : (x.kind == 16) = true) : Calls Tryz.prog 56 #[x.agg] w (Got κ w (waitRows ++ [monR 0])) := by
  obtain ⟨W0, hW0⟩ : ∃ W0, w.alloc (.cells #[.int .i64 x.kind, .int .i64 x.obj, .int .i64 x.n, .int .i64 x.wait, .bool x.breaks] 72) = W0 := ⟨_, rfl⟩
  have hk0 : Kept (fun _ => False) w W0 := by rw [← hW0]; exact (Kept.refl _ _).alloc _
  have hh : W0.heap[w.heap.size]? = some (.cells #[.int .i64 x.kind, .int .i64 x.obj, .int .i64 x.n, .int .i64 x.wait, .bool x.breaks] 72 (0, 0)) := by rw [← hW0]; exact heap_new1 _ _
  have m0 : W0.cell? ⟨w.heap.size, 0, none⟩ = some (.int .i64 x.kind) := by rw [cell_at _ _ 0 _ _ hh]; rfl
  have m2 : W0.cell? ⟨w.heap.size, 2, none⟩ = some (.int .i64 x.n) := by rw [cell_at _ _ 2 _ _ hh]; rfl
  have HW0 := Lib.hid (hW.kept0 hk0)
  have HK0 := Lib.hid hk0
  have HOP := Lib.hid hh
  clear hW hk0 hh
  go_enter Tryz.func56, Tryz.ntmps56
  go_wp2_with fail
  refine (just_any κ 6 0 _ HW0.out).mono ?_
  rintro e w1 ⟨f1, c1, rfl, hx1, hk1⟩
  have hl1 := Lat.of0 (κ := κ) hk1
  have HW1 := Lib.hid (HW0.out.kept0 hk1)
  have HOP_1 := Lib.hid (hk1.at0 HOP.out)
  clear HOP
  have HK1 := Lib.hid (HK0.out.tr0 hk1)
  clear HK0
  have HF00 := Lib.hid hx1
  clear hx1 hk1 hl1
  go_wp2_with fail
  refine (marks1 HW1.out HF00.out).mono ?_
  rintro e w2 ⟨f2, c2, rfl, hx2, hk2⟩
  have hl2 := Lat.of0 (κ := κ) hk2
  have HW2 := Lib.hid (HW1.out.kept0 hk2)
  have HF00_2 := Lib.hid (HF00.out.lat hl2)
  clear HF00
  have HOP_2 := Lib.hid (hk2.at0 HOP_1.out)
  clear HOP_1
  have HK2 := Lib.hid (HK1.out.tr0 hk2)
  clear HK1
  have HL0 := Lib.hid hx2
  clear hx2 hk2 hl2
  go_wp2_with fail
  refine (to1 HW2.out 4).mono ?_
  rintro e w3 ⟨f3, c3, rfl, hx3, hk3⟩
  have hl3 := Lat.of0 (κ := κ) hk3
  have HW3 := Lib.hid (HW2.out.kept0 hk3)
  have HL0_3 := Lib.hid (HL0.out.lat hl3)
  clear HL0
  have HOP_3 := Lib.hid (hk3.at0 HOP_2.out)
  clear HOP_2
  have HK3 := Lib.hid (HK2.out.tr0 hk3)
  clear HK2
  have HC0 := Lib.hid hx3
  clear hx3 hk3 hl3
  obtain ⟨WB0, hWB0⟩ : ∃ WB0, w3.alloc (.cells #[.func (.func f2) #[] c2, .func (.func f3) #[] c3] 140) = WB0 := ⟨_, rfl⟩
  have hk4 : Kept (fun _ => False) w3 WB0 := by rw [← hWB0]; exact (Kept.refl _ _).alloc _
  have hb0 : WB0.heap[w3.heap.size]? = some (.cells #[.func (.func f2) #[] c2, .func (.func f3) #[] c3] 140 (0, 0)) := by rw [← hWB0]; exact heap_new1 _ _
  have hl4 := Lat.of0 (κ := κ) hk4
  have HW4 := Lib.hid (HW3.out.kept0 hk4)
  have HL0_4 := Lib.hid (HL0_3.out.lat hl4)
  clear HL0_3
  have HC0_4 := Lib.hid (HC0.out.lat hl4)
  clear HC0
  have HOP_4 := Lib.hid (hk4.at0 HOP_3.out)
  clear HOP_3
  have HK4 := Lib.hid (HK3.out.tr0 hk4)
  clear HK3
  have HBX0 := Lib.hid hb0
  clear hk4 hb0 hl4
  have m0 : WB0.cell? ⟨w.heap.size, 0, none⟩ = some (.int .i64 x.kind) := by rw [cell_at _ _ 0 _ _ HOP_4.out]; rfl
  have m2 : WB0.cell? ⟨w.heap.size, 2, none⟩ = some (.int .i64 x.n) := by rw [cell_at _ _ 2 _ _ HOP_4.out]; rfl
  have b00 : WB0.cell? ⟨w3.heap.size, 0, none⟩ = some (.func (.func f2) #[] c2) := by rw [cell_at _ _ 0 _ _ HBX0.out]; rfl
  have b01 : WB0.cell? ⟨w3.heap.size, 1, none⟩ = some (.func (.func f3) #[] c3) := by rw [cell_at _ _ 1 _ _ HBX0.out]; rfl
  have SF : Hid (∀ w', Kept (fun _ => False) WB0 w' → w'.cell? ⟨w3.heap.size, 0, none⟩ = some (.func (.func f2) #[] c2) ∧ w'.cell? ⟨w3.heap.size, 1, none⟩ = some (.func (.func f3) #[] c3)) := Lib.hid (fun w' hk => ⟨(hk.cell (World.block_lt_of_cell? _ _ b00) (fun f => f)).trans b00, (hk.cell (World.block_lt_of_cell? _ _ b01) (fun f => f)).trans b01⟩)
  obtain ⟨i0, hi, hz0, hz1, hz2⟩ := info_parts info_row
  have HI := Lib.hid hi
  have HZ0 := Lib.hid hz0
  have HZ1 := Lib.hid hz1
  have HZ2 := Lib.hid hz2
  clear hi hz0 hz1 hz2 b00 b01
  have HEL : Hid (∀ w5, Kept (fun _ => False) (WB0.drew.alloc (.cells #[.func (.func f2) #[] c2, .func (.func f3) #[] c3] 140)) w5 → Elems w5 w5.heap.size (some ⟨WB0.heap.size, 0, none⟩) 2 Rc.cells [(Rc.mk f2 c2 f3 c3)]) := Lib.hid (fun w5 hk => (Elems.block (f := Rc.cells) (xs := [(Rc.mk f2 c2 f3 c3)]) Rc.two (hk.at0 (heap_new1 WB0.drew _)) rfl (by show 1 ≤ maxLen; decide)).more (by have := hk.size; have hz : WB0.drew.heap.size = WB0.heap.size := rfl; simp at this; omega))
  have HEM : Hid (∀ w5 : World, Elems (w5.alloc (.cells #[.func (.func f2) #[] c2, .func (.func f3) #[] c3] 140)) (w5.alloc (.cells #[.func (.func f2) #[] c2, .func (.func f3) #[] c3] 140)).heap.size (some ⟨w5.heap.size, 0, none⟩) 2 Rc.cells [(Rc.mk f2 c2 f3 c3)]) := Lib.hid (fun w5 => (Elems.block (f := Rc.cells) (xs := [(Rc.mk f2 c2 f3 c3)]) Rc.two (heap_new1 w5 _) rfl (by show 1 ≤ maxLen; decide)).more (by simp))
  go_wp2_with fail
  go_region_held3 (fun w' => w'.cell? ⟨w3.heap.size, 0, none⟩ = some (.func (.func f2) #[] c2) ∧ w'.cell? ⟨w3.heap.size, 1, none⟩ = some (.func (.func f3) #[] c3)) (first | exact SF.out _ (Kept.refl _ _) | exact SF.out _ (Kept.refl _ _).drew | exact SF.out _ ((Kept.refl _ _).drew.alloc _) | exact SF.out _ HA5 | exact SF.out _ (HA5.alloc _) | exact SF.out _ HK6.out) (first | (go_at_call 73; refine (waitRows_any κ _ (HW4.out.kept0 (by first | exact (Kept.refl _ _).drew | exact (Kept.refl _ _).drew.alloc _))).mono ?_; rintro e w5 ⟨s5, n5, c5, xs5, w3, rfl, hn5, hat5, h03, hW3, h35, ho5⟩; have H5 : ∃ b, WB0.heap.size ≤ b ∧ RowsAt (paint κ b 4) w3 xs5 waitRows ∧ Wl (paint κ b 4) w3 := ⟨_, by simp, hat5, hW3⟩; obtain ⟨b5, hb5, hat, hwl⟩ := H5; clear hat5 hW3; obtain rfl : n5 = 4 := hn5.trans hat.len; have h0 : Kept (fun _ => False) WB0 w3 := (by first | exact Kept.drewL h03 | exact ((Kept.refl _ _).drew.alloc _).tr0 h03); have HA5 : Kept (fun _ => False) WB0 w5 := h0.tr0 h35; have HE5 := (by first | exact HEL.out _ (h03.tr0 h35) | exact trivial); have HAT := Lib.hid hat; have HWL := Lib.hid hwl; have H0 := Lib.hid h0; have H35 := Lib.hid h35; have HO5 := Lib.hid ho5; have hlt5 := h35.size; clear hat hwl h0 h35 ho5 h03 hn5) | (refine step_wait (y := (Rc.mk f2 c2 f3 c3)) (by rfl) _ _ (by rfl) (by rfl) (by rfl) HW4.out hb5 HAT.out HWL.out H0.out H35.out ⟨HL0_4.out, HC0_4.out⟩ HO5.out HE5 ?_; intro κ6 s6 n6 c6 xs6 w6 hn6 hr6 hk6 hw6 hp6; have HR6 := Lib.hid hr6; have HK6 := Lib.hid hk6; have HW6 := Lib.hid hw6; have HP6 := Lib.hid hp6; have HN6 := Lib.hid hn6; clear hr6 hk6 hw6 hp6 hn6) | (refine step_wait (y := (Rc.mk f2 c2 f3 c3)) (by rfl) _ _ (by rfl) (by rfl) (by rfl) HW4.out hb5 HAT.out HWL.out H0.out (H35.out.alloc _) ⟨HL0_4.out, HC0_4.out⟩ (HO5.out.alloc _) (HEM.out _) ?_; intro κ6 s6 n6 c6 xs6 w6 hn6 hr6 hk6 hw6 hp6; have HR6 := Lib.hid hr6; have HK6 := Lib.hid hk6; have HW6 := Lib.hid hw6; have HP6 := Lib.hid hp6; have HN6 := Lib.hid hn6; clear hr6 hk6 hw6 hp6 hn6))
  all_goals go_wp2_with fail
  all_goals go_ret
  all_goals exact ⟨κ6, s6, n6, c6, xs6, rfl, HN6.out, HR6.out, HK4.out.tr0 HK6.out, HW6.out, HP6.out.imp id (fun ⟨b, h1, h2⟩ => ⟨b, Nat.le_trans HK4.out.size h1, h2⟩)⟩
end Go.Proofs.YtbodlaiakcoabaaGreatDoor
end
section
namespace Go.Proofs.YtbodlaiakcoabaaGreatDoor
open Go.RowKit
set_option linter.unusedSimpArgs false
set_option linter.unusedVariables false
set_option maxRecDepth 100000

theorem Got.since {κ : Nat → Nat} {w w1 w' : World} {rs : List Rw} {e : Ending} (h : Got κ w1 rs e w') (hk : Kept (fun _ => False) w w1) : Got κ w rs e w' := by
  obtain ⟨κ', s, n, c, xs, h1, h2, h3, h4, h5, h6⟩ := h
  exact ⟨κ', s, n, c, xs, h1, h2, h3, hk.tr0 h4, h5, h6.imp id (fun ⟨b, h7, h8⟩ => ⟨b, Nat.le_trans hk.size h7, h8⟩)⟩

set_option maxHeartbeats 2000000 in
theorem rows_1 (κ : Nat → Nat) (w : World) (hW : Wl κ w) (ob n wt : Int) (br : Bool) : Calls Tryz.prog 44 #[(Cl.mk 1 ob n wt br).agg, .int .i64 1] w (Got κ w (rowsM 1 n 1)) := by
  have hk1 : Kept (fun _ => False) w (w.alloc (.cells #[.int .i64 1, .int .i64 ob, .int .i64 n, .int .i64 wt, .bool br] 72)) := (Kept.refl _ _).alloc _
  have HW1 := Lib.hid (hW.kept0 hk1)
  have HGOT : ∀ w' e, Got κ (w.alloc (.cells #[.int .i64 1, .int .i64 ob, .int .i64 n, .int .i64 wt, .bool br] 72)) (rowsM 1 n 1) e w' → Got κ w (rowsM 1 n 1) e w' := fun w' e h => h.since hk1
  have HGOT := Lib.hid HGOT
  clear hW hk1
  go_enter Tryz.func44, Tryz.ntmps44
  go_wp2_with fail
  refine (of_any 1 _ 1 rfl).mono ?_
  rintro e wx ⟨rfl, rfl⟩
  go_wp2_with fail
  refine (show Calls Tryz.prog 61 #[(Cl.mk 1 ob n wt br).agg] _ (Got κ _ (rowsM 1 n 1)) from ((hold_1 κ _ HW1.out ⟨1, ob, n, wt, br⟩ rfl).mono (fun e w' h => h.got HW1.out))).mono ?_
  rintro e w3 hG
  have hg := HGOT.out w3 e hG
  obtain ⟨κ', s3, n3, c3, xs3, rfl, h2, h3, h4, h5, h6⟩ := hG
  have HT := Lib.hid hg
  clear hg h2 h3 h4 h5 h6
  go_wp2_with fail
  go_ret
  exact HT.out

set_option maxHeartbeats 2000000 in
theorem rows_2 (κ : Nat → Nat) (w : World) (hW : Wl κ w) (ob n wt : Int) (br : Bool) : Calls Tryz.prog 44 #[(Cl.mk 2 ob n wt br).agg, .int .i64 1] w (Got κ w (rowsM 2 n 1)) := by
  have hk1 : Kept (fun _ => False) w (w.alloc (.cells #[.int .i64 2, .int .i64 ob, .int .i64 n, .int .i64 wt, .bool br] 72)) := (Kept.refl _ _).alloc _
  have HW1 := Lib.hid (hW.kept0 hk1)
  have HGOT : ∀ w' e, Got κ (w.alloc (.cells #[.int .i64 2, .int .i64 ob, .int .i64 n, .int .i64 wt, .bool br] 72)) (rowsM 2 n 1) e w' → Got κ w (rowsM 2 n 1) e w' := fun w' e h => h.since hk1
  have HGOT := Lib.hid HGOT
  clear hW hk1
  go_enter Tryz.func44, Tryz.ntmps44
  go_wp2_with fail
  refine (of_any 2 _ 1 rfl).mono ?_
  rintro e wx ⟨rfl, rfl⟩
  go_wp2_with fail
  refine (show Calls Tryz.prog 61 #[(Cl.mk 2 ob n wt br).agg] _ (Got κ _ (rowsM 2 n 1)) from ((hold_2 κ _ HW1.out ⟨2, ob, n, wt, br⟩ rfl rfl rfl).mono (fun e w' h => h.got HW1.out))).mono ?_
  rintro e w3 hG
  have hg := HGOT.out w3 e hG
  obtain ⟨κ', s3, n3, c3, xs3, rfl, h2, h3, h4, h5, h6⟩ := hG
  have HT := Lib.hid hg
  clear hg h2 h3 h4 h5 h6
  go_wp2_with fail
  go_ret
  exact HT.out

set_option maxHeartbeats 2000000 in
theorem rows_3 (κ : Nat → Nat) (w : World) (hW : Wl κ w) (ob n wt : Int) (br : Bool) : Calls Tryz.prog 44 #[(Cl.mk 3 ob n wt br).agg, .int .i64 1] w (Got κ w (rowsM 3 n 1)) := by
  have hk1 : Kept (fun _ => False) w (w.alloc (.cells #[.int .i64 3, .int .i64 ob, .int .i64 n, .int .i64 wt, .bool br] 72)) := (Kept.refl _ _).alloc _
  have HW1 := Lib.hid (hW.kept0 hk1)
  have HGOT : ∀ w' e, Got κ (w.alloc (.cells #[.int .i64 3, .int .i64 ob, .int .i64 n, .int .i64 wt, .bool br] 72)) (rowsM 3 n 1) e w' → Got κ w (rowsM 3 n 1) e w' := fun w' e h => h.since hk1
  have HGOT := Lib.hid HGOT
  clear hW hk1
  go_enter Tryz.func44, Tryz.ntmps44
  go_wp2_with fail
  refine (of_any 3 _ 1 rfl).mono ?_
  rintro e wx ⟨rfl, rfl⟩
  go_wp2_with fail
  refine (show Calls Tryz.prog 61 #[(Cl.mk 3 ob n wt br).agg] _ (Got κ _ (rowsM 3 n 1)) from ((hold_no κ _ HW1.out ⟨3, ob, n, wt, br⟩ rfl rfl rfl rfl).mono (fun e w' h => h.got HW1.out))).mono ?_
  rintro e w3 hG
  have hg := HGOT.out w3 e hG
  obtain ⟨κ', s3, n3, c3, xs3, rfl, h2, h3, h4, h5, h6⟩ := hG
  have HT := Lib.hid hg
  clear hg h2 h3 h4 h5 h6
  go_wp2_with fail
  go_ret
  exact HT.out

set_option maxHeartbeats 2000000 in
theorem rows_4 (κ : Nat → Nat) (w : World) (hW : Wl κ w) (ob n wt : Int) (br : Bool) : Calls Tryz.prog 44 #[(Cl.mk 4 ob n wt br).agg, .int .i64 2] w (Got κ w (rowsM 4 n 2)) := by
  have hk1 : Kept (fun _ => False) w (w.alloc (.cells #[.int .i64 4, .int .i64 ob, .int .i64 n, .int .i64 wt, .bool br] 72)) := (Kept.refl _ _).alloc _
  have HW1 := Lib.hid (hW.kept0 hk1)
  have HGOT : ∀ w' e, Got κ (w.alloc (.cells #[.int .i64 4, .int .i64 ob, .int .i64 n, .int .i64 wt, .bool br] 72)) (rowsM 4 n 2) e w' → Got κ w (rowsM 4 n 2) e w' := fun w' e h => h.since hk1
  have HGOT := Lib.hid HGOT
  clear hW hk1
  go_enter Tryz.func44, Tryz.ntmps44
  go_wp2_with fail
  refine (of_any 4 _ 2 rfl).mono ?_
  rintro e wx ⟨rfl, rfl⟩
  go_wp2_with fail
  refine (show Calls Tryz.prog 57 #[(Cl.mk 4 ob n wt br).agg] _ (Got κ _ (rowsM 4 n 2)) from ((rsema_4 κ _ HW1.out ⟨4, ob, n, wt, br⟩ rfl).mono (fun e w' h => h.got HW1.out))).mono ?_
  rintro e w3 hG
  have hg := HGOT.out w3 e hG
  obtain ⟨κ', s3, n3, c3, xs3, rfl, h2, h3, h4, h5, h6⟩ := hG
  have HT := Lib.hid hg
  clear hg h2 h3 h4 h5 h6
  go_wp2_with fail
  go_ret
  exact HT.out

set_option maxHeartbeats 2000000 in
theorem rows_5 (κ : Nat → Nat) (w : World) (hW : Wl κ w) (ob n wt : Int) (br : Bool) : Calls Tryz.prog 44 #[(Cl.mk 5 ob n wt br).agg, .int .i64 2] w (Got κ w (rowsM 5 n 2)) := by
  have hk1 : Kept (fun _ => False) w (w.alloc (.cells #[.int .i64 5, .int .i64 ob, .int .i64 n, .int .i64 wt, .bool br] 72)) := (Kept.refl _ _).alloc _
  have HW1 := Lib.hid (hW.kept0 hk1)
  have HGOT : ∀ w' e, Got κ (w.alloc (.cells #[.int .i64 5, .int .i64 ob, .int .i64 n, .int .i64 wt, .bool br] 72)) (rowsM 5 n 2) e w' → Got κ w (rowsM 5 n 2) e w' := fun w' e h => h.since hk1
  have HGOT := Lib.hid HGOT
  clear hW hk1
  go_enter Tryz.func44, Tryz.ntmps44
  go_wp2_with fail
  refine (of_any 5 _ 2 rfl).mono ?_
  rintro e wx ⟨rfl, rfl⟩
  go_wp2_with fail
  refine (show Calls Tryz.prog 57 #[(Cl.mk 5 ob n wt br).agg] _ (Got κ _ (rowsM 5 n 2)) from ((rsema_5 κ _ HW1.out ⟨5, ob, n, wt, br⟩ rfl rfl).mono (fun e w' h => h.got HW1.out))).mono ?_
  rintro e w3 hG
  have hg := HGOT.out w3 e hG
  obtain ⟨κ', s3, n3, c3, xs3, rfl, h2, h3, h4, h5, h6⟩ := hG
  have HT := Lib.hid hg
  clear hg h2 h3 h4 h5 h6
  go_wp2_with fail
  go_ret
  exact HT.out

set_option maxHeartbeats 2000000 in
theorem rows_6 (κ : Nat → Nat) (w : World) (hW : Wl κ w) (ob n wt : Int) (br : Bool) : Calls Tryz.prog 44 #[(Cl.mk 6 ob n wt br).agg, .int .i64 2] w (Got κ w (rowsM 6 n 2)) := by
  have hk1 : Kept (fun _ => False) w (w.alloc (.cells #[.int .i64 6, .int .i64 ob, .int .i64 n, .int .i64 wt, .bool br] 72)) := (Kept.refl _ _).alloc _
  have HW1 := Lib.hid (hW.kept0 hk1)
  have HGOT : ∀ w' e, Got κ (w.alloc (.cells #[.int .i64 6, .int .i64 ob, .int .i64 n, .int .i64 wt, .bool br] 72)) (rowsM 6 n 2) e w' → Got κ w (rowsM 6 n 2) e w' := fun w' e h => h.since hk1
  have HGOT := Lib.hid HGOT
  clear hW hk1
  go_enter Tryz.func44, Tryz.ntmps44
  go_wp2_with fail
  refine (of_any 6 _ 2 rfl).mono ?_
  rintro e wx ⟨rfl, rfl⟩
  go_wp2_with fail
  refine (show Calls Tryz.prog 57 #[(Cl.mk 6 ob n wt br).agg] _ (Got κ _ (rowsM 6 n 2)) from ((rsema_6 κ _ HW1.out ⟨6, ob, n, wt, br⟩ rfl rfl rfl).mono (fun e w' h => h.got HW1.out))).mono ?_
  rintro e w3 hG
  have hg := HGOT.out w3 e hG
  obtain ⟨κ', s3, n3, c3, xs3, rfl, h2, h3, h4, h5, h6⟩ := hG
  have HT := Lib.hid hg
  clear hg h2 h3 h4 h5 h6
  go_wp2_with fail
  go_ret
  exact HT.out

set_option maxHeartbeats 2000000 in
theorem rows_7 (κ : Nat → Nat) (w : World) (hW : Wl κ w) (ob n wt : Int) (br : Bool) : Calls Tryz.prog 44 #[(Cl.mk 7 ob n wt br).agg, .int .i64 2] w (Got κ w (rowsM 7 n 2)) := by
  have hk1 : Kept (fun _ => False) w (w.alloc (.cells #[.int .i64 7, .int .i64 ob, .int .i64 n, .int .i64 wt, .bool br] 72)) := (Kept.refl _ _).alloc _
  have HW1 := Lib.hid (hW.kept0 hk1)
  have HGOT : ∀ w' e, Got κ (w.alloc (.cells #[.int .i64 7, .int .i64 ob, .int .i64 n, .int .i64 wt, .bool br] 72)) (rowsM 7 n 2) e w' → Got κ w (rowsM 7 n 2) e w' := fun w' e h => h.since hk1
  have HGOT := Lib.hid HGOT
  clear hW hk1
  go_enter Tryz.func44, Tryz.ntmps44
  go_wp2_with fail
  refine (of_any 7 _ 2 rfl).mono ?_
  rintro e wx ⟨rfl, rfl⟩
  go_wp2_with fail
  refine (show Calls Tryz.prog 57 #[(Cl.mk 7 ob n wt br).agg] _ (Got κ _ (rowsM 7 n 2)) from ((rsema_no κ _ HW1.out ⟨7, ob, n, wt, br⟩ rfl rfl rfl).mono (fun e w' h => h.got HW1.out))).mono ?_
  rintro e w3 hG
  have hg := HGOT.out w3 e hG
  obtain ⟨κ', s3, n3, c3, xs3, rfl, h2, h3, h4, h5, h6⟩ := hG
  have HT := Lib.hid hg
  clear hg h2 h3 h4 h5 h6
  go_wp2_with fail
  go_ret
  exact HT.out

set_option maxHeartbeats 2000000 in
theorem rows_8 (κ : Nat → Nat) (w : World) (hW : Wl κ w) (ob n wt : Int) (br : Bool) : Calls Tryz.prog 44 #[(Cl.mk 8 ob n wt br).agg, .int .i64 3] w (Got κ w (rowsM 8 n 3)) := by
  have hk1 : Kept (fun _ => False) w (w.alloc (.cells #[.int .i64 8, .int .i64 ob, .int .i64 n, .int .i64 wt, .bool br] 72)) := (Kept.refl _ _).alloc _
  have HW1 := Lib.hid (hW.kept0 hk1)
  have HGOT : ∀ w' e, Got κ (w.alloc (.cells #[.int .i64 8, .int .i64 ob, .int .i64 n, .int .i64 wt, .bool br] 72)) (rowsM 8 n 3) e w' → Got κ w (rowsM 8 n 3) e w' := fun w' e h => h.since hk1
  have HGOT := Lib.hid HGOT
  clear hW hk1
  go_enter Tryz.func44, Tryz.ntmps44
  go_wp2_with fail
  refine (of_any 8 _ 3 rfl).mono ?_
  rintro e wx ⟨rfl, rfl⟩
  go_wp2_with fail
  refine (show Calls Tryz.prog 58 #[(Cl.mk 8 ob n wt br).agg] _ (Got κ _ (rowsM 8 n 3)) from ((rlatch_8 κ _ HW1.out ⟨8, ob, n, wt, br⟩ rfl).mono (fun e w' h => h.got HW1.out))).mono ?_
  rintro e w3 hG
  have hg := HGOT.out w3 e hG
  obtain ⟨κ', s3, n3, c3, xs3, rfl, h2, h3, h4, h5, h6⟩ := hG
  have HT := Lib.hid hg
  clear hg h2 h3 h4 h5 h6
  go_wp2_with fail
  go_ret
  exact HT.out

set_option maxHeartbeats 2000000 in
theorem rows_9 (κ : Nat → Nat) (w : World) (hW : Wl κ w) (ob n wt : Int) (br : Bool) : Calls Tryz.prog 44 #[(Cl.mk 9 ob n wt br).agg, .int .i64 3] w (Got κ w (rowsM 9 n 3)) := by
  have hk1 : Kept (fun _ => False) w (w.alloc (.cells #[.int .i64 9, .int .i64 ob, .int .i64 n, .int .i64 wt, .bool br] 72)) := (Kept.refl _ _).alloc _
  have HW1 := Lib.hid (hW.kept0 hk1)
  have HGOT : ∀ w' e, Got κ (w.alloc (.cells #[.int .i64 9, .int .i64 ob, .int .i64 n, .int .i64 wt, .bool br] 72)) (rowsM 9 n 3) e w' → Got κ w (rowsM 9 n 3) e w' := fun w' e h => h.since hk1
  have HGOT := Lib.hid HGOT
  clear hW hk1
  go_enter Tryz.func44, Tryz.ntmps44
  go_wp2_with fail
  refine (of_any 9 _ 3 rfl).mono ?_
  rintro e wx ⟨rfl, rfl⟩
  go_wp2_with fail
  refine (show Calls Tryz.prog 58 #[(Cl.mk 9 ob n wt br).agg] _ (Got κ _ (rowsM 9 n 3)) from ((rlatch_9 κ _ HW1.out ⟨9, ob, n, wt, br⟩ rfl).mono (fun e w' h => h.got HW1.out))).mono ?_
  rintro e w3 hG
  have hg := HGOT.out w3 e hG
  obtain ⟨κ', s3, n3, c3, xs3, rfl, h2, h3, h4, h5, h6⟩ := hG
  have HT := Lib.hid hg
  clear hg h2 h3 h4 h5 h6
  go_wp2_with fail
  go_ret
  exact HT.out

set_option maxHeartbeats 2000000 in
theorem rows_10 (κ : Nat → Nat) (w : World) (hW : Wl κ w) (ob n wt : Int) (br : Bool) : Calls Tryz.prog 44 #[(Cl.mk 10 ob n wt br).agg, .int .i64 4] w (Got κ w (rowsM 10 n 4)) := by
  have hk1 : Kept (fun _ => False) w (w.alloc (.cells #[.int .i64 10, .int .i64 ob, .int .i64 n, .int .i64 wt, .bool br] 72)) := (Kept.refl _ _).alloc _
  have HW1 := Lib.hid (hW.kept0 hk1)
  have HGOT : ∀ w' e, Got κ (w.alloc (.cells #[.int .i64 10, .int .i64 ob, .int .i64 n, .int .i64 wt, .bool br] 72)) (rowsM 10 n 4) e w' → Got κ w (rowsM 10 n 4) e w' := fun w' e h => h.since hk1
  have HGOT := Lib.hid HGOT
  clear hW hk1
  go_enter Tryz.func44, Tryz.ntmps44
  go_wp2_with fail
  refine (of_any 10 _ 4 rfl).mono ?_
  rintro e wx ⟨rfl, rfl⟩
  go_wp2_with fail
  refine (show Calls Tryz.prog 59 #[(Cl.mk 10 ob n wt br).agg] _ (Got κ _ (rowsM 10 n 4)) from ((read_10 κ _ HW1.out ⟨10, ob, n, wt, br⟩ rfl).mono (fun e w' h => h.got HW1.out))).mono ?_
  rintro e w3 hG
  have hg := HGOT.out w3 e hG
  obtain ⟨κ', s3, n3, c3, xs3, rfl, h2, h3, h4, h5, h6⟩ := hG
  have HT := Lib.hid hg
  clear hg h2 h3 h4 h5 h6
  go_wp2_with fail
  go_ret
  exact HT.out

set_option maxHeartbeats 2000000 in
theorem rows_11 (κ : Nat → Nat) (w : World) (hW : Wl κ w) (ob n wt : Int) (br : Bool) : Calls Tryz.prog 44 #[(Cl.mk 11 ob n wt br).agg, .int .i64 4] w (Got κ w (rowsM 11 n 4)) := by
  have hk1 : Kept (fun _ => False) w (w.alloc (.cells #[.int .i64 11, .int .i64 ob, .int .i64 n, .int .i64 wt, .bool br] 72)) := (Kept.refl _ _).alloc _
  have HW1 := Lib.hid (hW.kept0 hk1)
  have HGOT : ∀ w' e, Got κ (w.alloc (.cells #[.int .i64 11, .int .i64 ob, .int .i64 n, .int .i64 wt, .bool br] 72)) (rowsM 11 n 4) e w' → Got κ w (rowsM 11 n 4) e w' := fun w' e h => h.since hk1
  have HGOT := Lib.hid HGOT
  clear hW hk1
  go_enter Tryz.func44, Tryz.ntmps44
  go_wp2_with fail
  refine (of_any 11 _ 4 rfl).mono ?_
  rintro e wx ⟨rfl, rfl⟩
  go_wp2_with fail
  refine (show Calls Tryz.prog 59 #[(Cl.mk 11 ob n wt br).agg] _ (Got κ _ (rowsM 11 n 4)) from ((read_11 κ _ HW1.out ⟨11, ob, n, wt, br⟩ rfl rfl).mono (fun e w' h => h.got HW1.out))).mono ?_
  rintro e w3 hG
  have hg := HGOT.out w3 e hG
  obtain ⟨κ', s3, n3, c3, xs3, rfl, h2, h3, h4, h5, h6⟩ := hG
  have HT := Lib.hid hg
  clear hg h2 h3 h4 h5 h6
  go_wp2_with fail
  go_ret
  exact HT.out

set_option maxHeartbeats 2000000 in
theorem rows_12 (κ : Nat → Nat) (w : World) (hW : Wl κ w) (ob n wt : Int) (br : Bool) : Calls Tryz.prog 44 #[(Cl.mk 12 ob n wt br).agg, .int .i64 4] w (Got κ w (rowsM 12 n 4)) := by
  have hk1 : Kept (fun _ => False) w (w.alloc (.cells #[.int .i64 12, .int .i64 ob, .int .i64 n, .int .i64 wt, .bool br] 72)) := (Kept.refl _ _).alloc _
  have HW1 := Lib.hid (hW.kept0 hk1)
  have HGOT : ∀ w' e, Got κ (w.alloc (.cells #[.int .i64 12, .int .i64 ob, .int .i64 n, .int .i64 wt, .bool br] 72)) (rowsM 12 n 4) e w' → Got κ w (rowsM 12 n 4) e w' := fun w' e h => h.since hk1
  have HGOT := Lib.hid HGOT
  clear hW hk1
  go_enter Tryz.func44, Tryz.ntmps44
  go_wp2_with fail
  refine (of_any 12 _ 4 rfl).mono ?_
  rintro e wx ⟨rfl, rfl⟩
  go_wp2_with fail
  refine (show Calls Tryz.prog 59 #[(Cl.mk 12 ob n wt br).agg] _ (Got κ _ (rowsM 12 n 4)) from ((read_no κ _ HW1.out ⟨12, ob, n, wt, br⟩ rfl rfl).mono (fun e w' h => h.got HW1.out))).mono ?_
  rintro e w3 hG
  have hg := HGOT.out w3 e hG
  obtain ⟨κ', s3, n3, c3, xs3, rfl, h2, h3, h4, h5, h6⟩ := hG
  have HT := Lib.hid hg
  clear hg h2 h3 h4 h5 h6
  go_wp2_with fail
  go_ret
  exact HT.out

set_option maxHeartbeats 2000000 in
theorem rows_13 (κ : Nat → Nat) (w : World) (hW : Wl κ w) (ob n wt : Int) (br : Bool) : Calls Tryz.prog 44 #[(Cl.mk 13 ob n wt br).agg, .int .i64 4] w (Got κ w (rowsM 13 n 4)) := by
  have hk1 : Kept (fun _ => False) w (w.alloc (.cells #[.int .i64 13, .int .i64 ob, .int .i64 n, .int .i64 wt, .bool br] 72)) := (Kept.refl _ _).alloc _
  have HW1 := Lib.hid (hW.kept0 hk1)
  have HGOT : ∀ w' e, Got κ (w.alloc (.cells #[.int .i64 13, .int .i64 ob, .int .i64 n, .int .i64 wt, .bool br] 72)) (rowsM 13 n 4) e w' → Got κ w (rowsM 13 n 4) e w' := fun w' e h => h.since hk1
  have HGOT := Lib.hid HGOT
  clear hW hk1
  go_enter Tryz.func44, Tryz.ntmps44
  go_wp2_with fail
  refine (of_any 13 _ 4 rfl).mono ?_
  rintro e wx ⟨rfl, rfl⟩
  go_wp2_with fail
  refine (show Calls Tryz.prog 61 #[(Cl.mk 13 ob n wt br).agg] _ (Got κ _ (rowsM 13 n 4)) from ((hold_13 κ _ HW1.out ⟨13, ob, n, wt, br⟩ rfl rfl).mono (fun e w' h => h.got HW1.out))).mono ?_
  rintro e w3 hG
  have hg := HGOT.out w3 e hG
  obtain ⟨κ', s3, n3, c3, xs3, rfl, h2, h3, h4, h5, h6⟩ := hG
  have HT := Lib.hid hg
  clear hg h2 h3 h4 h5 h6
  go_wp2_with fail
  go_ret
  exact HT.out

set_option maxHeartbeats 2000000 in
theorem rows_14 (κ : Nat → Nat) (w : World) (hW : Wl κ w) (ob n wt : Int) (br : Bool) : Calls Tryz.prog 44 #[(Cl.mk 14 ob n wt br).agg, .int .i64 4] w (Got κ w (rowsM 14 n 4)) := by
  have hk1 : Kept (fun _ => False) w (w.alloc (.cells #[.int .i64 14, .int .i64 ob, .int .i64 n, .int .i64 wt, .bool br] 72)) := (Kept.refl _ _).alloc _
  have HW1 := Lib.hid (hW.kept0 hk1)
  have HGOT : ∀ w' e, Got κ (w.alloc (.cells #[.int .i64 14, .int .i64 ob, .int .i64 n, .int .i64 wt, .bool br] 72)) (rowsM 14 n 4) e w' → Got κ w (rowsM 14 n 4) e w' := fun w' e h => h.since hk1
  have HGOT := Lib.hid HGOT
  clear hW hk1
  go_enter Tryz.func44, Tryz.ntmps44
  go_wp2_with fail
  refine (of_any 14 _ 4 rfl).mono ?_
  rintro e wx ⟨rfl, rfl⟩
  go_wp2_with fail
  refine (show Calls Tryz.prog 61 #[(Cl.mk 14 ob n wt br).agg] _ (Got κ _ (rowsM 14 n 4)) from ((hold_14 κ _ HW1.out ⟨14, ob, n, wt, br⟩ rfl rfl rfl rfl).mono (fun e w' h => h.got HW1.out))).mono ?_
  rintro e w3 hG
  have hg := HGOT.out w3 e hG
  obtain ⟨κ', s3, n3, c3, xs3, rfl, h2, h3, h4, h5, h6⟩ := hG
  have HT := Lib.hid hg
  clear hg h2 h3 h4 h5 h6
  go_wp2_with fail
  go_ret
  exact HT.out

set_option maxHeartbeats 2000000 in
theorem rows_15 (κ : Nat → Nat) (w : World) (hW : Wl κ w) (ob n wt : Int) (br : Bool) : Calls Tryz.prog 44 #[(Cl.mk 15 ob n wt br).agg, .int .i64 4] w (Got κ w (rowsM 15 n 4)) := by
  have hk1 : Kept (fun _ => False) w (w.alloc (.cells #[.int .i64 15, .int .i64 ob, .int .i64 n, .int .i64 wt, .bool br] 72)) := (Kept.refl _ _).alloc _
  have HW1 := Lib.hid (hW.kept0 hk1)
  have HGOT : ∀ w' e, Got κ (w.alloc (.cells #[.int .i64 15, .int .i64 ob, .int .i64 n, .int .i64 wt, .bool br] 72)) (rowsM 15 n 4) e w' → Got κ w (rowsM 15 n 4) e w' := fun w' e h => h.since hk1
  have HGOT := Lib.hid HGOT
  clear hW hk1
  go_enter Tryz.func44, Tryz.ntmps44
  go_wp2_with fail
  refine (of_any 15 _ 4 rfl).mono ?_
  rintro e wx ⟨rfl, rfl⟩
  go_wp2_with fail
  refine (show Calls Tryz.prog 61 #[(Cl.mk 15 ob n wt br).agg] _ (Got κ _ (rowsM 15 n 4)) from ((hold_no κ _ HW1.out ⟨15, ob, n, wt, br⟩ rfl rfl rfl rfl).mono (fun e w' h => h.got HW1.out))).mono ?_
  rintro e w3 hG
  have hg := HGOT.out w3 e hG
  obtain ⟨κ', s3, n3, c3, xs3, rfl, h2, h3, h4, h5, h6⟩ := hG
  have HT := Lib.hid hg
  clear hg h2 h3 h4 h5 h6
  go_wp2_with fail
  go_ret
  exact HT.out

set_option maxHeartbeats 2000000 in
theorem rows_16 (κ : Nat → Nat) (w : World) (hW : Wl κ w) (ob n wt : Int) (br : Bool) : Calls Tryz.prog 44 #[(Cl.mk 16 ob n wt br).agg, .int .i64 1] w (Got κ w (rowsM 16 n 1)) := by
  have hk1 : Kept (fun _ => False) w (w.alloc (.cells #[.int .i64 16, .int .i64 ob, .int .i64 n, .int .i64 wt, .bool br] 72)) := (Kept.refl _ _).alloc _
  have HW1 := Lib.hid (hW.kept0 hk1)
  have HGOT : ∀ w' e, Got κ (w.alloc (.cells #[.int .i64 16, .int .i64 ob, .int .i64 n, .int .i64 wt, .bool br] 72)) (rowsM 16 n 1) e w' → Got κ w (rowsM 16 n 1) e w' := fun w' e h => h.since hk1
  have HGOT := Lib.hid HGOT
  clear hW hk1
  go_enter Tryz.func44, Tryz.ntmps44
  go_wp2_with fail
  refine (of_any 16 _ 1 rfl).mono ?_
  rintro e wx ⟨rfl, rfl⟩
  go_wp2_with fail
  refine (show Calls Tryz.prog 56 #[(Cl.mk 16 ob n wt br).agg] _ (Got κ _ (rowsM 16 n 1)) from (signal_16 κ _ HW1.out ⟨16, ob, n, wt, br⟩ rfl)).mono ?_
  rintro e w3 hG
  have hg := HGOT.out w3 e hG
  obtain ⟨κ', s3, n3, c3, xs3, rfl, h2, h3, h4, h5, h6⟩ := hG
  have HT := Lib.hid hg
  clear hg h2 h3 h4 h5 h6
  go_wp2_with fail
  go_ret
  exact HT.out

set_option maxHeartbeats 2000000 in
theorem rows_17 (κ : Nat → Nat) (w : World) (hW : Wl κ w) (ob n wt : Int) (br : Bool) : Calls Tryz.prog 44 #[(Cl.mk 17 ob n wt br).agg, .int .i64 1] w (Got κ w (rowsM 17 n 1)) := by
  have hk1 : Kept (fun _ => False) w (w.alloc (.cells #[.int .i64 17, .int .i64 ob, .int .i64 n, .int .i64 wt, .bool br] 72)) := (Kept.refl _ _).alloc _
  have HW1 := Lib.hid (hW.kept0 hk1)
  have HGOT : ∀ w' e, Got κ (w.alloc (.cells #[.int .i64 17, .int .i64 ob, .int .i64 n, .int .i64 wt, .bool br] 72)) (rowsM 17 n 1) e w' → Got κ w (rowsM 17 n 1) e w' := fun w' e h => h.since hk1
  have HGOT := Lib.hid HGOT
  clear hW hk1
  go_enter Tryz.func44, Tryz.ntmps44
  go_wp2_with fail
  refine (of_any 17 _ 1 rfl).mono ?_
  rintro e wx ⟨rfl, rfl⟩
  go_wp2_with fail
  refine (show Calls Tryz.prog 56 #[(Cl.mk 17 ob n wt br).agg] _ (Got κ _ (rowsM 17 n 1)) from ((signal_17 κ _ HW1.out ⟨17, ob, n, wt, br⟩ rfl rfl).mono (fun e w' h => h.got HW1.out))).mono ?_
  rintro e w3 hG
  have hg := HGOT.out w3 e hG
  obtain ⟨κ', s3, n3, c3, xs3, rfl, h2, h3, h4, h5, h6⟩ := hG
  have HT := Lib.hid hg
  clear hg h2 h3 h4 h5 h6
  go_wp2_with fail
  go_ret
  exact HT.out

set_option maxHeartbeats 2000000 in
theorem rows_18 (κ : Nat → Nat) (w : World) (hW : Wl κ w) (ob n wt : Int) (br : Bool) : Calls Tryz.prog 44 #[(Cl.mk 18 ob n wt br).agg, .int .i64 1] w (Got κ w (rowsM 18 n 1)) := by
  have hk1 : Kept (fun _ => False) w (w.alloc (.cells #[.int .i64 18, .int .i64 ob, .int .i64 n, .int .i64 wt, .bool br] 72)) := (Kept.refl _ _).alloc _
  have HW1 := Lib.hid (hW.kept0 hk1)
  have HGOT : ∀ w' e, Got κ (w.alloc (.cells #[.int .i64 18, .int .i64 ob, .int .i64 n, .int .i64 wt, .bool br] 72)) (rowsM 18 n 1) e w' → Got κ w (rowsM 18 n 1) e w' := fun w' e h => h.since hk1
  have HGOT := Lib.hid HGOT
  clear hW hk1
  go_enter Tryz.func44, Tryz.ntmps44
  go_wp2_with fail
  refine (of_any 18 _ 1 rfl).mono ?_
  rintro e wx ⟨rfl, rfl⟩
  go_wp2_with fail
  refine (show Calls Tryz.prog 56 #[(Cl.mk 18 ob n wt br).agg] _ (Got κ _ (rowsM 18 n 1)) from ((signal_18 κ _ HW1.out ⟨18, ob, n, wt, br⟩ rfl rfl).mono (fun e w' h => h.got HW1.out))).mono ?_
  rintro e w3 hG
  have hg := HGOT.out w3 e hG
  obtain ⟨κ', s3, n3, c3, xs3, rfl, h2, h3, h4, h5, h6⟩ := hG
  have HT := Lib.hid hg
  clear hg h2 h3 h4 h5 h6
  go_wp2_with fail
  go_ret
  exact HT.out

set_option maxHeartbeats 2000000 in
theorem rows_19 (κ : Nat → Nat) (w : World) (hW : Wl κ w) (ob n wt : Int) (br : Bool) : Calls Tryz.prog 44 #[(Cl.mk 19 ob n wt br).agg, .int .i64 5] w (Got κ w (rowsM 19 n 5)) := by
  have hk1 : Kept (fun _ => False) w (w.alloc (.cells #[.int .i64 19, .int .i64 ob, .int .i64 n, .int .i64 wt, .bool br] 72)) := (Kept.refl _ _).alloc _
  have HW1 := Lib.hid (hW.kept0 hk1)
  have HGOT : ∀ w' e, Got κ (w.alloc (.cells #[.int .i64 19, .int .i64 ob, .int .i64 n, .int .i64 wt, .bool br] 72)) (rowsM 19 n 5) e w' → Got κ w (rowsM 19 n 5) e w' := fun w' e h => h.since hk1
  have HGOT := Lib.hid HGOT
  clear hW hk1
  go_enter Tryz.func44, Tryz.ntmps44
  go_wp2_with fail
  refine (of_any 19 _ 5 rfl).mono ?_
  rintro e wx ⟨rfl, rfl⟩
  go_wp2_with fail
  refine (show Calls Tryz.prog 60 #[(Cl.mk 19 ob n wt br).agg] _ (Got κ _ (rowsM 19 n 5)) from ((rswap_any κ _ HW1.out ⟨19, ob, n, wt, br⟩ ).mono (fun e w' h => h.got HW1.out))).mono ?_
  rintro e w3 hG
  have hg := HGOT.out w3 e hG
  obtain ⟨κ', s3, n3, c3, xs3, rfl, h2, h3, h4, h5, h6⟩ := hG
  have HT := Lib.hid hg
  clear hg h2 h3 h4 h5 h6
  go_wp2_with fail
  go_ret
  exact HT.out

set_option maxHeartbeats 2000000 in
theorem rows_not (κ : Nat → Nat) (w : World) (hW : Wl κ w) (x : Cl) (kd : Int) (h : (ofF x.kind == kd) = false) : Calls Tryz.prog 44 #[x.agg, .int .i64 kd] w (Got κ w noRows) := by
  have hk1 : Kept (fun _ => False) w (w.alloc (.cells #[.int .i64 x.kind, .int .i64 x.obj, .int .i64 x.n, .int .i64 x.wait, .bool x.breaks] 72)) := (Kept.refl _ _).alloc _
  have HW0 := Lib.hid (hW.kept0 hk1)
  have HK0 := Lib.hid hk1
  have HWW := Lib.hid hW
  clear hW hk1
  go_enter Tryz.func44, Tryz.ntmps44
  go_wp2_with fail
  refine (of_any x.kind _ _ rfl).mono ?_
  rintro e wx ⟨rfl, rfl⟩
  go_wp2_with fail
  refine (marks0 κ _ HW0.out).mono ?_
  rintro e w1 ⟨f1, c1, rfl, hx1, hk1⟩
  have hl1 := Lat.of0 (κ := κ) hk1
  have HW1 := Lib.hid (HW0.out.kept0 hk1)
  have HK1 := Lib.hid (HK0.out.tr0 hk1)
  clear HK0
  have HL0 := Lib.hid hx1
  clear hx1 hk1 hl1
  go_wp2_with fail
  refine (to1 HW1.out 7).mono ?_
  rintro e w2 ⟨f2, c2, rfl, hx2, hk2⟩
  have hl2 := Lat.of0 (κ := κ) hk2
  have HW2 := Lib.hid (HW1.out.kept0 hk2)
  have HL0_2 := Lib.hid (HL0.out.lat hl2)
  clear HL0
  have HK2 := Lib.hid (HK1.out.tr0 hk2)
  clear HK1
  have HC0 := Lib.hid hx2
  clear hx2 hk2 hl2
  have hRI := rows_new HW2.out [Rc.mk f1 c1 f2 c2] [⟨marksL [], [7]⟩] #[.func (.func f1) #[] c1, .func (.func f2) #[] c2] 140 rfl (by simp [maxLen]) ⟨⟨HL0_2.out, HC0.out⟩, trivial⟩
  have hRK : Kept (fun _ => False) w (w2.alloc (.cells #[.func (.func f1) #[] c1, .func (.func f2) #[] c2] 140)) := HK2.out.alloc _
  have HRW := Lib.hid (HW2.out.kept0 ((Kept.refl _ _).alloc (.cells #[.func (.func f1) #[] c1, .func (.func f2) #[] c2] 140)))
  have HRI := Lib.hid hRI
  have HRK := Lib.hid hRK
  clear hRI hRK
  clear HL0_2
  clear HC0
  go_wp2_with fail
  go_ret
  exact (show Lad κ w noRows _ _ from ⟨_, _, _, _, rfl, rfl, HRI.out, HRK.out⟩).got HWW.out

theorem rows_else (κ : Nat → Nat) (w : World) (hW : Wl κ w) (x : Cl) (h0 : ofF x.kind = 0) (h : ∀ i : Int, 1 ≤ i → i ≤ 19 → x.kind ≠ i) : Calls Tryz.prog 44 #[x.agg, .int .i64 0] w (Got κ w (rowsM x.kind x.n 0)) := by
  have hr : rowsM x.kind x.n 0 = [freeR 0, monR 0] := by
    have q := fun i h1 h2 => h i h1 h2
    unfold rowsM holdRows
    rw [if_neg (by simp [h0]), if_neg (by have := q 16; have := q 17; have := q 18; omega), if_neg (by have := q 4; have := q 5; have := q 6; have := q 7; omega), if_neg (by have := q 8; have := q 9; omega), if_neg (by have := q 10; have := q 11; have := q 12; omega),
      if_neg (by have := q 19; omega), if_neg (by have := q 1; have := q 13; omega), if_neg (by have := q 2; have := q 14; omega)]
  rw [hr]
  have hk1 : Kept (fun _ => False) w (w.alloc (.cells #[.int .i64 x.kind, .int .i64 x.obj, .int .i64 x.n, .int .i64 x.wait, .bool x.breaks] 72)) := (Kept.refl _ _).alloc _
  have HW1 := Lib.hid (hW.kept0 hk1)
  have HGOT : ∀ w' e, Got κ (w.alloc (.cells #[.int .i64 x.kind, .int .i64 x.obj, .int .i64 x.n, .int .i64 x.wait, .bool x.breaks] 72)) [freeR 0, monR 0] e w' → Got κ w [freeR 0, monR 0] e w' := fun w' e h => h.since hk1
  have HGOT := Lib.hid HGOT
  have j1 : (x.kind == 1) = false := beq_eq_false_iff_ne.2 (h 1 (by decide) (by decide))
  have j2 : (x.kind == 2) = false := beq_eq_false_iff_ne.2 (h 2 (by decide) (by decide))
  have j3 : (x.kind == 3) = false := beq_eq_false_iff_ne.2 (h 3 (by decide) (by decide))
  have j4 : (x.kind == 4) = false := beq_eq_false_iff_ne.2 (h 4 (by decide) (by decide))
  have j5 : (x.kind == 5) = false := beq_eq_false_iff_ne.2 (h 5 (by decide) (by decide))
  have j6 : (x.kind == 6) = false := beq_eq_false_iff_ne.2 (h 6 (by decide) (by decide))
  have j7 : (x.kind == 7) = false := beq_eq_false_iff_ne.2 (h 7 (by decide) (by decide))
  have j8 : (x.kind == 8) = false := beq_eq_false_iff_ne.2 (h 8 (by decide) (by decide))
  have j9 : (x.kind == 9) = false := beq_eq_false_iff_ne.2 (h 9 (by decide) (by decide))
  have j10 : (x.kind == 10) = false := beq_eq_false_iff_ne.2 (h 10 (by decide) (by decide))
  have j11 : (x.kind == 11) = false := beq_eq_false_iff_ne.2 (h 11 (by decide) (by decide))
  have j12 : (x.kind == 12) = false := beq_eq_false_iff_ne.2 (h 12 (by decide) (by decide))
  have j13 : (x.kind == 13) = false := beq_eq_false_iff_ne.2 (h 13 (by decide) (by decide))
  have j14 : (x.kind == 14) = false := beq_eq_false_iff_ne.2 (h 14 (by decide) (by decide))
  have j15 : (x.kind == 15) = false := beq_eq_false_iff_ne.2 (h 15 (by decide) (by decide))
  have j16 : (x.kind == 16) = false := beq_eq_false_iff_ne.2 (h 16 (by decide) (by decide))
  have j17 : (x.kind == 17) = false := beq_eq_false_iff_ne.2 (h 17 (by decide) (by decide))
  have j18 : (x.kind == 18) = false := beq_eq_false_iff_ne.2 (h 18 (by decide) (by decide))
  have j19 : (x.kind == 19) = false := beq_eq_false_iff_ne.2 (h 19 (by decide) (by decide))
  have HH0 := Lib.hid h0
  clear hW hk1 hr h h0
  go_enter Tryz.func44, Tryz.ntmps44
  go_wp2_with fail
  refine (of_any x.kind _ 0 HH0.out).mono ?_
  rintro e wx ⟨rfl, rfl⟩
  go_wp2_with fail
  refine ((hold_no κ _ HW1.out x j1 j13 j2 j14).mono (fun e w' h => h.got HW1.out)).mono ?_
  rintro e w3 hG
  have hg := HGOT.out w3 e hG
  obtain ⟨κ', s3, n3, c3, xs3, rfl, h2, h3, h4, h5, h6⟩ := hG
  have HT := Lib.hid hg
  clear hg h2 h3 h4 h5 h6
  go_wp2_with fail
  go_ret
  exact HT.out

theorem rowsOf_any (κ : Nat → Nat) (w : World) (hW : Wl κ w) (x : Cl) (kd : Int) : Calls Tryz.prog 44 #[x.agg, .int .i64 kd] w (Got κ w (rowsM x.kind x.n kd)) := by
  by_cases he : ofF x.kind = kd
  · subst he
    obtain ⟨k, ob, n, wt, br⟩ := x
    rcases kinds k with rfl | rfl | rfl | rfl | rfl | rfl | rfl | rfl | rfl | rfl | rfl | rfl | rfl | rfl | rfl | rfl | rfl | rfl | rfl | h
    · exact rows_1 κ w hW ob n wt br
    · exact rows_2 κ w hW ob n wt br
    · exact rows_3 κ w hW ob n wt br
    · exact rows_4 κ w hW ob n wt br
    · exact rows_5 κ w hW ob n wt br
    · exact rows_6 κ w hW ob n wt br
    · exact rows_7 κ w hW ob n wt br
    · exact rows_8 κ w hW ob n wt br
    · exact rows_9 κ w hW ob n wt br
    · exact rows_10 κ w hW ob n wt br
    · exact rows_11 κ w hW ob n wt br
    · exact rows_12 κ w hW ob n wt br
    · exact rows_13 κ w hW ob n wt br
    · exact rows_14 κ w hW ob n wt br
    · exact rows_15 κ w hW ob n wt br
    · exact rows_16 κ w hW ob n wt br
    · exact rows_17 κ w hW ob n wt br
    · exact rows_18 κ w hW ob n wt br
    · exact rows_19 κ w hW ob n wt br
    · have h0 : ofF k = 0 := by unfold ofF; rw [if_neg (by omega), if_neg (by omega), if_neg (by omega), if_neg (by omega), if_neg (by omega)]
      have h1 := rows_else κ w hW ⟨k, ob, n, wt, br⟩ h0 (fun i h1 h2 => by show k ≠ i; omega)
      show Calls Tryz.prog 44 #[(Cl.mk k ob n wt br).agg, .int .i64 (ofF k)] w (Got κ w (rowsM k n (ofF k)))
      rw [h0]; exact h1
  · have hn : rowsM x.kind x.n kd = noRows := if_pos he
    rw [hn]
    exact rows_not κ w hW x kd (beq_eq_false_iff_ne.2 he)

end Go.Proofs.YtbodlaiakcoabaaGreatDoor
end
