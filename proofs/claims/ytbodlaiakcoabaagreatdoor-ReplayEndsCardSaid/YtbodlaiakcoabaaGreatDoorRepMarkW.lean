/-
  A mark by which an offer is taken back.
  Conditions: the state lies in memory.
  A swap, which meets an offer.
  Conditions: the state lies in memory.
  A mark, whatever it is: what mark comes to.
  Conditions: the state lies in memory, and is one that a history leaves.
-/
import Derived.Test.YtbodlaiakcoabaaGreatDoorRepMark
import Derived.Test.YtbodlaiakcoabaaGreatDoorRepMarkA
import Derived.Test.YtbodlaiakcoabaaGreatDoorRepMarkB
import Derived.Test.YtbodlaiakcoabaaGreatDoorRepMarkC
section
namespace Go.Proofs.YtbodlaiakcoabaaGreatDoor
open Go.RowKit
set_option linter.unusedSimpArgs false
set_option linter.unusedVariables false
set_option maxRecDepth 100000

set_option maxHeartbeats 16000000 in
theorem mark_gave16 (B p : Nat) (κ : Nat → Nat) (w : World) (σ : St) (m : Mem) (q : In B p κ w σ m) (i : Nat) (hil : i < 8) (h : Hh) (t : Tr) (b : Nat) (hi : m.hs[i]? = some h) (ht : σ.threads[i]? = some t) (hp : h.ptr = some b) (c : Ca) (d : Cm) (hcall : t.call = some c) (hC : CallAt κ w i b c d) (mm : Mk) (v0 : -9223372036854775808 ≤ mm.v) (v1 : mm.v ≤ 9223372036854775807)
    (j : Nat) (hj : c.op.obj = j) (tt : Tt) (htt : m.tts[j]? = some tt) (hF : Fit tt.x) (hfew : c.marks.length < 100000) (hjl2 : m.tts.length ≤ 1000) (hmay : mayM tt.x i mm.kind mm.v = true) (hbeg : beginsM c.rows (c.marks ++ [mm]) = true) (k17 : (mm.kind == 17) = false) (k13 : (mm.kind == 13) = false) (k16 : (mm.kind == 16) = true) :
    Calls Tryz.prog 37 #[.pointer (some ⟨p, 0, none⟩), .int .i64 i, mm.agg] w fun e w' => e = .returned (.bool true) ∧ BeginTo B p (some { σ with things := σ.things.set j (doM tt.x i mm.kind mm.v), threads := σ.threads.set i { t with call := some { c with marks := c.marks ++ [mm], til := σ.now, cut := decide (0 < t.breaks) } } }) w' ∧ Kept (fun b => κ b ≠ 0) w w' := by
  have hjl : j < m.tts.length := (List.getElem?_eq_some_iff.1 htt).1
  have hil2 : i < m.hs.length := (List.getElem?_eq_some_iff.1 hi).1
  have hjmax : m.tts.length ≤ 1000 := hjl2
  have hcx := call_cells hC.box
  obtain ⟨W0, hW0⟩ : ∃ W0, w.alloc (.cells #[.int .i64 mm.kind, .int .i64 mm.v] 36) = W0 := ⟨_, rfl⟩
  have hk0 : Kept (fun _ => False) w W0 := by rw [← hW0]; exact (Kept.refl _ _).alloc _
  have hn0 : W0.heap[w.heap.size]? = some (.cells #[.int .i64 mm.kind, .int .i64 mm.v] 36 (0, 0)) := by rw [← hW0]; exact heap_new1 _ _
  have k0 := Step.of0 (C := fun _ => False) hk0 q.wl
  have q0 : In B p κ W0 σ m := q.step k0 (fun _ f => f.elim)
  have hC0 := hC.step k0 (fun f => f) (fun f => f) (fun f => f)
  obtain ⟨z0, z1, z2, z3⟩ := th_cells q0.threads hi
  rw [hp] at z2
  have z2' : W0.cell? ⟨m.hg, i * 4 + 2, none⟩ = some (.pointer (some ⟨b, 0, none⟩)) := z2
  obtain ⟨a0, a1, a2, a3⟩ := q0.cells
  obtain ⟨-, o1, -, -, -, -, -, -, -, -, -⟩ := call_cells hC0.box
  rw [hj] at o1
  have m0 : W0.cell? ⟨w.heap.size, 0, none⟩ = some (.int .i64 mm.kind) := by rw [cell_at _ _ 0 _ _ hn0]; rfl
  have m1 : W0.cell? ⟨w.heap.size, 1, none⟩ = some (.int .i64 mm.v) := by rw [cell_at _ _ 1 _ _ hn0]; rfl
  have e0 : (0 : Int) ≤ (i : Int) := by omega
  have e1 : (i : Int) < (m.hs.length : Int) := by omega
  have e2 : (0 : Int) ≤ (j : Int) := by omega
  have e3 : (j : Int) < (m.tts.length : Int) := by omega
  have HQ0 := Lib.hid q0
  have HQ := Lib.hid q
  have HC0 := Lib.hid hC0
  have HN0 := Lib.hid hn0
  have HK0 := Lib.hid hk0
  have HI := Lib.hid hi
  have HT := Lib.hid ht
  have HTT := Lib.hid htt
  have HFF := Lib.hid hF
  have HFW := Lib.hid hfew
  have HP := Lib.hid hp
  have HCL := Lib.hid hcall
  have HJ := Lib.hid hj
  clear q q0 hC hC0 hcx hk0 hn0 k0 z0 z1 z2 z3 a0 a3 hi ht htt hF hfew hp hcall
  go_enter Tryz.func37, Tryz.ntmps37
  go_wp2_with fail
  go_quiet (fail)
  have hk1 : Kept (fun _ => False) W0 (W0.drewN nq) := (Kept.refl _ _).drewN _
  have q1 : In B p κ (W0.drewN nq) σ m := HQ0.out.step (Step.of0 (C := fun _ => False) hk1 HQ0.out.wl) (fun _ f => f.elim)
  have hC1 := HC0.out.step (Step.of0 (C := fun _ => False) hk1 HQ0.out.wl) (fun f => f) (fun f => f) (fun f => f)
  have hn1 := hk1.at0 HN0.out
  generalize W0.drewN nq = w1 at *
  have HK1 := Lib.hid (HK0.out.tr0 hk1)
  have hE1 : ∀ w', Kept (fun _ => False) w1 w' → InW w' tt.x tt.s := fun w' hk => ((q1.ws tt (List.mem_of_getElem? HTT.out)).lat (Lat.of0 hk)).elems
  have HD : Hid (∀ w', Kept (fun _ => False) w1 w' → Calls Tryz.prog 45 #[tt.x.agg tt.s tt.c, .int .i64 i, .agg #[.int .i64 mm.kind, .int .i64 mm.v]] w' (Told w' (doM tt.x i mm.kind mm.v) (mayM tt.x i mm.kind mm.v))) := Lib.hid (fun w' hk => do_any tt.x i mm.kind mm.v tt.s tt.c w' HFF.out (hE1 w' hk) v0 v1)
  have SF : Hid (∀ w', Kept (fun _ => False) w1 w' → (fun w' => w'.cell? ⟨m.tg, j * 15, none⟩ = some (.int .i64 tt.x.kind) ∧ w'.cell? ⟨m.tg, j * 15 + 1, none⟩ = some (.int .i64 tt.x.n) ∧ w'.cell? ⟨m.tg, j * 15 + 2, none⟩ = some (.int .i64 tt.x.owner) ∧ w'.cell? ⟨m.tg, j * 15 + 3, none⟩ = some (.int .i64 tt.x.holds) ∧ w'.cell? ⟨m.tg, j * 15 + 4, none⟩ = some (.int .i64 (tt.x.r 0)) ∧ w'.cell? ⟨m.tg, j * 15 + 5, none⟩ = some (.int .i64 (tt.x.r 1)) ∧ w'.cell? ⟨m.tg, j * 15 + 6, none⟩ = some (.int .i64 (tt.x.r 2)) ∧ w'.cell? ⟨m.tg, j * 15 + 7, none⟩ = some (.int .i64 (tt.x.r 3)) ∧ w'.cell? ⟨m.tg, j * 15 + 8, none⟩ = some (.int .i64 (tt.x.r 4)) ∧ w'.cell? ⟨m.tg, j * 15 + 9, none⟩ = some (.int .i64 (tt.x.r 5)) ∧ w'.cell? ⟨m.tg, j * 15 + 10, none⟩ = some (.int .i64 (tt.x.r 6)) ∧ w'.cell? ⟨m.tg, j * 15 + 11, none⟩ = some (.int .i64 (tt.x.r 7)) ∧ w'.cell? ⟨m.tg, j * 15 + 12, none⟩ = some (.slice tt.s tt.x.ws.length tt.c) ∧ w'.cell? ⟨m.tg, j * 15 + 13, none⟩ = some (.int .i64 tt.x.offer) ∧ w'.cell? ⟨m.tg, j * 15 + 14, none⟩ = some (.int .i64 tt.x.item) ∧ w'.cell? ⟨w.heap.size, 0, none⟩ = some (.int .i64 mm.kind) ∧ w'.cell? ⟨w.heap.size, 1, none⟩ = some (.int .i64 mm.v)) w') := Lib.hid (fun w' hk => by
    have h := th15 (q1.things.kept hk (fun f => f)) HTT.out
    have hn := hk.at0 hn1
    exact ⟨h.c0, h.c1, h.c2, h.c3, h.c4, h.c5, h.c6, h.c7, h.c8, h.c9, h.c10, h.c11, h.c12, h.c13, h.c14, by rw [cell_at _ _ 0 _ _ hn]; rfl, by rw [cell_at _ _ 1 _ _ hn]; rfl⟩)
  have HQ1 := Lib.hid q1
  have HC1 := Lib.hid hC1
  have HN1 := Lib.hid hn1
  obtain ⟨y, hy⟩ : ∃ y, doM tt.x i mm.kind mm.v = y := ⟨_, rfl⟩
  have hr := hmay
  rw [hy, hr] at HD
  have HY := Lib.hid hy
  clear hk1 q1 hC1 hn1 hE1 z2' a1 a2 o1 m0 m1 hy hr HQ0 HC0 HN0 HK0
  go_wp2_with fail
  go_region_held3 (fun w' => w'.cell? ⟨m.tg, j * 15, none⟩ = some (.int .i64 tt.x.kind) ∧ w'.cell? ⟨m.tg, j * 15 + 1, none⟩ = some (.int .i64 tt.x.n) ∧ w'.cell? ⟨m.tg, j * 15 + 2, none⟩ = some (.int .i64 tt.x.owner) ∧ w'.cell? ⟨m.tg, j * 15 + 3, none⟩ = some (.int .i64 tt.x.holds) ∧ w'.cell? ⟨m.tg, j * 15 + 4, none⟩ = some (.int .i64 (tt.x.r 0)) ∧ w'.cell? ⟨m.tg, j * 15 + 5, none⟩ = some (.int .i64 (tt.x.r 1)) ∧ w'.cell? ⟨m.tg, j * 15 + 6, none⟩ = some (.int .i64 (tt.x.r 2)) ∧ w'.cell? ⟨m.tg, j * 15 + 7, none⟩ = some (.int .i64 (tt.x.r 3)) ∧ w'.cell? ⟨m.tg, j * 15 + 8, none⟩ = some (.int .i64 (tt.x.r 4)) ∧ w'.cell? ⟨m.tg, j * 15 + 9, none⟩ = some (.int .i64 (tt.x.r 5)) ∧ w'.cell? ⟨m.tg, j * 15 + 10, none⟩ = some (.int .i64 (tt.x.r 6)) ∧ w'.cell? ⟨m.tg, j * 15 + 11, none⟩ = some (.int .i64 (tt.x.r 7)) ∧ w'.cell? ⟨m.tg, j * 15 + 12, none⟩ = some (.slice tt.s tt.x.ws.length tt.c) ∧ w'.cell? ⟨m.tg, j * 15 + 13, none⟩ = some (.int .i64 tt.x.offer) ∧ w'.cell? ⟨m.tg, j * 15 + 14, none⟩ = some (.int .i64 tt.x.item) ∧ w'.cell? ⟨w.heap.size, 0, none⟩ = some (.int .i64 mm.kind) ∧ w'.cell? ⟨w.heap.size, 1, none⟩ = some (.int .i64 mm.v)) (first | exact SF.out _ (Kept.refl _ _) | exact SF.out _ (Kept.refl _ _).drew | exact SF.out _ ((Kept.refl _ _).drew.alloc _) | exact SF.out _ H6 | exact SF.out _ (H6.alloc _) | exact SF.out _ hAW) (first | (go_at_call 45; refine (HD.out _ (by first | exact (Kept.refl _ _).drew | exact (Kept.refl _ _).drew.alloc _)).mono ?_; rintro e w6 ⟨s6, c6, rfl, hN6, hk6⟩; first | (have hz : BoxT w6 w1.heap.size ⟨0, 0, 0, 0, fun _ => 0, [], 0, 0⟩ none 0 := (box_fresh w1.drew).kept0 hk6; have H6 : Kept (fun _ => False) w1 w6 := ((Kept.refl (fun _ => False) w1).drew.alloc _).tr0 hk6; obtain ⟨_, _, _, _, _, _, _, _, _, _, _, _, _, _, _⟩ := hz.cells; obtain ⟨_, _, _, _, _, _, _, _, _, _, _, _, _, _, _⟩ := hz.frees; obtain ⟨WS, hWS, hBS, hKS⟩ := hz.put y s6 c6; have hAW : Kept (fun _ => False) w1 WS := (kept_past (w := w1.drew) hk6 hKS).drewL; have hyb : κ w1.heap.size = 0 := Classical.byContradiction (fun e => Nat.lt_irrefl _ (HQ1.out.wl.lt _ e)); have hEW : ElemsQ (fun g => κ g = 0) WS s6 2 Wt.cells y.ws := new_q2 (w0 := w1.drew) hN6 (HQ1.out.wl.kept0 (Kept.refl _ _).drew) hKS; clear hz hKS hk6 hN6) | (have H6 : Kept (fun _ => False) w1 w6 := Kept.drewL hk6; obtain ⟨WS, hWS⟩ : ∃ WS, w6.alloc (.cells (y.box s6 c6) 42) = WS := ⟨_, rfl⟩; have hAW : Kept (fun _ => False) w1 WS := (by rw [← hWS]; exact (Kept.drewL hk6).alloc _); have hBS : BoxT WS w6.heap.size y s6 c6 := (by rw [← hWS]; exact BoxT.new w6 y s6 c6); have hyb : κ w6.heap.size = 0 := Classical.byContradiction (fun e => by have := HQ1.out.wl.lt _ e; have := H6.size; omega); have hEW : ElemsQ (fun g => κ g = 0) WS s6 2 Wt.cells y.ws := (by rw [← hWS]; exact new_q3 (w0 := w1.drew) hN6 (HQ1.out.wl.kept0 (Kept.refl _ _).drew)); clear hk6 hN6)))
  all_goals (have kW := Step.of0 (C := fun _ => False) hAW HQ1.out.wl)
  all_goals (have HG := Lib.hid (goesOn_any κ WS i b c d (HC1.out.step kW (fun f => f) (fun f => f) (fun f => f)) kW.wl HFW.out mm))
  all_goals (have HKW := Lib.hid kW)
  all_goals (have HAW := Lib.hid hAW)
  all_goals (have HBS := Lib.hid hBS)
  all_goals (have HYB := Lib.hid hyb)
  all_goals (have HEW := Lib.hid hEW)
  all_goals clear kW hAW hBS hyb hEW
  all_goals go_wp2_with fail
  all_goals refine HG.out.mono ?_
  all_goals rintro e w7 ⟨rfl, κ7, hs7, hc7⟩
  all_goals rw [hbeg] at hc7 ⊢
  all_goals obtain ⟨d7, hc7⟩ := hc7 rfl
  all_goals (have q7 := (HQ1.out.step HKW.out (fun _ f => f.elim)).note i hs7 (fun _ e => e) HI.out HT.out HP.out _ ⟨d7, hc7⟩)
  all_goals (have hb7 : BoxT w7 _ y s6 c6 := hs7.kept.at_ HBS.out (by rw [HYB.out]; omega))
  all_goals (have hyb7 := (hs7.same _ (lt_of_heap HBS.out)).trans HYB.out)
  all_goals (have hnc : κ w.heap.size = 0 := Classical.byContradiction (fun e => by have := HQ.out.wl.lt _ e; omega))
  all_goals (have hn7 := hs7.kept.at_ (HAW.out.at0 HN1.out) (by rw [hnc]; omega))
  all_goals (have hnc7 := (hs7.same w.heap.size (lt_of_heap (HAW.out.at0 HN1.out))).trans hnc)
  all_goals (have hE7 := HEW.out.lat (hs7.lat (by omega)))
  all_goals (have hK7 : Kept (fun b => κ b ≠ 0) w w7 := ((HK1.out.tr0 HAW.out).mono (fun _ _ f => f.elim)).trans hs7.kept (fun q _ e => by rcases e with e | e | e <;> rw [e] <;> omega))
  all_goals (have m0 : w7.cell? ⟨w.heap.size, 0, none⟩ = some (.int .i64 mm.kind) := by rw [cell_at _ _ 0 _ _ hn7]; rfl)
  all_goals (have m1 : w7.cell? ⟨w.heap.size, 1, none⟩ = some (.int .i64 mm.v) := by rw [cell_at _ _ 1 _ _ hn7]; rfl)
  all_goals (have HQ7 := Lib.hid q7)
  all_goals (have HB7 := Lib.hid hb7)
  all_goals (have HC7 := Lib.hid hc7)
  all_goals (have HY7 := Lib.hid hyb7)
  all_goals (have HE7 := Lib.hid hE7)
  all_goals (have HK7 := Lib.hid hK7)
  all_goals (have HS7 := Lib.hid hs7)
  all_goals clear q7 hb7 hc7 hyb7 hE7 hK7 hs7 hn7 hnc hnc7
  all_goals (have HCZ : Hid (m.tg < w.heap.size → κ m.tg = 2) := Lib.hid (fun _ => HQ.out.tcol))
  all_goals (have HSAME : Hid (∀ g, g < w.heap.size → κ7 g = κ g) := Lib.hid (fun g hg => (HS7.out.same g (Nat.lt_of_lt_of_le hg (HK1.out.tr0 HAW.out).size))))
  all_goals (have p0 := CallAt.put (c' := { c with marks := c.marks ++ [mm], til := σ.now }) (HC7.out) (HS7.out.wl) 9 (.int .i64 σ.now) rfl rfl rfl)
  all_goals (have p1 := CallAt.put (c' := { c with marks := c.marks ++ [mm], til := σ.now, cut := decide (0 < t.breaks) }) (p0.1) (p0.2.wl) 10 (.bool (decide (0 < t.breaks))) rfl rfl rfl)
  all_goals (have kz := ((p0.2.trans p1.2).trans (Step.of0 (C := fun q => q = 5 + 2 * i) (Kept.refl _ _).drew p1.2.wl)))
  all_goals (have qz := HQ7.out.note i kz (fun _ e => .inr (.inl e)) HI.out (List.getElem?_set_self (List.getElem?_eq_some_iff.1 HT.out).1) HP.out _ ⟨_, (p1.1.step (Step.of0 (C := fun _ => False) (Kept.refl _ _).drew p1.2.wl) (fun f => f) (fun f => f) (fun f => f))⟩)
  all_goals (have HQZ := Lib.hid qz)
  all_goals (have HBZ : Hid (BoxT ((w7.setCell ⟨b, 9, none⟩ (.int .i64 σ.now)).setCell ⟨b, 10, none⟩ (.bool (decide (0 < t.breaks)))).drew _ y s6 c6) := Lib.hid (kz.kept.at_ HB7.out (by rw [HY7.out]; omega)))
  all_goals (have HEZ := Lib.hid (HE7.out.lat (kz.lat (by omega))))
  all_goals (have HKZ := Lib.hid (HK7.out.trans kz.kept (fun g hg e => by have e2 : κ7 g = 5 + 2 * i := e; rw [HSAME.out g hg] at e2; rw [e2]; omega)))
  all_goals (have cb := call_cells HC7.out.box)
  all_goals obtain ⟨-, -, -, -, -, -, -, -, cb8, cb9, cb10⟩ := cb
  all_goals (have fb8 := call_free HC7.out.box 8)
  all_goals (have fb9 := call_free HC7.out.box 9)
  all_goals (have fb10 := call_free HC7.out.box 10)
  all_goals (have pB := CallAt.put (c' := { c with marks := c.marks ++ [mm], cut := decide (0 < t.breaks) }) (HC7.out) (HS7.out.wl) 10 (.bool (decide (0 < t.breaks))) rfl rfl rfl)
  all_goals (have KZ1 := p0.2)
  all_goals (have KZ2 := pB.2)
  all_goals (have KZ3 := p0.2.trans p1.2)
  all_goals (have KZ4 := pB.2.trans (pB.1.put (c' := { c with marks := c.marks ++ [mm], til := σ.now, cut := decide (0 < t.breaks) }) pB.2.wl 9 (.int .i64 σ.now) rfl rfl rfl).2)
  all_goals (have KZ5 := KZ1.trans (Step.of0 (C := fun q => q = 5 + 2 * i) (Kept.refl _ _).drew KZ1.wl))
  all_goals (have KZ6 := KZ2.trans (Step.of0 (C := fun q => q = 5 + 2 * i) (Kept.refl _ _).drew KZ2.wl))
  all_goals (have KZ7 := KZ3.trans (Step.of0 (C := fun q => q = 5 + 2 * i) (Kept.refl _ _).drew KZ3.wl))
  all_goals (have KZ8 := KZ4.trans (Step.of0 (C := fun q => q = 5 + 2 * i) (Kept.refl _ _).drew KZ4.wl))
  all_goals clear pB kz qz p0 p1
  all_goals (have SG : Hid (∀ w', Step (fun q => q = 5 + 2 * i) κ7 κ7 w7 w' → w'.cell? ⟨p, 3, none⟩ = some (.int .i64 σ.now) ∧ w'.cell? ⟨m.hg, i * 4 + 3, none⟩ = some (.int .i64 t.breaks)) := Lib.hid (fun w' hk => by
      have hb := hk.kept.at_ HQ7.out.box (by rw [HQ7.out.pcol]; omega)
      have ht := (th_cells (HQ7.out.threads.kept hk.kept (by rw [HQ7.out.hcol]; omega)) HI.out).c3
      rw [(HQ.out.th i h t HI.out HT.out).breaks] at ht
      exact ⟨by rw [cell_at _ _ 3 _ _ hb]; rfl, ht⟩))
  all_goals go_wp2_with fail
  all_goals go_region_held3 (fun w' => w'.cell? ⟨p, 3, none⟩ = some (.int .i64 σ.now) ∧ w'.cell? ⟨m.hg, i * 4 + 3, none⟩ = some (.int .i64 t.breaks)) (first | exact SG.out _ (Step.refl _ HS7.out.wl) | exact SG.out _ (Step.of0 (Kept.refl _ _).drew HS7.out.wl) | exact SG.out _ KZ1 | exact SG.out _ KZ2 | exact SG.out _ KZ3 | exact SG.out _ KZ4 | exact SG.out _ KZ5 | exact SG.out _ KZ6 | exact SG.out _ KZ7 | exact SG.out _ KZ8) (first | fail)
  all_goals go_wp2_with (first | (refine wpList_loadB (by rfl) (by rfl) (by rfl) HBZ.out ?_) | (refine wpList_store15 (by rfl) (by rfl) (by rfl) (by rfl) HQZ.out.things HTT.out ?_; intro W9 hR9 hK9 hW9))
  all_goals (have q9 := HQZ.out.thing j y s6 c6 hR9 hK9 (hW9 _ (by rw [HQZ.out.tcol]; omega) HQZ.out.wl) HEZ.out)
  all_goals (have hkf : Kept (fun b => κ b ≠ 0) w W9 := HKZ.out.trans hK9 (fun g hg e => by subst e; rw [HCZ.out hg]; omega))
  all_goals simp only [List.set_set] at q9
  all_goals go_ret
  all_goals rw [HY.out]
  all_goals exact ⟨rfl, fun σ' e => by cases e; exact ⟨_, _, q9⟩, hkf⟩

end Go.Proofs.YtbodlaiakcoabaaGreatDoor
end
section
namespace Go.Proofs.YtbodlaiakcoabaaGreatDoor
open Go.RowKit
set_option linter.unusedSimpArgs false
set_option linter.unusedVariables false
set_option maxRecDepth 100000

set_option maxHeartbeats 16000000 in
theorem mark_swap (B p : Nat) (κ : Nat → Nat) (w : World) (σ : St) (m : Mem) (q : In B p κ w σ m) (i : Nat) (hil : i < 8) (h : Hh) (t : Tr) (b : Nat) (hi : m.hs[i]? = some h) (ht : σ.threads[i]? = some t) (hp : h.ptr = some b) (c : Ca) (d : Cm) (hcall : t.call = some c) (hC : CallAt κ w i b c d) (mm : Mk) (v0 : -9223372036854775808 ≤ mm.v) (v1 : mm.v ≤ 9223372036854775807)
    (j : Nat) (hj : c.op.obj = j) (tt : Tt) (htt : m.tts[j]? = some tt) (hF : Fit tt.x) (hfew : c.marks.length < 100000) (hjl2 : m.tts.length ≤ 1000) (hmay : mayM tt.x i mm.kind mm.v = true) (hbeg : beginsM c.rows (c.marks ++ [mm]) = true) (k17 : (mm.kind == 17) = false) (k13 : (mm.kind == 13) = false) (k16 : (mm.kind == 16) = false) (k9 : (mm.kind == 9) = false) (k14 : (mm.kind == 14) = true) (o : Nat) (ho : tt.x.offer = (o : Int)) (hoi : o ≠ i) (hol : o < m.hs.length) (h2 : Hh) (t2 : Tr) (b2 : Nat) (c2 : Ca) (hi2 : m.hs[o]? = some h2) (ht2 : σ.threads[o]? = some t2) (hp2 : h2.ptr = some b2) (hcl2 : t2.call = some c2) (hfw2 : c2.marks.length < 100000) :
    Calls Tryz.prog 37 #[.pointer (some ⟨p, 0, none⟩), .int .i64 i, mm.agg] w fun e w' => e = .returned (.bool true) ∧ BeginTo B p (some { σ with things := σ.things.set j (doM tt.x i mm.kind mm.v), threads := (σ.threads.set i { t with call := some { c with marks := c.marks ++ [mm], got := tt.x.item } }).set o { t2 with call := some { c2 with marks := c2.marks ++ [⟨0, 0⟩], got := c.op.n } } }) w' ∧ Kept (fun b => κ b ≠ 0) w w' := by
  have hjl : j < m.tts.length := (List.getElem?_eq_some_iff.1 htt).1
  have hil2 : i < m.hs.length := (List.getElem?_eq_some_iff.1 hi).1
  have hjmax : m.tts.length ≤ 1000 := hjl2
  have hcx := call_cells hC.box
  have HO := Lib.hid ho
  have HI2 := Lib.hid hi2
  have HT2 := Lib.hid ht2
  have HP2 := Lib.hid hp2
  have HCL2 := Lib.hid hcl2
  have HFW2 := Lib.hid hfw2
  have e4 : (0 : Int) ≤ (o : Int) := by omega
  have e5 : (o : Int) < (m.hs.length : Int) := by omega
  clear ho hi2 ht2 hp2 hcl2 hfw2
  obtain ⟨W0, hW0⟩ : ∃ W0, w.alloc (.cells #[.int .i64 mm.kind, .int .i64 mm.v] 36) = W0 := ⟨_, rfl⟩
  have hk0 : Kept (fun _ => False) w W0 := by rw [← hW0]; exact (Kept.refl _ _).alloc _
  have hn0 : W0.heap[w.heap.size]? = some (.cells #[.int .i64 mm.kind, .int .i64 mm.v] 36 (0, 0)) := by rw [← hW0]; exact heap_new1 _ _
  have k0 := Step.of0 (C := fun _ => False) hk0 q.wl
  have q0 : In B p κ W0 σ m := q.step k0 (fun _ f => f.elim)
  have hC0 := hC.step k0 (fun f => f) (fun f => f) (fun f => f)
  obtain ⟨z0, z1, z2, z3⟩ := th_cells q0.threads hi
  rw [hp] at z2
  have z2' : W0.cell? ⟨m.hg, i * 4 + 2, none⟩ = some (.pointer (some ⟨b, 0, none⟩)) := z2
  obtain ⟨a0, a1, a2, a3⟩ := q0.cells
  obtain ⟨-, o1, -, -, -, -, -, -, -, -, -⟩ := call_cells hC0.box
  rw [hj] at o1
  have m0 : W0.cell? ⟨w.heap.size, 0, none⟩ = some (.int .i64 mm.kind) := by rw [cell_at _ _ 0 _ _ hn0]; rfl
  have m1 : W0.cell? ⟨w.heap.size, 1, none⟩ = some (.int .i64 mm.v) := by rw [cell_at _ _ 1 _ _ hn0]; rfl
  have e0 : (0 : Int) ≤ (i : Int) := by omega
  have e1 : (i : Int) < (m.hs.length : Int) := by omega
  have e2 : (0 : Int) ≤ (j : Int) := by omega
  have e3 : (j : Int) < (m.tts.length : Int) := by omega
  have HQ0 := Lib.hid q0
  have HQ := Lib.hid q
  have HC0 := Lib.hid hC0
  have HN0 := Lib.hid hn0
  have HK0 := Lib.hid hk0
  have HI := Lib.hid hi
  have HT := Lib.hid ht
  have HTT := Lib.hid htt
  have HFF := Lib.hid hF
  have HFW := Lib.hid hfew
  have HP := Lib.hid hp
  have HCL := Lib.hid hcall
  have HJ := Lib.hid hj
  clear q q0 hC hC0 hcx hk0 hn0 k0 z0 z1 z2 z3 a0 a3 hi ht htt hF hfew hp hcall
  go_enter Tryz.func37, Tryz.ntmps37
  go_wp2_with fail
  go_quiet (fail)
  have hk1 : Kept (fun _ => False) W0 (W0.drewN nq) := (Kept.refl _ _).drewN _
  have q1 : In B p κ (W0.drewN nq) σ m := HQ0.out.step (Step.of0 (C := fun _ => False) hk1 HQ0.out.wl) (fun _ f => f.elim)
  have hC1 := HC0.out.step (Step.of0 (C := fun _ => False) hk1 HQ0.out.wl) (fun f => f) (fun f => f) (fun f => f)
  have hn1 := hk1.at0 HN0.out
  generalize W0.drewN nq = w1 at *
  have HK1 := Lib.hid (HK0.out.tr0 hk1)
  have hE1 : ∀ w', Kept (fun _ => False) w1 w' → InW w' tt.x tt.s := fun w' hk => ((q1.ws tt (List.mem_of_getElem? HTT.out)).lat (Lat.of0 hk)).elems
  have HD : Hid (∀ w', Kept (fun _ => False) w1 w' → Calls Tryz.prog 45 #[tt.x.agg tt.s tt.c, .int .i64 i, .agg #[.int .i64 mm.kind, .int .i64 mm.v]] w' (Told w' (doM tt.x i mm.kind mm.v) (mayM tt.x i mm.kind mm.v))) := Lib.hid (fun w' hk => do_any tt.x i mm.kind mm.v tt.s tt.c w' HFF.out (hE1 w' hk) v0 v1)
  have SF : Hid (∀ w', Kept (fun _ => False) w1 w' → (fun w' => w'.cell? ⟨m.tg, j * 15, none⟩ = some (.int .i64 tt.x.kind) ∧ w'.cell? ⟨m.tg, j * 15 + 1, none⟩ = some (.int .i64 tt.x.n) ∧ w'.cell? ⟨m.tg, j * 15 + 2, none⟩ = some (.int .i64 tt.x.owner) ∧ w'.cell? ⟨m.tg, j * 15 + 3, none⟩ = some (.int .i64 tt.x.holds) ∧ w'.cell? ⟨m.tg, j * 15 + 4, none⟩ = some (.int .i64 (tt.x.r 0)) ∧ w'.cell? ⟨m.tg, j * 15 + 5, none⟩ = some (.int .i64 (tt.x.r 1)) ∧ w'.cell? ⟨m.tg, j * 15 + 6, none⟩ = some (.int .i64 (tt.x.r 2)) ∧ w'.cell? ⟨m.tg, j * 15 + 7, none⟩ = some (.int .i64 (tt.x.r 3)) ∧ w'.cell? ⟨m.tg, j * 15 + 8, none⟩ = some (.int .i64 (tt.x.r 4)) ∧ w'.cell? ⟨m.tg, j * 15 + 9, none⟩ = some (.int .i64 (tt.x.r 5)) ∧ w'.cell? ⟨m.tg, j * 15 + 10, none⟩ = some (.int .i64 (tt.x.r 6)) ∧ w'.cell? ⟨m.tg, j * 15 + 11, none⟩ = some (.int .i64 (tt.x.r 7)) ∧ w'.cell? ⟨m.tg, j * 15 + 12, none⟩ = some (.slice tt.s tt.x.ws.length tt.c) ∧ w'.cell? ⟨m.tg, j * 15 + 13, none⟩ = some (.int .i64 tt.x.offer) ∧ w'.cell? ⟨m.tg, j * 15 + 14, none⟩ = some (.int .i64 tt.x.item) ∧ w'.cell? ⟨w.heap.size, 0, none⟩ = some (.int .i64 mm.kind) ∧ w'.cell? ⟨w.heap.size, 1, none⟩ = some (.int .i64 mm.v)) w') := Lib.hid (fun w' hk => by
    have h := th15 (q1.things.kept hk (fun f => f)) HTT.out
    have hn := hk.at0 hn1
    exact ⟨h.c0, h.c1, h.c2, h.c3, h.c4, h.c5, h.c6, h.c7, h.c8, h.c9, h.c10, h.c11, h.c12, h.c13, h.c14, by rw [cell_at _ _ 0 _ _ hn]; rfl, by rw [cell_at _ _ 1 _ _ hn]; rfl⟩)
  have HQ1 := Lib.hid q1
  have HC1 := Lib.hid hC1
  have HN1 := Lib.hid hn1
  obtain ⟨y, hy⟩ : ∃ y, doM tt.x i mm.kind mm.v = y := ⟨_, rfl⟩
  have hr := hmay
  rw [hy, hr] at HD
  have HY := Lib.hid hy
  clear hk1 q1 hC1 hn1 hE1 z2' a1 a2 o1 m0 m1 hy hr HQ0 HC0 HN0 HK0
  go_wp2_with fail
  go_region_held3 (fun w' => w'.cell? ⟨m.tg, j * 15, none⟩ = some (.int .i64 tt.x.kind) ∧ w'.cell? ⟨m.tg, j * 15 + 1, none⟩ = some (.int .i64 tt.x.n) ∧ w'.cell? ⟨m.tg, j * 15 + 2, none⟩ = some (.int .i64 tt.x.owner) ∧ w'.cell? ⟨m.tg, j * 15 + 3, none⟩ = some (.int .i64 tt.x.holds) ∧ w'.cell? ⟨m.tg, j * 15 + 4, none⟩ = some (.int .i64 (tt.x.r 0)) ∧ w'.cell? ⟨m.tg, j * 15 + 5, none⟩ = some (.int .i64 (tt.x.r 1)) ∧ w'.cell? ⟨m.tg, j * 15 + 6, none⟩ = some (.int .i64 (tt.x.r 2)) ∧ w'.cell? ⟨m.tg, j * 15 + 7, none⟩ = some (.int .i64 (tt.x.r 3)) ∧ w'.cell? ⟨m.tg, j * 15 + 8, none⟩ = some (.int .i64 (tt.x.r 4)) ∧ w'.cell? ⟨m.tg, j * 15 + 9, none⟩ = some (.int .i64 (tt.x.r 5)) ∧ w'.cell? ⟨m.tg, j * 15 + 10, none⟩ = some (.int .i64 (tt.x.r 6)) ∧ w'.cell? ⟨m.tg, j * 15 + 11, none⟩ = some (.int .i64 (tt.x.r 7)) ∧ w'.cell? ⟨m.tg, j * 15 + 12, none⟩ = some (.slice tt.s tt.x.ws.length tt.c) ∧ w'.cell? ⟨m.tg, j * 15 + 13, none⟩ = some (.int .i64 tt.x.offer) ∧ w'.cell? ⟨m.tg, j * 15 + 14, none⟩ = some (.int .i64 tt.x.item) ∧ w'.cell? ⟨w.heap.size, 0, none⟩ = some (.int .i64 mm.kind) ∧ w'.cell? ⟨w.heap.size, 1, none⟩ = some (.int .i64 mm.v)) (first | exact SF.out _ (Kept.refl _ _) | exact SF.out _ (Kept.refl _ _).drew | exact SF.out _ ((Kept.refl _ _).drew.alloc _) | exact SF.out _ H6 | exact SF.out _ (H6.alloc _) | exact SF.out _ hAW) (first | (go_at_call 45; refine (HD.out _ (by first | exact (Kept.refl _ _).drew | exact (Kept.refl _ _).drew.alloc _)).mono ?_; rintro e w6 ⟨s6, c6, rfl, hN6, hk6⟩; first | (have hz : BoxT w6 w1.heap.size ⟨0, 0, 0, 0, fun _ => 0, [], 0, 0⟩ none 0 := (box_fresh w1.drew).kept0 hk6; have H6 : Kept (fun _ => False) w1 w6 := ((Kept.refl (fun _ => False) w1).drew.alloc _).tr0 hk6; obtain ⟨_, _, _, _, _, _, _, _, _, _, _, _, _, _, _⟩ := hz.cells; obtain ⟨_, _, _, _, _, _, _, _, _, _, _, _, _, _, _⟩ := hz.frees; obtain ⟨WS, hWS, hBS, hKS⟩ := hz.put y s6 c6; have hAW : Kept (fun _ => False) w1 WS := (kept_past (w := w1.drew) hk6 hKS).drewL; have hyb : κ w1.heap.size = 0 := Classical.byContradiction (fun e => Nat.lt_irrefl _ (HQ1.out.wl.lt _ e)); have hEW : ElemsQ (fun g => κ g = 0) WS s6 2 Wt.cells y.ws := new_q2 (w0 := w1.drew) hN6 (HQ1.out.wl.kept0 (Kept.refl _ _).drew) hKS; clear hz hKS hk6 hN6) | (have H6 : Kept (fun _ => False) w1 w6 := Kept.drewL hk6; obtain ⟨WS, hWS⟩ : ∃ WS, w6.alloc (.cells (y.box s6 c6) 42) = WS := ⟨_, rfl⟩; have hAW : Kept (fun _ => False) w1 WS := (by rw [← hWS]; exact (Kept.drewL hk6).alloc _); have hBS : BoxT WS w6.heap.size y s6 c6 := (by rw [← hWS]; exact BoxT.new w6 y s6 c6); have hyb : κ w6.heap.size = 0 := Classical.byContradiction (fun e => by have := HQ1.out.wl.lt _ e; have := H6.size; omega); have hEW : ElemsQ (fun g => κ g = 0) WS s6 2 Wt.cells y.ws := (by rw [← hWS]; exact new_q3 (w0 := w1.drew) hN6 (HQ1.out.wl.kept0 (Kept.refl _ _).drew)); clear hk6 hN6)))
  all_goals (have kW := Step.of0 (C := fun _ => False) hAW HQ1.out.wl)
  all_goals (have HG := Lib.hid (goesOn_any κ WS i b c d (HC1.out.step kW (fun f => f) (fun f => f) (fun f => f)) kW.wl HFW.out mm))
  all_goals (have HKW := Lib.hid kW)
  all_goals (have HAW := Lib.hid hAW)
  all_goals (have HBS := Lib.hid hBS)
  all_goals (have HYB := Lib.hid hyb)
  all_goals (have HEW := Lib.hid hEW)
  all_goals clear kW hAW hBS hyb hEW
  all_goals go_wp2_with fail
  all_goals refine HG.out.mono ?_
  all_goals rintro e w7 ⟨rfl, κ7, hs7, hc7⟩
  all_goals rw [hbeg] at hc7 ⊢
  all_goals obtain ⟨d7, hc7⟩ := hc7 rfl
  all_goals (have q7 := (HQ1.out.step HKW.out (fun _ f => f.elim)).note i hs7 (fun _ e => e) HI.out HT.out HP.out _ ⟨d7, hc7⟩)
  all_goals (have hb7 : BoxT w7 _ y s6 c6 := hs7.kept.at_ HBS.out (by rw [HYB.out]; omega))
  all_goals (have hyb7 := (hs7.same _ (lt_of_heap HBS.out)).trans HYB.out)
  all_goals (have hnc : κ w.heap.size = 0 := Classical.byContradiction (fun e => by have := HQ.out.wl.lt _ e; omega))
  all_goals (have hn7 := hs7.kept.at_ (HAW.out.at0 HN1.out) (by rw [hnc]; omega))
  all_goals (have hnc7 := (hs7.same w.heap.size (lt_of_heap (HAW.out.at0 HN1.out))).trans hnc)
  all_goals (have hE7 := HEW.out.lat (hs7.lat (by omega)))
  all_goals (have hK7 : Kept (fun b => κ b ≠ 0) w w7 := ((HK1.out.tr0 HAW.out).mono (fun _ _ f => f.elim)).trans hs7.kept (fun q _ e => by rcases e with e | e | e <;> rw [e] <;> omega))
  all_goals (have m0 : w7.cell? ⟨w.heap.size, 0, none⟩ = some (.int .i64 mm.kind) := by rw [cell_at _ _ 0 _ _ hn7]; rfl)
  all_goals (have m1 : w7.cell? ⟨w.heap.size, 1, none⟩ = some (.int .i64 mm.v) := by rw [cell_at _ _ 1 _ _ hn7]; rfl)
  all_goals (have HQ7 := Lib.hid q7)
  all_goals (have HB7 := Lib.hid hb7)
  all_goals (have HC7 := Lib.hid hc7)
  all_goals (have HY7 := Lib.hid hyb7)
  all_goals (have HE7 := Lib.hid hE7)
  all_goals (have HK7 := Lib.hid hK7)
  all_goals (have HS7 := Lib.hid hs7)
  all_goals clear q7 hb7 hc7 hyb7 hE7 hK7 hs7 hn7 hnc hnc7
  all_goals (have HCZ : Hid (m.tg < w.heap.size → κ m.tg = 2) := Lib.hid (fun _ => HQ.out.tcol))
  all_goals (have p0 := CallAt.put (c' := { c with marks := c.marks ++ [mm], got := tt.x.item }) (HC7.out) (HS7.out.wl) 8 (.int .i64 tt.x.item) rfl rfl rfl)
  all_goals (have q8 := HQ7.out.note i p0.2 (fun _ e => .inr (.inl e)) HI.out (List.getElem?_set_self (List.getElem?_eq_some_iff.1 HT.out).1) HP.out _ ⟨_, p0.1⟩)
  all_goals simp only [List.set_set] at q8
  all_goals (have ht8 : ((σ.threads.set i { t with call := some { c with marks := c.marks ++ [mm], got := tt.x.item } })[o]?) = some t2 := by rw [List.getElem?_set_ne (Ne.symm hoi)]; exact HT2.out)
  all_goals (have hT8 := (q8.th o h2 t2 HI2.out ht8).call)
  all_goals rw [HP2.out, HCL2.out] at hT8
  all_goals obtain ⟨d8, hC8⟩ := hT8
  all_goals (have cb := call_cells HC7.out.box)
  all_goals obtain ⟨-, -, -, -, -, -, -, -, cb8, cb9, cb10⟩ := cb
  all_goals (have fb8 := call_free HC7.out.box 8)
  all_goals (have i14 := (th15 HQ7.out.things HTT.out).c14)
  all_goals (have SG : Hid (∀ κ' w', Step (fun q => q = 5 + 2 * o ∨ q = 6 + 2 * o) κ7 κ' (w7.setCell ⟨b, 8, none⟩ (.int .i64 tt.x.item)) w' → w'.cell? ⟨p, 2, none⟩ = some (.slice (some ⟨m.hg, 0, none⟩) m.hs.length m.hc) ∧ w'.cell? ⟨m.tg, j * 15 + 13, none⟩ = some (.int .i64 (o : Int)) ∧ w'.cell? ⟨m.hg, o * 4 + 2, none⟩ = some (.pointer (some ⟨b2, 0, none⟩)) ∧ w'.cell? ⟨b, 2, none⟩ = some (.int .i64 c.op.n)) := Lib.hid (fun κ' w' hk => by
      have hb := hk.kept.at_ q8.box (by rw [q8.pcol]; omega)
      have h3 := (th15 (q8.things.kept hk.kept (by rw [q8.tcol]; omega)) HTT.out).c13
      rw [HO.out] at h3
      have h4 := (th_cells (q8.threads.kept hk.kept (by rw [q8.hcol]; omega)) HI2.out).c2
      rw [HP2.out] at h4
      exact ⟨by rw [cell_at _ _ 2 _ _ hb]; rfl, h3, h4, (call_cells (hk.kept.at_ p0.1.box (by rw [p0.1.col]; omega))).c2⟩))
  all_goals (have HM : Hid (∀ w', Kept (fun _ => False) (w7.setCell ⟨b, 8, none⟩ (.int .i64 tt.x.item)) w' → Calls Tryz.prog 47 #[.pointer (some ⟨b2, 0, none⟩), .int .i64 c.op.n] w' fun e w9 => e = .returned (.tuple #[]) ∧ MeetTo κ7 w' o b2 c2 c.op.n w9) := Lib.hid (fun w' hk =>
      meet_any κ7 w' o b2 c2 d8 (hC8.step (Step.of0 (C := fun _ => False) hk p0.2.wl) (fun f => f) (fun f => f) (fun f => f)) (p0.2.wl.kept0 hk) HFW2.out c.op.n))
  all_goals (have HQ8 := Lib.hid q8)
  all_goals (have HB8 : Hid (BoxT (w7.setCell ⟨b, 8, none⟩ (.int .i64 tt.x.item)) _ y s6 c6) := Lib.hid (p0.2.kept.at_ HB7.out (by rw [HY7.out]; omega)))
  all_goals (have HE8 := Lib.hid (HE7.out.lat (p0.2.lat (by omega))))
  all_goals (have HSAME : Hid (∀ g, g < w.heap.size → κ7 g = κ g) := Lib.hid (fun g hg => (HS7.out.same g (Nat.lt_of_lt_of_le hg (HK1.out.tr0 HAW.out).size))))
  all_goals (have HK8 := Lib.hid (HK7.out.trans p0.2.kept (fun g hg e => by have e2 : κ7 g = 5 + 2 * i := e; rw [HSAME.out g hg] at e2; rw [e2]; omega)))
  all_goals (have HP8 := Lib.hid p0.2)
  all_goals (have HT8 := Lib.hid ht8)
  all_goals obtain ⟨y0, y1, y2, y3⟩ := SG.out _ _ (Step.refl _ HP8.out.wl)
  all_goals clear q8 ht8 hC8 p0
  all_goals go_wp2_with fail
  all_goals go_region_held3 (fun w' => w'.cell? ⟨p, 2, none⟩ = some (.slice (some ⟨m.hg, 0, none⟩) m.hs.length m.hc) ∧ w'.cell? ⟨m.tg, j * 15 + 13, none⟩ = some (.int .i64 (o : Int)) ∧ w'.cell? ⟨m.hg, o * 4 + 2, none⟩ = some (.pointer (some ⟨b2, 0, none⟩)) ∧ w'.cell? ⟨b, 2, none⟩ = some (.int .i64 c.op.n)) (first | exact SG.out _ _ (Step.refl _ HP8.out.wl) | exact SG.out _ _ (Step.of0 (Kept.refl _ _).drew HP8.out.wl) | exact SG.out _ _ HS9) (first | (go_at_call 47; refine (HM.out _ (Kept.refl _ _).drew).mono ?_; rintro e w9 ⟨rfl, κ9, d9, hC9, hs9⟩; have HS9 := (Step.of0 (C := fun q => q = 5 + 2 * o ∨ q = 6 + 2 * o) (Kept.refl _ (w7.setCell ⟨b, 8, none⟩ (.int .i64 tt.x.item))).drew HP8.out.wl).trans hs9; have HC9 := Lib.hid hC9; clear hC9 hs9))
  all_goals (have qz := HQ8.out.note o HS9 (fun _ e => .inr e) HI2.out HT8.out HP2.out _ ⟨_, HC9.out⟩)
  all_goals (have HQZ := Lib.hid qz)
  all_goals (have HBZ : Hid (BoxT w9 _ y s6 c6) := Lib.hid (HS9.kept.at_ HB8.out (by rw [HY7.out]; omega)))
  all_goals (have HEZ := Lib.hid (HE8.out.lat (HS9.lat (by omega))))
  all_goals (have HKZ := Lib.hid (HK8.out.trans HS9.kept (fun g hg e => by have e2 : κ7 g = 5 + 2 * o ∨ κ7 g = 6 + 2 * o := e; rw [HSAME.out g hg] at e2; omega)))
  all_goals (have hwo := HS9.kept)
  all_goals clear qz HS9 hwo
  all_goals go_wp2_with (first | (refine wpList_loadB (by rfl) (by rfl) (by rfl) HBZ.out ?_) | (refine wpList_store15 (by rfl) (by rfl) (by rfl) (by rfl) HQZ.out.things HTT.out ?_; intro W9 hR9 hK9 hW9))
  all_goals (have q9 := HQZ.out.thing j y s6 c6 hR9 hK9 (hW9 _ (by rw [HQZ.out.tcol]; omega) HQZ.out.wl) HEZ.out)
  all_goals (have hkf : Kept (fun b => κ b ≠ 0) w W9 := HKZ.out.trans hK9 (fun g hg e => by subst e; rw [HCZ.out hg]; omega))
  all_goals simp only [List.set_set] at q9
  all_goals go_ret
  all_goals rw [HY.out]
  all_goals exact ⟨rfl, fun σ' e => by cases e; exact ⟨_, _, q9⟩, hkf⟩

end Go.Proofs.YtbodlaiakcoabaaGreatDoor
end
section
namespace Go.Proofs.YtbodlaiakcoabaaGreatDoor
open Go.RowKit
set_option linter.unusedSimpArgs false
set_option linter.unusedVariables false

theorem mark_none {σ : St} {i : Nat} {t : Tr} {c : Ca} {m : Mk} {x : Th} (hx : σ.things[c.op.obj.toNat]? = some x) (h : (mayM x i m.kind m.v && beginsM c.rows (c.marks ++ [m])) = false) : markM σ i t c m = none := by
  unfold markM
  rw [hx]
  simp only [h]
  rfl
theorem mark_is {σ : St} {i : Nat} {t : Tr} {c : Ca} {m : Mk} {x : Th} (hx : σ.things[c.op.obj.toNat]? = some x) (h : (mayM x i m.kind m.v && beginsM c.rows (c.marks ++ [m])) = true) :
    markM σ i t c m = some { σ with things := σ.things.set c.op.obj.toNat (doesM x i m.kind m.v), threads := if m.kind = 14 then meetM (σ.threads.set i { t with call := some (noteM σ.now t c x m) }) x.offer.toNat c.op.n else σ.threads.set i { t with call := some (noteM σ.now t c x m) } } := by
  unfold markM
  rw [hx]
  simp only [h]
  rfl
theorem meet_is {ts : List Tr} {o : Nat} {n : Int} {t : Tr} {c : Ca} (h : ts[o]? = some t) (hc : t.call = some c) : meetM ts o n = ts.set o { t with call := some { c with marks := c.marks ++ [⟨0, 0⟩], got := n } } := by
  unfold meetM
  rw [h]
  simp only [hc]

theorem mark_any (B p : Nat) (κ : Nat → Nat) (w : World) (σ : St) (m : Mem) (q : In B p κ w σ m) (k : Nat) (g : Good k σ) (hk : k < 100000) (i : Nat) (h : Hh) (t : Tr) (c : Ca) (hi : m.hs[i]? = some h) (ht : σ.threads[i]? = some t) (hcall : t.call = some c) (mm : Mk) (v0 : -9223372036854775808 ≤ mm.v) (v1 : mm.v ≤ 9223372036854775807) :
    Calls Tryz.prog 37 #[.pointer (some ⟨p, 0, none⟩), .int .i64 i, mm.agg] w fun e w' => e = .returned (.bool (markM σ i t c mm).isSome) ∧ BeginTo B p (markM σ i t c mm) w' ∧ Kept (fun b => κ b ≠ 0) w w' := by
  have hil : i < 8 := by have := (List.getElem?_eq_some_iff.1 ht).1; have := g.nthr; omega
  have hT := (q.th i h t hi ht).call
  rw [hcall] at hT
  obtain ⟨b, hp⟩ : ∃ b, h.ptr = some b := by
    cases e : h.ptr with
    | none => rw [e] at hT; exact hT.elim
    | some b => exact ⟨b, rfl⟩
  rw [hp] at hT
  obtain ⟨d, hC⟩ := hT
  have hg := (g.th t (List.mem_of_getElem? ht)).call c hcall
  have hj : c.op.obj = (c.op.obj.toNat : Nat) := (Int.toNat_of_nonneg hg.obj0).symm
  have hjl : c.op.obj.toNat < σ.things.length := by rw [g.nth]; have := hg.obj1; omega
  obtain ⟨x, hx⟩ : ∃ x, σ.things[c.op.obj.toNat]? = some x := ⟨_, List.getElem?_eq_getElem hjl⟩
  have hx2 := hx
  rw [← q.same, List.getElem?_map] at hx2
  obtain ⟨tt, htt, htx⟩ : ∃ tt, m.tts[c.op.obj.toNat]? = some tt ∧ tt.x = x := by
    cases e : m.tts[c.op.obj.toNat]? with
    | none => rw [e] at hx2; simp at hx2
    | some tt => rw [e] at hx2; exact ⟨tt, rfl, by simpa using hx2⟩
  subst htx
  have hF := (g.sound tt.x (List.mem_of_getElem? hx)).fit
  have hl2 : m.tts.length ≤ 1000 := by
    have := congrArg List.length q.same
    rw [List.length_map, g.nth] at this
    have := g.nobs; omega
  have hfew : c.marks.length < 100000 := by have := hg.few; omega
  cases hmay : mayM tt.x i mm.kind mm.v with
  | false =>
    have e := mark_none (t := t) (c := c) (m := mm) hx (by rw [hmay]; rfl)
    rw [e]
    exact (mark_no B p κ w σ m q i hil h t b hi ht hp c d hcall hC mm v0 v1 _ hj tt htt hF hfew hl2 hmay).mono (fun _ _ ⟨h1, h2⟩ => ⟨h1, begin_nil _ _ _, h2⟩)
  | true =>
  cases hbeg : beginsM c.rows (c.marks ++ [mm]) with
  | false =>
    have e := mark_none (t := t) (c := c) (m := mm) hx (by rw [hmay, hbeg]; rfl)
    rw [e]
    exact (mark_not B p κ w σ m q i hil h t b hi ht hp c d hcall hC mm v0 v1 _ hj tt htt hF hfew hl2 hmay hbeg).mono (fun _ _ ⟨h1, h2⟩ => ⟨h1, begin_nil _ _ _, h2⟩)
  | true =>
  have e := mark_is (t := t) (c := c) (m := mm) hx (by rw [hmay, hbeg]; rfl)
  rw [e]
  have hdo : doM tt.x i mm.kind mm.v = doesM tt.x i mm.kind mm.v := if_pos hmay
  have not14 : mm.kind ≠ 14 → ∀ (cc : Ca), noteM σ.now t c tt.x mm = cc → (Calls Tryz.prog 37 #[.pointer (some ⟨p, 0, none⟩), .int .i64 i, mm.agg] w fun e w' => e = .returned (.bool true) ∧ BeginTo B p (some { σ with things := σ.things.set c.op.obj.toNat (doM tt.x i mm.kind mm.v), threads := σ.threads.set i { t with call := some cc } }) w' ∧ Kept (fun b => κ b ≠ 0) w w') →
      Calls Tryz.prog 37 #[.pointer (some ⟨p, 0, none⟩), .int .i64 i, mm.agg] w fun e w' => e = .returned (.bool (some { σ with things := σ.things.set c.op.obj.toNat (doesM tt.x i mm.kind mm.v), threads := if mm.kind = 14 then meetM (σ.threads.set i { t with call := some (noteM σ.now t c tt.x mm) }) tt.x.offer.toNat c.op.n else σ.threads.set i { t with call := some (noteM σ.now t c tt.x mm) } }).isSome) ∧ BeginTo B p (some { σ with things := σ.things.set c.op.obj.toNat (doesM tt.x i mm.kind mm.v), threads := if mm.kind = 14 then meetM (σ.threads.set i { t with call := some (noteM σ.now t c tt.x mm) }) tt.x.offer.toNat c.op.n else σ.threads.set i { t with call := some (noteM σ.now t c tt.x mm) } }) w' ∧ Kept (fun b => κ b ≠ 0) w w' := by
    intro h14 cc hcc hcalls
    rw [if_neg h14, hcc, ← hdo]
    exact hcalls
  cases k17 : (mm.kind == 17) with
  | true =>
    have e17 : mm.kind = 17 := by simpa using k17
    exact not14 (by omega) _ (by unfold noteM; rw [if_pos (.inl e17)]) (mark_gave17 B p κ w σ m q i hil h t b hi ht hp c d hcall hC mm v0 v1 _ hj tt htt hF hfew hl2 hmay hbeg k17)
  | false =>
  cases k13 : (mm.kind == 13) with
  | true =>
    have e13 : mm.kind = 13 := by simpa using k13
    exact not14 (by omega) _ (by unfold noteM; rw [if_pos (.inr (.inl e13))]) (mark_gave13 B p κ w σ m q i hil h t b hi ht hp c d hcall hC mm v0 v1 _ hj tt htt hF hfew hl2 hmay hbeg k17 k13)
  | false =>
  cases k16 : (mm.kind == 16) with
  | true =>
    have e16 : mm.kind = 16 := by simpa using k16
    exact not14 (by omega) _ (by unfold noteM; rw [if_pos (.inr (.inr e16))]) (mark_gave16 B p κ w σ m q i hil h t b hi ht hp c d hcall hC mm v0 v1 _ hj tt htt hF hfew hl2 hmay hbeg k17 k13 k16)
  | false =>
  have n17 : mm.kind ≠ 17 := by simpa using k17
  have n13 : mm.kind ≠ 13 := by simpa using k13
  have n16 : mm.kind ≠ 16 := by simpa using k16
  cases k9 : (mm.kind == 9) with
  | true =>
    have e9 : mm.kind = 9 := by simpa using k9
    exact not14 (by omega) _ (by unfold noteM; rw [if_neg (by omega), if_pos e9]) (mark_drain B p κ w σ m q i hil h t b hi ht hp c d hcall hC mm v0 v1 _ hj tt htt hF hfew hl2 hmay hbeg k17 k13 k16 k9)
  | false =>
  have n9 : mm.kind ≠ 9 := by simpa using k9
  cases k14 : (mm.kind == 14) with
  | false =>
    have n14 : mm.kind ≠ 14 := by simpa using k14
    exact not14 n14 _ (by unfold noteM; rw [if_neg (by omega), if_neg n9, if_neg n14]) (mark_else B p κ w σ m q i hil h t b hi ht hp c d hcall hC mm v0 v1 _ hj tt htt hF hfew hl2 hmay hbeg k17 k13 k16 k9 k14)
  | true =>
    have e14 : mm.kind = 14 := by simpa using k14
    have hnote : noteM σ.now t c tt.x mm = { c with marks := c.marks ++ [mm], got := tt.x.item } := by unfold noteM; rw [if_neg (by omega), if_neg n9, if_pos e14]
    rcases offer_do hmay with h1 | h1 | h1 | h1
    · omega
    · obtain ⟨t2, c2, a0, a1, a2, a3, a4, _, _⟩ := g.offer _ tt.x hx h1.2.2.1
      have ho : tt.x.offer = (tt.x.offer.toNat : Nat) := (Int.toNat_of_nonneg a0).symm
      have hoi : tt.x.offer.toNat ≠ i := fun e => h1.2.2.2.1 (by rw [ho, e])
      have hol : tt.x.offer.toNat < m.hs.length := by rw [q.hlen]; exact (List.getElem?_eq_some_iff.1 a1).1
      obtain ⟨h2, hi2⟩ : ∃ h2, m.hs[tt.x.offer.toNat]? = some h2 := ⟨_, List.getElem?_eq_getElem hol⟩
      have hT2 := (q.th _ h2 t2 hi2 a1).call
      rw [a2] at hT2
      obtain ⟨b2, hp2⟩ : ∃ b2, h2.ptr = some b2 := by
        cases e : h2.ptr with
        | none => rw [e] at hT2; exact hT2.elim
        | some b => exact ⟨b, rfl⟩
      have hx3 := mark_swap B p κ w σ m q i hil h t b hi ht hp c d hcall hC mm v0 v1 _ hj tt htt hF hfew hl2 hmay hbeg k17 k13 k16 k9 k14 tt.x.offer.toNat ho hoi hol h2 t2 b2 c2 hi2 a1 hp2 a2 (by rw [a4]; simp)
      rw [if_pos e14, hnote, ← hdo, meet_is (t := t2) (c := c2) (by rw [List.getElem?_set_ne (Ne.symm hoi)]; exact a1) a2]
      exact hx3
    · omega
    · omega

end Go.Proofs.YtbodlaiakcoabaaGreatDoor
end
