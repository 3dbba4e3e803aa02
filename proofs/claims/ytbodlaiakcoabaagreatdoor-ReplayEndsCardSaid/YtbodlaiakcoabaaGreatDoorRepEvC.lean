/-
  An event, by its kind: a return.
  Conditions: the state lies in memory.
-/
import Derived.Test.YtbodlaiakcoabaaGreatDoorRepEv
namespace Go.Proofs.YtbodlaiakcoabaaGreatDoor
open Go.RowKit
set_option linter.unusedSimpArgs false
set_option linter.unusedVariables false
set_option maxRecDepth 100000

set_option maxHeartbeats 16000000 in
theorem event_k3a (B p : Nat) (κ : Nat → Nat) (w : World) (σ : St) (m : Mem) (q : In B p κ w σ m) (hlen : m.hs.length ≤ 8) (ev : Ev) (d0 : bareM ev = true) (d1 : decide (ev.thread < 0) = false) (d2 : decide ((m.hs.length : Int) ≤ ev.thread) = false) (d3 : decide (ev.now < σ.now) = false) (i : Nat) (hthr : ev.thread = (i : Int)) (hil : i < m.hs.length) (h : Hh) (t : Tr) (hi : m.hs[i]? = some h) (ht : σ.threads[i]? = some t) (j1 : (ev.kind == 1) = false) (j2 : (ev.kind == 2) = false) (j3 : (ev.kind == 3) = true) (hp : h.ptr = none) :
    Calls Tryz.prog 23 #[.pointer (some ⟨p, 0, none⟩), ev.agg] w fun e w' => e = .returned (.bool false) ∧ BeginTo B p none w' ∧ Kept (fun b => κ b ≠ 0) w w' := by
  have HTH := Lib.hid hthr
  clear hthr
  obtain ⟨W0, hW0⟩ : ∃ W0, w.alloc (.cells #[.int .i64 ev.kind, .int .i64 ev.thread, .int .i64 ev.now, .int .i64 ev.m.kind, .int .i64 ev.m.v, .int .i64 ev.value, .int .i64 ev.got] 38) = W0 := ⟨_, rfl⟩
  have hk0 : Kept (fun _ => False) w W0 := by rw [← hW0]; exact (Kept.refl _ _).alloc _
  have hn0 : W0.heap[w.heap.size]? = some (.cells #[.int .i64 ev.kind, .int .i64 ev.thread, .int .i64 ev.now, .int .i64 ev.m.kind, .int .i64 ev.m.v, .int .i64 ev.value, .int .i64 ev.got] 38 (0, 0)) := by rw [← hW0]; exact heap_new1 _ _
  have hnc : κ w.heap.size = 0 := Classical.byContradiction (fun e => Nat.lt_irrefl _ (q.wl.lt _ e))
  have q0 : In B p κ W0 σ m := q.step (Step.of0 (C := fun _ => False) hk0 q.wl) (fun _ f => f.elim)
  have SF : Hid (∀ w', Kept (fun _ => False) W0 w' → w'.cell? ⟨w.heap.size, 0, none⟩ = some (.int .i64 ev.kind) ∧ w'.cell? ⟨w.heap.size, 1, none⟩ = some (.int .i64 ev.thread) ∧ w'.cell? ⟨w.heap.size, 2, none⟩ = some (.int .i64 ev.now) ∧ w'.cell? ⟨w.heap.size, 3, none⟩ = some (.int .i64 ev.m.kind) ∧ w'.cell? ⟨w.heap.size, 4, none⟩ = some (.int .i64 ev.m.v) ∧ w'.cell? ⟨w.heap.size, 5, none⟩ = some (.int .i64 ev.value) ∧ w'.cell? ⟨w.heap.size, 6, none⟩ = some (.int .i64 ev.got) ∧ w'.cell? ⟨p, 2, none⟩ = some (.slice (some ⟨m.hg, 0, none⟩) m.hs.length m.hc) ∧ w'.cell? ⟨p, 3, none⟩ = some (.int .i64 σ.now)) := Lib.hid (fun w' hk => by
    have h := ev_cells (hk.at0 hn0)
    have hb := hk.at0 q0.box
    exact ⟨h.c0, h.c1, h.c2, h.c3, h.c4, h.c5, h.c6, by rw [cell_at _ _ 2 _ _ hb]; rfl, by rw [cell_at _ _ 3 _ _ hb]; rfl⟩)
  have HQ0 := Lib.hid q0
  have HN0 := Lib.hid hn0
  have HNC := Lib.hid hnc
  have HK0 := Lib.hid hk0
  have HBR : Hid (∀ w', Calls Tryz.prog 35 #[ev.agg] w' fun e w'' => e = .returned (.bool true) ∧ Kept (fun _ => False) w' w'') := Lib.hid (fun w' => by have := bare_any ev w'; rw [d0] at this; exact this)
  clear q0 hk0 hn0 hnc
  obtain ⟨y0, y1, y2, y3, y4, y5, y6, y7, y8⟩ := SF.out _ (Kept.refl _ _)
  go_enter Tryz.func23, Tryz.ntmps23
  go_wp2_with fail
  have HST : Hid (StayAll [PEq (ev.agg), PEq (.bool true), PEq (.bool false), PEq (.bool false), PEq (.pointer (some ⟨w.heap.size, 1, none⟩)), PEq (.int .i64 ev.thread), PEq (.bool false), PEq (.bool false), PEq (.bool false), PEq (.pointer (some ⟨w.heap.size, 1, none⟩)), PEq (.int .i64 ev.thread), PEq (.pointer (some ⟨p, 0, none⟩)), PEq (.pointer (some ⟨p, 0, none⟩)), PEq (.pointer (some ⟨p, 2, none⟩)), PEq (.slice (some ⟨m.hg, 0, none⟩) m.hs.length m.hc), PEq (.int .i64 (m.hs.length : Int)), PEq (.bool false), PEq (.bool false), PEq (.bool false), PEq (.pointer (some ⟨w.heap.size, 2, none⟩)), PEq (.int .i64 ev.now), PEq (.pointer (some ⟨p, 0, none⟩)), PEq (.pointer (some ⟨p, 0, none⟩)), PEq (.pointer (some ⟨p, 3, none⟩)), PEq (.int .i64 σ.now), PEq (.bool false), PEq (.bool false)]) := Lib.hid ⟨stay_eq _, stay_eq _, stay_eq _, stay_eq _, stay_eq _, stay_eq _, stay_eq _, stay_eq _, stay_eq _, stay_eq _, stay_eq _, stay_eq _, stay_eq _, stay_eq _, stay_eq _, stay_eq _, stay_eq _, stay_eq _, stay_eq _, stay_eq _, stay_eq _, stay_eq _, stay_eq _, stay_eq _, stay_eq _, stay_eq _, stay_eq _, trivial⟩
  refine wp_region_any (by kernel_rfl) (wpAny_inv (fun l a w' => ∃ v0 v1 v2 v3 v4 v5 v6 v7 v8 v9 v10 v11 v12 v13 v14 v15 v16 v17 v18 v19 v20 v21 v22 v23 v24 v25 v26, a = ⟨#[.pointer (some ⟨p, 0, none⟩), ev.agg, undef, .pointer (some ⟨w.heap.size, 0, none⟩), .bool false, undef, v0, v1, v2, v3, v4, v5, v6, v7, v8, v9, v10, v11, v12, v13, v14, v15, v16, v17, v18, v19, v20, v21, v22, v23, v24, v25, v26, undef, undef, undef, undef, undef, undef, undef, undef, undef, undef, undef, undef, undef, undef, undef, undef, undef, undef, undef, undef, undef, undef, undef, undef, undef, undef, undef, undef, undef, undef, undef, undef, undef, undef, undef, undef, undef, undef, undef, undef, undef, undef, undef, undef, undef, undef, undef, undef, undef, undef, undef, undef, undef, undef, undef, undef, undef, undef], []⟩ ∧ FG W0 [PEq (ev.agg), PEq (.bool true), PEq (.bool false), PEq (.bool false), PEq (.pointer (some ⟨w.heap.size, 1, none⟩)), PEq (.int .i64 ev.thread), PEq (.bool false), PEq (.bool false), PEq (.bool false), PEq (.pointer (some ⟨w.heap.size, 1, none⟩)), PEq (.int .i64 ev.thread), PEq (.pointer (some ⟨p, 0, none⟩)), PEq (.pointer (some ⟨p, 0, none⟩)), PEq (.pointer (some ⟨p, 2, none⟩)), PEq (.slice (some ⟨m.hg, 0, none⟩) m.hs.length m.hc), PEq (.int .i64 (m.hs.length : Int)), PEq (.bool false), PEq (.bool false), PEq (.bool false), PEq (.pointer (some ⟨w.heap.size, 2, none⟩)), PEq (.int .i64 ev.now), PEq (.pointer (some ⟨p, 0, none⟩)), PEq (.pointer (some ⟨p, 0, none⟩)), PEq (.pointer (some ⟨p, 3, none⟩)), PEq (.int .i64 σ.now), PEq (.bool false), PEq (.bool false)] l w' [v0, v1, v2, v3, v4, v5, v6, v7, v8, v9, v10, v11, v12, v13, v14, v15, v16, v17, v18, v19, v20, v21, v22, v23, v24, v25, v26]) ?hstep ?hend _ _ _ _ (by simp) (by simp) ?hstart)
  case hstart =>
    exact ⟨_, _, _, _, _, _, _, _, _, _, _, _, _, _, _, _, _, _, _, _, _, _, _, _, _, _, _, rfl, ⟨(Kept.refl _ _).drew, fun i P v _ hv hf => (flag_none hf).elim⟩⟩
  case hstep =>
    intro l a w2 i hs hI hi
    have hs' : l.size = 27 := hs
    obtain ⟨hlt, hu, hd⟩ := ready_of hi
    have hsj : ∀ j, j ≠ i → (l.setIfInBounds i true).getD j false = true → l.getD j false = true := fun j hj h => by
      rw [getD_set (by omega), if_neg hj] at h; exact h
    have HS := Lib.hid hsj; clear hsj
    have hlt' : i < 27 := hlt
    clear hi hlt hu
    obtain ⟨v0, v1, v2, v3, v4, v5, v6, v7, v8, v9, v10, v11, v12, v13, v14, v15, v16, v17, v18, v19, v20, v21, v22, v23, v24, v25, v26, rfl, F⟩ := hI
    have hi : i = 0 ∨ i = 1 ∨ i = 2 ∨ i = 3 ∨ i = 4 ∨ i = 5 ∨ i = 6 ∨ i = 7 ∨ i = 8 ∨ i = 9 ∨ i = 10 ∨ i = 11 ∨ i = 12 ∨ i = 13 ∨ i = 14 ∨ i = 15 ∨ i = 16 ∨ i = 17 ∨ i = 18 ∨ i = 19 ∨ i = 20 ∨ i = 21 ∨ i = 22 ∨ i = 23 ∨ i = 24 ∨ i = 25 ∨ i = 26 := by omega
    clear hlt'
    obtain ⟨y0, y1, y2, y3, y4, y5, y6, y7, y8⟩ := SF.out _ F.kept
    rcases hi with rfl | rfl | rfl | rfl | rfl | rfl | rfl | rfl | rfl | rfl | rfl | rfl | rfl | rfl | rfl | rfl | rfl | rfl | rfl | rfl | rfl | rfl | rfl | rfl | rfl | rfl | rfl
    · refine wpOp_open rfl (fun K hK => ?_)
      go_simp
      exact hK.out _ _ ⟨_, _, _, _, _, _, _, _, _, _, _, _, _, _, _, _, _, _, _, _, _, _, _, _, _, _, _, rfl, F.step HST.out 0 HS.out (Kept.refl _ _) _ rfl _ rfl⟩
    · have d0 : l.getD 0 false = true := by simp [Region.binds] at hd; simp [hd]
      obtain rfl := F.at_ 0 _ _ rfl rfl d0
      refine wpOp_open rfl (fun K hK => ?_)
      go_simp
      refine (HBR.out _).mono ?_
      rintro e w4 ⟨rfl, hk4⟩
      exact hK.out _ _ ⟨_, _, _, _, _, _, _, _, _, _, _, _, _, _, _, _, _, _, _, _, _, _, _, _, _, _, _, rfl, F.step HST.out 1 HS.out (hk4) _ rfl _ rfl⟩
    · have d1 : l.getD 1 false = true := by simp [Region.binds] at hd; simp [hd]
      obtain rfl := F.at_ 1 _ _ rfl rfl d1
      refine wpOp_open rfl (fun K hK => ?_)
      go_simp
      exact hK.out _ _ ⟨_, _, _, _, _, _, _, _, _, _, _, _, _, _, _, _, _, _, _, _, _, _, _, _, _, _, _, rfl, F.step HST.out 2 HS.out (Kept.refl _ _) _ rfl _ rfl⟩
    · have d2 : l.getD 2 false = true := by simp [Region.binds] at hd; simp [hd]
      obtain rfl := F.at_ 2 _ _ rfl rfl d2
      refine wpOp_open rfl (fun K hK => ?_)
      go_simp
      exact hK.out _ _ ⟨_, _, _, _, _, _, _, _, _, _, _, _, _, _, _, _, _, _, _, _, _, _, _, _, _, _, _, rfl, F.step HST.out 3 HS.out (Kept.refl _ _) _ rfl _ rfl⟩
    · have d3 : l.getD 3 false = true := by simp [Region.binds] at hd; simp [hd]
      obtain rfl := F.at_ 3 _ _ rfl rfl d3
      refine wpOp_open rfl (fun K hK => ?_)
      go_simp
      exact hK.out _ _ ⟨_, _, _, _, _, _, _, _, _, _, _, _, _, _, _, _, _, _, _, _, _, _, _, _, _, _, _, rfl, F.step HST.out 4 HS.out (Kept.refl _ _) _ rfl _ rfl⟩
    · have d3 : l.getD 3 false = true := by simp [Region.binds] at hd; simp [hd]
      obtain rfl := F.at_ 3 _ _ rfl rfl d3
      have d4 : l.getD 4 false = true := by simp [Region.binds] at hd; simp [hd]
      obtain rfl := F.at_ 4 _ _ rfl rfl d4
      refine wpOp_open rfl (fun K hK => ?_)
      go_simp
      exact hK.out _ _ ⟨_, _, _, _, _, _, _, _, _, _, _, _, _, _, _, _, _, _, _, _, _, _, _, _, _, _, _, rfl, F.step HST.out 5 HS.out (Kept.refl _ _) _ rfl _ rfl⟩
    · have d3 : l.getD 3 false = true := by simp [Region.binds] at hd; simp [hd]
      obtain rfl := F.at_ 3 _ _ rfl rfl d3
      have d5 : l.getD 5 false = true := by simp [Region.binds] at hd; simp [hd]
      obtain rfl := F.at_ 5 _ _ rfl rfl d5
      refine wpOp_open rfl (fun K hK => ?_)
      go_simp
      exact hK.out _ _ ⟨_, _, _, _, _, _, _, _, _, _, _, _, _, _, _, _, _, _, _, _, _, _, _, _, _, _, _, rfl, F.step HST.out 6 HS.out (Kept.refl _ _) _ rfl _ rfl⟩
    · have d3 : l.getD 3 false = true := by simp [Region.binds] at hd; simp [hd]
      obtain rfl := F.at_ 3 _ _ rfl rfl d3
      have d6 : l.getD 6 false = true := by simp [Region.binds] at hd; simp [hd]
      obtain rfl := F.at_ 6 _ _ rfl rfl d6
      refine wpOp_open rfl (fun K hK => ?_)
      go_simp
      exact hK.out _ _ ⟨_, _, _, _, _, _, _, _, _, _, _, _, _, _, _, _, _, _, _, _, _, _, _, _, _, _, _, rfl, F.step HST.out 7 HS.out (Kept.refl _ _) _ rfl _ rfl⟩
    · have d7 : l.getD 7 false = true := by simp [Region.binds] at hd; simp [hd]
      obtain rfl := F.at_ 7 _ _ rfl rfl d7
      refine wpOp_open rfl (fun K hK => ?_)
      go_simp
      exact hK.out _ _ ⟨_, _, _, _, _, _, _, _, _, _, _, _, _, _, _, _, _, _, _, _, _, _, _, _, _, _, _, rfl, F.step HST.out 8 HS.out (Kept.refl _ _) _ rfl _ rfl⟩
    · have d8 : l.getD 8 false = true := by simp [Region.binds] at hd; simp [hd]
      obtain rfl := F.at_ 8 _ _ rfl rfl d8
      refine wpOp_open rfl (fun K hK => ?_)
      go_simp
      exact hK.out _ _ ⟨_, _, _, _, _, _, _, _, _, _, _, _, _, _, _, _, _, _, _, _, _, _, _, _, _, _, _, rfl, F.step HST.out 9 HS.out (Kept.refl _ _) _ rfl _ rfl⟩
    · have d8 : l.getD 8 false = true := by simp [Region.binds] at hd; simp [hd]
      obtain rfl := F.at_ 8 _ _ rfl rfl d8
      have d9 : l.getD 9 false = true := by simp [Region.binds] at hd; simp [hd]
      obtain rfl := F.at_ 9 _ _ rfl rfl d9
      refine wpOp_open rfl (fun K hK => ?_)
      go_simp
      exact hK.out _ _ ⟨_, _, _, _, _, _, _, _, _, _, _, _, _, _, _, _, _, _, _, _, _, _, _, _, _, _, _, rfl, F.step HST.out 10 HS.out (Kept.refl _ _) _ rfl _ rfl⟩
    · have d8 : l.getD 8 false = true := by simp [Region.binds] at hd; simp [hd]
      obtain rfl := F.at_ 8 _ _ rfl rfl d8
      refine wpOp_open rfl (fun K hK => ?_)
      go_simp
      exact hK.out _ _ ⟨_, _, _, _, _, _, _, _, _, _, _, _, _, _, _, _, _, _, _, _, _, _, _, _, _, _, _, rfl, F.step HST.out 11 HS.out (Kept.refl _ _) _ rfl _ rfl⟩
    · have d8 : l.getD 8 false = true := by simp [Region.binds] at hd; simp [hd]
      obtain rfl := F.at_ 8 _ _ rfl rfl d8
      have d11 : l.getD 11 false = true := by simp [Region.binds] at hd; simp [hd]
      obtain rfl := F.at_ 11 _ _ rfl rfl d11
      refine wpOp_open rfl (fun K hK => ?_)
      go_simp
      exact hK.out _ _ ⟨_, _, _, _, _, _, _, _, _, _, _, _, _, _, _, _, _, _, _, _, _, _, _, _, _, _, _, rfl, F.step HST.out 12 HS.out (Kept.refl _ _) _ rfl _ rfl⟩
    · have d8 : l.getD 8 false = true := by simp [Region.binds] at hd; simp [hd]
      obtain rfl := F.at_ 8 _ _ rfl rfl d8
      have d12 : l.getD 12 false = true := by simp [Region.binds] at hd; simp [hd]
      obtain rfl := F.at_ 12 _ _ rfl rfl d12
      refine wpOp_open rfl (fun K hK => ?_)
      go_simp
      exact hK.out _ _ ⟨_, _, _, _, _, _, _, _, _, _, _, _, _, _, _, _, _, _, _, _, _, _, _, _, _, _, _, rfl, F.step HST.out 13 HS.out (Kept.refl _ _) _ rfl _ rfl⟩
    · have d8 : l.getD 8 false = true := by simp [Region.binds] at hd; simp [hd]
      obtain rfl := F.at_ 8 _ _ rfl rfl d8
      have d13 : l.getD 13 false = true := by simp [Region.binds] at hd; simp [hd]
      obtain rfl := F.at_ 13 _ _ rfl rfl d13
      refine wpOp_open rfl (fun K hK => ?_)
      go_simp
      exact hK.out _ _ ⟨_, _, _, _, _, _, _, _, _, _, _, _, _, _, _, _, _, _, _, _, _, _, _, _, _, _, _, rfl, F.step HST.out 14 HS.out (Kept.refl _ _) _ rfl _ rfl⟩
    · have d8 : l.getD 8 false = true := by simp [Region.binds] at hd; simp [hd]
      obtain rfl := F.at_ 8 _ _ rfl rfl d8
      have d14 : l.getD 14 false = true := by simp [Region.binds] at hd; simp [hd]
      obtain rfl := F.at_ 14 _ _ rfl rfl d14
      refine wpOp_open rfl (fun K hK => ?_)
      go_simp
      exact hK.out _ _ ⟨_, _, _, _, _, _, _, _, _, _, _, _, _, _, _, _, _, _, _, _, _, _, _, _, _, _, _, rfl, F.step HST.out 15 HS.out (Kept.refl _ _) _ rfl _ rfl⟩
    · have d8 : l.getD 8 false = true := by simp [Region.binds] at hd; simp [hd]
      obtain rfl := F.at_ 8 _ _ rfl rfl d8
      have d10 : l.getD 10 false = true := by simp [Region.binds] at hd; simp [hd]
      obtain rfl := F.at_ 10 _ _ rfl rfl d10
      have d15 : l.getD 15 false = true := by simp [Region.binds] at hd; simp [hd]
      obtain rfl := F.at_ 15 _ _ rfl rfl d15
      refine wpOp_open rfl (fun K hK => ?_)
      go_simp
      exact hK.out _ _ ⟨_, _, _, _, _, _, _, _, _, _, _, _, _, _, _, _, _, _, _, _, _, _, _, _, _, _, _, rfl, F.step HST.out 16 HS.out (Kept.refl _ _) _ rfl _ rfl⟩
    · have d8 : l.getD 8 false = true := by simp [Region.binds] at hd; simp [hd]
      obtain rfl := F.at_ 8 _ _ rfl rfl d8
      have d16 : l.getD 16 false = true := by simp [Region.binds] at hd; simp [hd]
      obtain rfl := F.at_ 16 _ _ rfl rfl d16
      refine wpOp_open rfl (fun K hK => ?_)
      go_simp
      exact hK.out _ _ ⟨_, _, _, _, _, _, _, _, _, _, _, _, _, _, _, _, _, _, _, _, _, _, _, _, _, _, _, rfl, F.step HST.out 17 HS.out (Kept.refl _ _) _ rfl _ rfl⟩
    · have d17 : l.getD 17 false = true := by simp [Region.binds] at hd; simp [hd]
      obtain rfl := F.at_ 17 _ _ rfl rfl d17
      refine wpOp_open rfl (fun K hK => ?_)
      go_simp
      exact hK.out _ _ ⟨_, _, _, _, _, _, _, _, _, _, _, _, _, _, _, _, _, _, _, _, _, _, _, _, _, _, _, rfl, F.step HST.out 18 HS.out (Kept.refl _ _) _ rfl _ rfl⟩
    · have d18 : l.getD 18 false = true := by simp [Region.binds] at hd; simp [hd]
      obtain rfl := F.at_ 18 _ _ rfl rfl d18
      refine wpOp_open rfl (fun K hK => ?_)
      go_simp
      exact hK.out _ _ ⟨_, _, _, _, _, _, _, _, _, _, _, _, _, _, _, _, _, _, _, _, _, _, _, _, _, _, _, rfl, F.step HST.out 19 HS.out (Kept.refl _ _) _ rfl _ rfl⟩
    · have d18 : l.getD 18 false = true := by simp [Region.binds] at hd; simp [hd]
      obtain rfl := F.at_ 18 _ _ rfl rfl d18
      have d19 : l.getD 19 false = true := by simp [Region.binds] at hd; simp [hd]
      obtain rfl := F.at_ 19 _ _ rfl rfl d19
      refine wpOp_open rfl (fun K hK => ?_)
      go_simp
      exact hK.out _ _ ⟨_, _, _, _, _, _, _, _, _, _, _, _, _, _, _, _, _, _, _, _, _, _, _, _, _, _, _, rfl, F.step HST.out 20 HS.out (Kept.refl _ _) _ rfl _ rfl⟩
    · have d18 : l.getD 18 false = true := by simp [Region.binds] at hd; simp [hd]
      obtain rfl := F.at_ 18 _ _ rfl rfl d18
      refine wpOp_open rfl (fun K hK => ?_)
      go_simp
      exact hK.out _ _ ⟨_, _, _, _, _, _, _, _, _, _, _, _, _, _, _, _, _, _, _, _, _, _, _, _, _, _, _, rfl, F.step HST.out 21 HS.out (Kept.refl _ _) _ rfl _ rfl⟩
    · have d18 : l.getD 18 false = true := by simp [Region.binds] at hd; simp [hd]
      obtain rfl := F.at_ 18 _ _ rfl rfl d18
      have d21 : l.getD 21 false = true := by simp [Region.binds] at hd; simp [hd]
      obtain rfl := F.at_ 21 _ _ rfl rfl d21
      refine wpOp_open rfl (fun K hK => ?_)
      go_simp
      exact hK.out _ _ ⟨_, _, _, _, _, _, _, _, _, _, _, _, _, _, _, _, _, _, _, _, _, _, _, _, _, _, _, rfl, F.step HST.out 22 HS.out (Kept.refl _ _) _ rfl _ rfl⟩
    · have d18 : l.getD 18 false = true := by simp [Region.binds] at hd; simp [hd]
      obtain rfl := F.at_ 18 _ _ rfl rfl d18
      have d22 : l.getD 22 false = true := by simp [Region.binds] at hd; simp [hd]
      obtain rfl := F.at_ 22 _ _ rfl rfl d22
      refine wpOp_open rfl (fun K hK => ?_)
      go_simp
      exact hK.out _ _ ⟨_, _, _, _, _, _, _, _, _, _, _, _, _, _, _, _, _, _, _, _, _, _, _, _, _, _, _, rfl, F.step HST.out 23 HS.out (Kept.refl _ _) _ rfl _ rfl⟩
    · have d18 : l.getD 18 false = true := by simp [Region.binds] at hd; simp [hd]
      obtain rfl := F.at_ 18 _ _ rfl rfl d18
      have d23 : l.getD 23 false = true := by simp [Region.binds] at hd; simp [hd]
      obtain rfl := F.at_ 23 _ _ rfl rfl d23
      refine wpOp_open rfl (fun K hK => ?_)
      go_simp
      exact hK.out _ _ ⟨_, _, _, _, _, _, _, _, _, _, _, _, _, _, _, _, _, _, _, _, _, _, _, _, _, _, _, rfl, F.step HST.out 24 HS.out (Kept.refl _ _) _ rfl _ rfl⟩
    · have d18 : l.getD 18 false = true := by simp [Region.binds] at hd; simp [hd]
      obtain rfl := F.at_ 18 _ _ rfl rfl d18
      have d20 : l.getD 20 false = true := by simp [Region.binds] at hd; simp [hd]
      obtain rfl := F.at_ 20 _ _ rfl rfl d20
      have d24 : l.getD 24 false = true := by simp [Region.binds] at hd; simp [hd]
      obtain rfl := F.at_ 24 _ _ rfl rfl d24
      refine wpOp_open rfl (fun K hK => ?_)
      go_simp
      exact hK.out _ _ ⟨_, _, _, _, _, _, _, _, _, _, _, _, _, _, _, _, _, _, _, _, _, _, _, _, _, _, _, rfl, F.step HST.out 25 HS.out (Kept.refl _ _) _ rfl _ rfl⟩
    · have d18 : l.getD 18 false = true := by simp [Region.binds] at hd; simp [hd]
      obtain rfl := F.at_ 18 _ _ rfl rfl d18
      have d25 : l.getD 25 false = true := by simp [Region.binds] at hd; simp [hd]
      obtain rfl := F.at_ 25 _ _ rfl rfl d25
      refine wpOp_open rfl (fun K hK => ?_)
      go_simp
      exact hK.out _ _ ⟨_, _, _, _, _, _, _, _, _, _, _, _, _, _, _, _, _, _, _, _, _, _, _, _, _, _, _, rfl, F.step HST.out 26 HS.out (Kept.refl _ _) _ rfl _ rfl⟩
  case hend =>
    intro l a w1 hs hI hr
    have hs' : l.size = 27 := hs
    obtain ⟨v0, v1, v2, v3, v4, v5, v6, v7, v8, v9, v10, v11, v12, v13, v14, v15, v16, v17, v18, v19, v20, v21, v22, v23, v24, v25, v26, rfl, F⟩ := hI
    have HAR := all_ready hs (by kernel_rfl) hr
    obtain rfl := F.at_ 0 _ _ rfl rfl (HAR 0 (by decide))
    obtain rfl := F.at_ 1 _ _ rfl rfl (HAR 1 (by decide))
    obtain rfl := F.at_ 2 _ _ rfl rfl (HAR 2 (by decide))
    obtain rfl := F.at_ 3 _ _ rfl rfl (HAR 3 (by decide))
    obtain rfl := F.at_ 4 _ _ rfl rfl (HAR 4 (by decide))
    obtain rfl := F.at_ 5 _ _ rfl rfl (HAR 5 (by decide))
    obtain rfl := F.at_ 6 _ _ rfl rfl (HAR 6 (by decide))
    obtain rfl := F.at_ 7 _ _ rfl rfl (HAR 7 (by decide))
    obtain rfl := F.at_ 8 _ _ rfl rfl (HAR 8 (by decide))
    obtain rfl := F.at_ 9 _ _ rfl rfl (HAR 9 (by decide))
    obtain rfl := F.at_ 10 _ _ rfl rfl (HAR 10 (by decide))
    obtain rfl := F.at_ 11 _ _ rfl rfl (HAR 11 (by decide))
    obtain rfl := F.at_ 12 _ _ rfl rfl (HAR 12 (by decide))
    obtain rfl := F.at_ 13 _ _ rfl rfl (HAR 13 (by decide))
    obtain rfl := F.at_ 14 _ _ rfl rfl (HAR 14 (by decide))
    obtain rfl := F.at_ 15 _ _ rfl rfl (HAR 15 (by decide))
    obtain rfl := F.at_ 16 _ _ rfl rfl (HAR 16 (by decide))
    obtain rfl := F.at_ 17 _ _ rfl rfl (HAR 17 (by decide))
    obtain rfl := F.at_ 18 _ _ rfl rfl (HAR 18 (by decide))
    obtain rfl := F.at_ 19 _ _ rfl rfl (HAR 19 (by decide))
    obtain rfl := F.at_ 20 _ _ rfl rfl (HAR 20 (by decide))
    obtain rfl := F.at_ 21 _ _ rfl rfl (HAR 21 (by decide))
    obtain rfl := F.at_ 22 _ _ rfl rfl (HAR 22 (by decide))
    obtain rfl := F.at_ 23 _ _ rfl rfl (HAR 23 (by decide))
    obtain rfl := F.at_ 24 _ _ rfl rfl (HAR 24 (by decide))
    obtain rfl := F.at_ 25 _ _ rfl rfl (HAR 25 (by decide))
    obtain rfl := F.at_ 26 _ _ rfl rfl (HAR 26 (by decide))
    have HA := F.kept
    clear F hr HST HAR
    have q1 := HQ0.out.step (Step.of0 (C := fun _ => False) HA HQ0.out.wl) (fun _ f => f.elim)
    obtain ⟨qn, kn⟩ := q1.now ev.now
    have hn1 := HA.at0 HN0.out
    have hnn := kn.at_ hn1 (by rw [HNC.out]; simp)
    have hv2 := (ev_cells hn1).c2
    have hA3 := (SF.out _ HA).2.2.2.2.2.2.2.2
    have f3 := call_free q1.box 3
    have hE := ev_cells hnn
    have c1 := hE.c1
    rw [HTH.out] at c1
    have a2 := qn.cells.c2
    have HKN := Lib.hid ((HK0.out.tr0 HA |>.mono (T := fun b => κ b ≠ 0) (fun _ _ f => f.elim)).trans kn (fun _ _ e => e))
    have HQN := Lib.hid qn
    have HNN := Lib.hid hnn
    have e0 : (0 : Int) ≤ (i : Int) := by omega
    have e1 : (i : Int) < (m.hs.length : Int) := by omega
    clear q1 qn kn hn1 hnn HA hE
    go_wp2_with fail
    go_quiet (fail)
    have hk3 : Kept (fun _ => False) (w1.setCell ⟨p, 3, none⟩ (.int .i64 ev.now)) ((w1.setCell ⟨p, 3, none⟩ (.int .i64 ev.now)).drewN nq) := (Kept.refl _ _).drewN _
    have q3 := HQN.out.step (Step.of0 (C := fun _ => False) hk3 HQN.out.wl) (fun _ f => f.elim)
    have hn3 := hk3.at0 HNN.out
    have hkk := HKN.out.trans hk3 (fun _ _ f => f.elim)
    generalize (w1.setCell ⟨p, 3, none⟩ (.int .i64 ev.now)).drewN nq = w3 at *
    obtain ⟨b0, b1, b2, b3, b4, b5, b6⟩ := ev_cells hn3
    rw [HTH.out] at b1
    have z := th_cells q3.threads hi
    obtain ⟨z0, z1, z2, z3⟩ := z
    have HQ3 := Lib.hid q3
    have HKK := Lib.hid hkk
    clear hk3 hn3 hkk c1 a2 f3 hA3 hv2
    have z2' : w3.cell? ⟨m.hg, i * 4 + 2, none⟩ = some (.pointer none) := by rw [z2, hp]; rfl
    clear z2
    clear q3
    go_wp2_with fail
    go_ret
    exact ⟨rfl, begin_nil _ _ _, HKK.out⟩

set_option maxHeartbeats 16000000 in
theorem event_k3b (B p : Nat) (κ : Nat → Nat) (w : World) (σ : St) (m : Mem) (q : In B p κ w σ m) (hlen : m.hs.length ≤ 8) (ev : Ev) (d0 : bareM ev = true) (d1 : decide (ev.thread < 0) = false) (d2 : decide ((m.hs.length : Int) ≤ ev.thread) = false) (d3 : decide (ev.now < σ.now) = false) (i : Nat) (hthr : ev.thread = (i : Int)) (hil : i < m.hs.length) (h : Hh) (t : Tr) (hi : m.hs[i]? = some h) (ht : σ.threads[i]? = some t) (j1 : (ev.kind == 1) = false) (j2 : (ev.kind == 2) = false) (j3 : (ev.kind == 3) = true) (b : Nat) (hp : h.ptr = some b) (c : Ca) (hc : t.call = some c) (s0 : 0 ≤ c.since) (s1 : c.since ≤ 9223372036854775807) (t0 : 0 ≤ c.til) (t1 : c.til ≤ 9223372036854775807) (r0 : -1000000 ≤ t.breaks) (r1 : t.breaks ≤ 1000000) :
    Calls Tryz.prog 23 #[.pointer (some ⟨p, 0, none⟩), ev.agg] w fun e w' => e = .returned (.bool ((endM t c ev.value ev.got).map (fun t' => { σ with now := ev.now, threads := σ.threads.set i t' })).isSome) ∧ BeginTo B p ((endM t c ev.value ev.got).map (fun t' => { σ with now := ev.now, threads := σ.threads.set i t' })) w' ∧ Kept (fun b => κ b ≠ 0) w w' := by
  have HTH := Lib.hid hthr
  clear hthr
  obtain ⟨W0, hW0⟩ : ∃ W0, w.alloc (.cells #[.int .i64 ev.kind, .int .i64 ev.thread, .int .i64 ev.now, .int .i64 ev.m.kind, .int .i64 ev.m.v, .int .i64 ev.value, .int .i64 ev.got] 38) = W0 := ⟨_, rfl⟩
  have hk0 : Kept (fun _ => False) w W0 := by rw [← hW0]; exact (Kept.refl _ _).alloc _
  have hn0 : W0.heap[w.heap.size]? = some (.cells #[.int .i64 ev.kind, .int .i64 ev.thread, .int .i64 ev.now, .int .i64 ev.m.kind, .int .i64 ev.m.v, .int .i64 ev.value, .int .i64 ev.got] 38 (0, 0)) := by rw [← hW0]; exact heap_new1 _ _
  have hnc : κ w.heap.size = 0 := Classical.byContradiction (fun e => Nat.lt_irrefl _ (q.wl.lt _ e))
  have q0 : In B p κ W0 σ m := q.step (Step.of0 (C := fun _ => False) hk0 q.wl) (fun _ f => f.elim)
  have SF : Hid (∀ w', Kept (fun _ => False) W0 w' → w'.cell? ⟨w.heap.size, 0, none⟩ = some (.int .i64 ev.kind) ∧ w'.cell? ⟨w.heap.size, 1, none⟩ = some (.int .i64 ev.thread) ∧ w'.cell? ⟨w.heap.size, 2, none⟩ = some (.int .i64 ev.now) ∧ w'.cell? ⟨w.heap.size, 3, none⟩ = some (.int .i64 ev.m.kind) ∧ w'.cell? ⟨w.heap.size, 4, none⟩ = some (.int .i64 ev.m.v) ∧ w'.cell? ⟨w.heap.size, 5, none⟩ = some (.int .i64 ev.value) ∧ w'.cell? ⟨w.heap.size, 6, none⟩ = some (.int .i64 ev.got) ∧ w'.cell? ⟨p, 2, none⟩ = some (.slice (some ⟨m.hg, 0, none⟩) m.hs.length m.hc) ∧ w'.cell? ⟨p, 3, none⟩ = some (.int .i64 σ.now)) := Lib.hid (fun w' hk => by
    have h := ev_cells (hk.at0 hn0)
    have hb := hk.at0 q0.box
    exact ⟨h.c0, h.c1, h.c2, h.c3, h.c4, h.c5, h.c6, by rw [cell_at _ _ 2 _ _ hb]; rfl, by rw [cell_at _ _ 3 _ _ hb]; rfl⟩)
  have HQ0 := Lib.hid q0
  have HN0 := Lib.hid hn0
  have HNC := Lib.hid hnc
  have HK0 := Lib.hid hk0
  have HBR : Hid (∀ w', Calls Tryz.prog 35 #[ev.agg] w' fun e w'' => e = .returned (.bool true) ∧ Kept (fun _ => False) w' w'') := Lib.hid (fun w' => by have := bare_any ev w'; rw [d0] at this; exact this)
  clear q0 hk0 hn0 hnc
  obtain ⟨y0, y1, y2, y3, y4, y5, y6, y7, y8⟩ := SF.out _ (Kept.refl _ _)
  go_enter Tryz.func23, Tryz.ntmps23
  go_wp2_with fail
  have HST : Hid (StayAll [PEq (ev.agg), PEq (.bool true), PEq (.bool false), PEq (.bool false), PEq (.pointer (some ⟨w.heap.size, 1, none⟩)), PEq (.int .i64 ev.thread), PEq (.bool false), PEq (.bool false), PEq (.bool false), PEq (.pointer (some ⟨w.heap.size, 1, none⟩)), PEq (.int .i64 ev.thread), PEq (.pointer (some ⟨p, 0, none⟩)), PEq (.pointer (some ⟨p, 0, none⟩)), PEq (.pointer (some ⟨p, 2, none⟩)), PEq (.slice (some ⟨m.hg, 0, none⟩) m.hs.length m.hc), PEq (.int .i64 (m.hs.length : Int)), PEq (.bool false), PEq (.bool false), PEq (.bool false), PEq (.pointer (some ⟨w.heap.size, 2, none⟩)), PEq (.int .i64 ev.now), PEq (.pointer (some ⟨p, 0, none⟩)), PEq (.pointer (some ⟨p, 0, none⟩)), PEq (.pointer (some ⟨p, 3, none⟩)), PEq (.int .i64 σ.now), PEq (.bool false), PEq (.bool false)]) := Lib.hid ⟨stay_eq _, stay_eq _, stay_eq _, stay_eq _, stay_eq _, stay_eq _, stay_eq _, stay_eq _, stay_eq _, stay_eq _, stay_eq _, stay_eq _, stay_eq _, stay_eq _, stay_eq _, stay_eq _, stay_eq _, stay_eq _, stay_eq _, stay_eq _, stay_eq _, stay_eq _, stay_eq _, stay_eq _, stay_eq _, stay_eq _, stay_eq _, trivial⟩
  refine wp_region_any (by kernel_rfl) (wpAny_inv (fun l a w' => ∃ v0 v1 v2 v3 v4 v5 v6 v7 v8 v9 v10 v11 v12 v13 v14 v15 v16 v17 v18 v19 v20 v21 v22 v23 v24 v25 v26, a = ⟨#[.pointer (some ⟨p, 0, none⟩), ev.agg, undef, .pointer (some ⟨w.heap.size, 0, none⟩), .bool false, undef, v0, v1, v2, v3, v4, v5, v6, v7, v8, v9, v10, v11, v12, v13, v14, v15, v16, v17, v18, v19, v20, v21, v22, v23, v24, v25, v26, undef, undef, undef, undef, undef, undef, undef, undef, undef, undef, undef, undef, undef, undef, undef, undef, undef, undef, undef, undef, undef, undef, undef, undef, undef, undef, undef, undef, undef, undef, undef, undef, undef, undef, undef, undef, undef, undef, undef, undef, undef, undef, undef, undef, undef, undef, undef, undef, undef, undef, undef, undef, undef, undef, undef, undef, undef, undef], []⟩ ∧ FG W0 [PEq (ev.agg), PEq (.bool true), PEq (.bool false), PEq (.bool false), PEq (.pointer (some ⟨w.heap.size, 1, none⟩)), PEq (.int .i64 ev.thread), PEq (.bool false), PEq (.bool false), PEq (.bool false), PEq (.pointer (some ⟨w.heap.size, 1, none⟩)), PEq (.int .i64 ev.thread), PEq (.pointer (some ⟨p, 0, none⟩)), PEq (.pointer (some ⟨p, 0, none⟩)), PEq (.pointer (some ⟨p, 2, none⟩)), PEq (.slice (some ⟨m.hg, 0, none⟩) m.hs.length m.hc), PEq (.int .i64 (m.hs.length : Int)), PEq (.bool false), PEq (.bool false), PEq (.bool false), PEq (.pointer (some ⟨w.heap.size, 2, none⟩)), PEq (.int .i64 ev.now), PEq (.pointer (some ⟨p, 0, none⟩)), PEq (.pointer (some ⟨p, 0, none⟩)), PEq (.pointer (some ⟨p, 3, none⟩)), PEq (.int .i64 σ.now), PEq (.bool false), PEq (.bool false)] l w' [v0, v1, v2, v3, v4, v5, v6, v7, v8, v9, v10, v11, v12, v13, v14, v15, v16, v17, v18, v19, v20, v21, v22, v23, v24, v25, v26]) ?hstep ?hend _ _ _ _ (by simp) (by simp) ?hstart)
  case hstart =>
    exact ⟨_, _, _, _, _, _, _, _, _, _, _, _, _, _, _, _, _, _, _, _, _, _, _, _, _, _, _, rfl, ⟨(Kept.refl _ _).drew, fun i P v _ hv hf => (flag_none hf).elim⟩⟩
  case hstep =>
    intro l a w2 i hs hI hi
    have hs' : l.size = 27 := hs
    obtain ⟨hlt, hu, hd⟩ := ready_of hi
    have hsj : ∀ j, j ≠ i → (l.setIfInBounds i true).getD j false = true → l.getD j false = true := fun j hj h => by
      rw [getD_set (by omega), if_neg hj] at h; exact h
    have HS := Lib.hid hsj; clear hsj
    have hlt' : i < 27 := hlt
    clear hi hlt hu
    obtain ⟨v0, v1, v2, v3, v4, v5, v6, v7, v8, v9, v10, v11, v12, v13, v14, v15, v16, v17, v18, v19, v20, v21, v22, v23, v24, v25, v26, rfl, F⟩ := hI
    have hi : i = 0 ∨ i = 1 ∨ i = 2 ∨ i = 3 ∨ i = 4 ∨ i = 5 ∨ i = 6 ∨ i = 7 ∨ i = 8 ∨ i = 9 ∨ i = 10 ∨ i = 11 ∨ i = 12 ∨ i = 13 ∨ i = 14 ∨ i = 15 ∨ i = 16 ∨ i = 17 ∨ i = 18 ∨ i = 19 ∨ i = 20 ∨ i = 21 ∨ i = 22 ∨ i = 23 ∨ i = 24 ∨ i = 25 ∨ i = 26 := by omega
    clear hlt'
    obtain ⟨y0, y1, y2, y3, y4, y5, y6, y7, y8⟩ := SF.out _ F.kept
    rcases hi with rfl | rfl | rfl | rfl | rfl | rfl | rfl | rfl | rfl | rfl | rfl | rfl | rfl | rfl | rfl | rfl | rfl | rfl | rfl | rfl | rfl | rfl | rfl | rfl | rfl | rfl | rfl
    · refine wpOp_open rfl (fun K hK => ?_)
      go_simp
      exact hK.out _ _ ⟨_, _, _, _, _, _, _, _, _, _, _, _, _, _, _, _, _, _, _, _, _, _, _, _, _, _, _, rfl, F.step HST.out 0 HS.out (Kept.refl _ _) _ rfl _ rfl⟩
    · have d0 : l.getD 0 false = true := by simp [Region.binds] at hd; simp [hd]
      obtain rfl := F.at_ 0 _ _ rfl rfl d0
      refine wpOp_open rfl (fun K hK => ?_)
      go_simp
      refine (HBR.out _).mono ?_
      rintro e w4 ⟨rfl, hk4⟩
      exact hK.out _ _ ⟨_, _, _, _, _, _, _, _, _, _, _, _, _, _, _, _, _, _, _, _, _, _, _, _, _, _, _, rfl, F.step HST.out 1 HS.out (hk4) _ rfl _ rfl⟩
    · have d1 : l.getD 1 false = true := by simp [Region.binds] at hd; simp [hd]
      obtain rfl := F.at_ 1 _ _ rfl rfl d1
      refine wpOp_open rfl (fun K hK => ?_)
      go_simp
      exact hK.out _ _ ⟨_, _, _, _, _, _, _, _, _, _, _, _, _, _, _, _, _, _, _, _, _, _, _, _, _, _, _, rfl, F.step HST.out 2 HS.out (Kept.refl _ _) _ rfl _ rfl⟩
    · have d2 : l.getD 2 false = true := by simp [Region.binds] at hd; simp [hd]
      obtain rfl := F.at_ 2 _ _ rfl rfl d2
      refine wpOp_open rfl (fun K hK => ?_)
      go_simp
      exact hK.out _ _ ⟨_, _, _, _, _, _, _, _, _, _, _, _, _, _, _, _, _, _, _, _, _, _, _, _, _, _, _, rfl, F.step HST.out 3 HS.out (Kept.refl _ _) _ rfl _ rfl⟩
    · have d3 : l.getD 3 false = true := by simp [Region.binds] at hd; simp [hd]
      obtain rfl := F.at_ 3 _ _ rfl rfl d3
      refine wpOp_open rfl (fun K hK => ?_)
      go_simp
      exact hK.out _ _ ⟨_, _, _, _, _, _, _, _, _, _, _, _, _, _, _, _, _, _, _, _, _, _, _, _, _, _, _, rfl, F.step HST.out 4 HS.out (Kept.refl _ _) _ rfl _ rfl⟩
    · have d3 : l.getD 3 false = true := by simp [Region.binds] at hd; simp [hd]
      obtain rfl := F.at_ 3 _ _ rfl rfl d3
      have d4 : l.getD 4 false = true := by simp [Region.binds] at hd; simp [hd]
      obtain rfl := F.at_ 4 _ _ rfl rfl d4
      refine wpOp_open rfl (fun K hK => ?_)
      go_simp
      exact hK.out _ _ ⟨_, _, _, _, _, _, _, _, _, _, _, _, _, _, _, _, _, _, _, _, _, _, _, _, _, _, _, rfl, F.step HST.out 5 HS.out (Kept.refl _ _) _ rfl _ rfl⟩
    · have d3 : l.getD 3 false = true := by simp [Region.binds] at hd; simp [hd]
      obtain rfl := F.at_ 3 _ _ rfl rfl d3
      have d5 : l.getD 5 false = true := by simp [Region.binds] at hd; simp [hd]
      obtain rfl := F.at_ 5 _ _ rfl rfl d5
      refine wpOp_open rfl (fun K hK => ?_)
      go_simp
      exact hK.out _ _ ⟨_, _, _, _, _, _, _, _, _, _, _, _, _, _, _, _, _, _, _, _, _, _, _, _, _, _, _, rfl, F.step HST.out 6 HS.out (Kept.refl _ _) _ rfl _ rfl⟩
    · have d3 : l.getD 3 false = true := by simp [Region.binds] at hd; simp [hd]
      obtain rfl := F.at_ 3 _ _ rfl rfl d3
      have d6 : l.getD 6 false = true := by simp [Region.binds] at hd; simp [hd]
      obtain rfl := F.at_ 6 _ _ rfl rfl d6
      refine wpOp_open rfl (fun K hK => ?_)
      go_simp
      exact hK.out _ _ ⟨_, _, _, _, _, _, _, _, _, _, _, _, _, _, _, _, _, _, _, _, _, _, _, _, _, _, _, rfl, F.step HST.out 7 HS.out (Kept.refl _ _) _ rfl _ rfl⟩
    · have d7 : l.getD 7 false = true := by simp [Region.binds] at hd; simp [hd]
      obtain rfl := F.at_ 7 _ _ rfl rfl d7
      refine wpOp_open rfl (fun K hK => ?_)
      go_simp
      exact hK.out _ _ ⟨_, _, _, _, _, _, _, _, _, _, _, _, _, _, _, _, _, _, _, _, _, _, _, _, _, _, _, rfl, F.step HST.out 8 HS.out (Kept.refl _ _) _ rfl _ rfl⟩
    · have d8 : l.getD 8 false = true := by simp [Region.binds] at hd; simp [hd]
      obtain rfl := F.at_ 8 _ _ rfl rfl d8
      refine wpOp_open rfl (fun K hK => ?_)
      go_simp
      exact hK.out _ _ ⟨_, _, _, _, _, _, _, _, _, _, _, _, _, _, _, _, _, _, _, _, _, _, _, _, _, _, _, rfl, F.step HST.out 9 HS.out (Kept.refl _ _) _ rfl _ rfl⟩
    · have d8 : l.getD 8 false = true := by simp [Region.binds] at hd; simp [hd]
      obtain rfl := F.at_ 8 _ _ rfl rfl d8
      have d9 : l.getD 9 false = true := by simp [Region.binds] at hd; simp [hd]
      obtain rfl := F.at_ 9 _ _ rfl rfl d9
      refine wpOp_open rfl (fun K hK => ?_)
      go_simp
      exact hK.out _ _ ⟨_, _, _, _, _, _, _, _, _, _, _, _, _, _, _, _, _, _, _, _, _, _, _, _, _, _, _, rfl, F.step HST.out 10 HS.out (Kept.refl _ _) _ rfl _ rfl⟩
    · have d8 : l.getD 8 false = true := by simp [Region.binds] at hd; simp [hd]
      obtain rfl := F.at_ 8 _ _ rfl rfl d8
      refine wpOp_open rfl (fun K hK => ?_)
      go_simp
      exact hK.out _ _ ⟨_, _, _, _, _, _, _, _, _, _, _, _, _, _, _, _, _, _, _, _, _, _, _, _, _, _, _, rfl, F.step HST.out 11 HS.out (Kept.refl _ _) _ rfl _ rfl⟩
    · have d8 : l.getD 8 false = true := by simp [Region.binds] at hd; simp [hd]
      obtain rfl := F.at_ 8 _ _ rfl rfl d8
      have d11 : l.getD 11 false = true := by simp [Region.binds] at hd; simp [hd]
      obtain rfl := F.at_ 11 _ _ rfl rfl d11
      refine wpOp_open rfl (fun K hK => ?_)
      go_simp
      exact hK.out _ _ ⟨_, _, _, _, _, _, _, _, _, _, _, _, _, _, _, _, _, _, _, _, _, _, _, _, _, _, _, rfl, F.step HST.out 12 HS.out (Kept.refl _ _) _ rfl _ rfl⟩
    · have d8 : l.getD 8 false = true := by simp [Region.binds] at hd; simp [hd]
      obtain rfl := F.at_ 8 _ _ rfl rfl d8
      have d12 : l.getD 12 false = true := by simp [Region.binds] at hd; simp [hd]
      obtain rfl := F.at_ 12 _ _ rfl rfl d12
      refine wpOp_open rfl (fun K hK => ?_)
      go_simp
      exact hK.out _ _ ⟨_, _, _, _, _, _, _, _, _, _, _, _, _, _, _, _, _, _, _, _, _, _, _, _, _, _, _, rfl, F.step HST.out 13 HS.out (Kept.refl _ _) _ rfl _ rfl⟩
    · have d8 : l.getD 8 false = true := by simp [Region.binds] at hd; simp [hd]
      obtain rfl := F.at_ 8 _ _ rfl rfl d8
      have d13 : l.getD 13 false = true := by simp [Region.binds] at hd; simp [hd]
      obtain rfl := F.at_ 13 _ _ rfl rfl d13
      refine wpOp_open rfl (fun K hK => ?_)
      go_simp
      exact hK.out _ _ ⟨_, _, _, _, _, _, _, _, _, _, _, _, _, _, _, _, _, _, _, _, _, _, _, _, _, _, _, rfl, F.step HST.out 14 HS.out (Kept.refl _ _) _ rfl _ rfl⟩
    · have d8 : l.getD 8 false = true := by simp [Region.binds] at hd; simp [hd]
      obtain rfl := F.at_ 8 _ _ rfl rfl d8
      have d14 : l.getD 14 false = true := by simp [Region.binds] at hd; simp [hd]
      obtain rfl := F.at_ 14 _ _ rfl rfl d14
      refine wpOp_open rfl (fun K hK => ?_)
      go_simp
      exact hK.out _ _ ⟨_, _, _, _, _, _, _, _, _, _, _, _, _, _, _, _, _, _, _, _, _, _, _, _, _, _, _, rfl, F.step HST.out 15 HS.out (Kept.refl _ _) _ rfl _ rfl⟩
    · have d8 : l.getD 8 false = true := by simp [Region.binds] at hd; simp [hd]
      obtain rfl := F.at_ 8 _ _ rfl rfl d8
      have d10 : l.getD 10 false = true := by simp [Region.binds] at hd; simp [hd]
      obtain rfl := F.at_ 10 _ _ rfl rfl d10
      have d15 : l.getD 15 false = true := by simp [Region.binds] at hd; simp [hd]
      obtain rfl := F.at_ 15 _ _ rfl rfl d15
      refine wpOp_open rfl (fun K hK => ?_)
      go_simp
      exact hK.out _ _ ⟨_, _, _, _, _, _, _, _, _, _, _, _, _, _, _, _, _, _, _, _, _, _, _, _, _, _, _, rfl, F.step HST.out 16 HS.out (Kept.refl _ _) _ rfl _ rfl⟩
    · have d8 : l.getD 8 false = true := by simp [Region.binds] at hd; simp [hd]
      obtain rfl := F.at_ 8 _ _ rfl rfl d8
      have d16 : l.getD 16 false = true := by simp [Region.binds] at hd; simp [hd]
      obtain rfl := F.at_ 16 _ _ rfl rfl d16
      refine wpOp_open rfl (fun K hK => ?_)
      go_simp
      exact hK.out _ _ ⟨_, _, _, _, _, _, _, _, _, _, _, _, _, _, _, _, _, _, _, _, _, _, _, _, _, _, _, rfl, F.step HST.out 17 HS.out (Kept.refl _ _) _ rfl _ rfl⟩
    · have d17 : l.getD 17 false = true := by simp [Region.binds] at hd; simp [hd]
      obtain rfl := F.at_ 17 _ _ rfl rfl d17
      refine wpOp_open rfl (fun K hK => ?_)
      go_simp
      exact hK.out _ _ ⟨_, _, _, _, _, _, _, _, _, _, _, _, _, _, _, _, _, _, _, _, _, _, _, _, _, _, _, rfl, F.step HST.out 18 HS.out (Kept.refl _ _) _ rfl _ rfl⟩
    · have d18 : l.getD 18 false = true := by simp [Region.binds] at hd; simp [hd]
      obtain rfl := F.at_ 18 _ _ rfl rfl d18
      refine wpOp_open rfl (fun K hK => ?_)
      go_simp
      exact hK.out _ _ ⟨_, _, _, _, _, _, _, _, _, _, _, _, _, _, _, _, _, _, _, _, _, _, _, _, _, _, _, rfl, F.step HST.out 19 HS.out (Kept.refl _ _) _ rfl _ rfl⟩
    · have d18 : l.getD 18 false = true := by simp [Region.binds] at hd; simp [hd]
      obtain rfl := F.at_ 18 _ _ rfl rfl d18
      have d19 : l.getD 19 false = true := by simp [Region.binds] at hd; simp [hd]
      obtain rfl := F.at_ 19 _ _ rfl rfl d19
      refine wpOp_open rfl (fun K hK => ?_)
      go_simp
      exact hK.out _ _ ⟨_, _, _, _, _, _, _, _, _, _, _, _, _, _, _, _, _, _, _, _, _, _, _, _, _, _, _, rfl, F.step HST.out 20 HS.out (Kept.refl _ _) _ rfl _ rfl⟩
    · have d18 : l.getD 18 false = true := by simp [Region.binds] at hd; simp [hd]
      obtain rfl := F.at_ 18 _ _ rfl rfl d18
      refine wpOp_open rfl (fun K hK => ?_)
      go_simp
      exact hK.out _ _ ⟨_, _, _, _, _, _, _, _, _, _, _, _, _, _, _, _, _, _, _, _, _, _, _, _, _, _, _, rfl, F.step HST.out 21 HS.out (Kept.refl _ _) _ rfl _ rfl⟩
    · have d18 : l.getD 18 false = true := by simp [Region.binds] at hd; simp [hd]
      obtain rfl := F.at_ 18 _ _ rfl rfl d18
      have d21 : l.getD 21 false = true := by simp [Region.binds] at hd; simp [hd]
      obtain rfl := F.at_ 21 _ _ rfl rfl d21
      refine wpOp_open rfl (fun K hK => ?_)
      go_simp
      exact hK.out _ _ ⟨_, _, _, _, _, _, _, _, _, _, _, _, _, _, _, _, _, _, _, _, _, _, _, _, _, _, _, rfl, F.step HST.out 22 HS.out (Kept.refl _ _) _ rfl _ rfl⟩
    · have d18 : l.getD 18 false = true := by simp [Region.binds] at hd; simp [hd]
      obtain rfl := F.at_ 18 _ _ rfl rfl d18
      have d22 : l.getD 22 false = true := by simp [Region.binds] at hd; simp [hd]
      obtain rfl := F.at_ 22 _ _ rfl rfl d22
      refine wpOp_open rfl (fun K hK => ?_)
      go_simp
      exact hK.out _ _ ⟨_, _, _, _, _, _, _, _, _, _, _, _, _, _, _, _, _, _, _, _, _, _, _, _, _, _, _, rfl, F.step HST.out 23 HS.out (Kept.refl _ _) _ rfl _ rfl⟩
    · have d18 : l.getD 18 false = true := by simp [Region.binds] at hd; simp [hd]
      obtain rfl := F.at_ 18 _ _ rfl rfl d18
      have d23 : l.getD 23 false = true := by simp [Region.binds] at hd; simp [hd]
      obtain rfl := F.at_ 23 _ _ rfl rfl d23
      refine wpOp_open rfl (fun K hK => ?_)
      go_simp
      exact hK.out _ _ ⟨_, _, _, _, _, _, _, _, _, _, _, _, _, _, _, _, _, _, _, _, _, _, _, _, _, _, _, rfl, F.step HST.out 24 HS.out (Kept.refl _ _) _ rfl _ rfl⟩
    · have d18 : l.getD 18 false = true := by simp [Region.binds] at hd; simp [hd]
      obtain rfl := F.at_ 18 _ _ rfl rfl d18
      have d20 : l.getD 20 false = true := by simp [Region.binds] at hd; simp [hd]
      obtain rfl := F.at_ 20 _ _ rfl rfl d20
      have d24 : l.getD 24 false = true := by simp [Region.binds] at hd; simp [hd]
      obtain rfl := F.at_ 24 _ _ rfl rfl d24
      refine wpOp_open rfl (fun K hK => ?_)
      go_simp
      exact hK.out _ _ ⟨_, _, _, _, _, _, _, _, _, _, _, _, _, _, _, _, _, _, _, _, _, _, _, _, _, _, _, rfl, F.step HST.out 25 HS.out (Kept.refl _ _) _ rfl _ rfl⟩
    · have d18 : l.getD 18 false = true := by simp [Region.binds] at hd; simp [hd]
      obtain rfl := F.at_ 18 _ _ rfl rfl d18
      have d25 : l.getD 25 false = true := by simp [Region.binds] at hd; simp [hd]
      obtain rfl := F.at_ 25 _ _ rfl rfl d25
      refine wpOp_open rfl (fun K hK => ?_)
      go_simp
      exact hK.out _ _ ⟨_, _, _, _, _, _, _, _, _, _, _, _, _, _, _, _, _, _, _, _, _, _, _, _, _, _, _, rfl, F.step HST.out 26 HS.out (Kept.refl _ _) _ rfl _ rfl⟩
  case hend =>
    intro l a w1 hs hI hr
    have hs' : l.size = 27 := hs
    obtain ⟨v0, v1, v2, v3, v4, v5, v6, v7, v8, v9, v10, v11, v12, v13, v14, v15, v16, v17, v18, v19, v20, v21, v22, v23, v24, v25, v26, rfl, F⟩ := hI
    have HAR := all_ready hs (by kernel_rfl) hr
    obtain rfl := F.at_ 0 _ _ rfl rfl (HAR 0 (by decide))
    obtain rfl := F.at_ 1 _ _ rfl rfl (HAR 1 (by decide))
    obtain rfl := F.at_ 2 _ _ rfl rfl (HAR 2 (by decide))
    obtain rfl := F.at_ 3 _ _ rfl rfl (HAR 3 (by decide))
    obtain rfl := F.at_ 4 _ _ rfl rfl (HAR 4 (by decide))
    obtain rfl := F.at_ 5 _ _ rfl rfl (HAR 5 (by decide))
    obtain rfl := F.at_ 6 _ _ rfl rfl (HAR 6 (by decide))
    obtain rfl := F.at_ 7 _ _ rfl rfl (HAR 7 (by decide))
    obtain rfl := F.at_ 8 _ _ rfl rfl (HAR 8 (by decide))
    obtain rfl := F.at_ 9 _ _ rfl rfl (HAR 9 (by decide))
    obtain rfl := F.at_ 10 _ _ rfl rfl (HAR 10 (by decide))
    obtain rfl := F.at_ 11 _ _ rfl rfl (HAR 11 (by decide))
    obtain rfl := F.at_ 12 _ _ rfl rfl (HAR 12 (by decide))
    obtain rfl := F.at_ 13 _ _ rfl rfl (HAR 13 (by decide))
    obtain rfl := F.at_ 14 _ _ rfl rfl (HAR 14 (by decide))
    obtain rfl := F.at_ 15 _ _ rfl rfl (HAR 15 (by decide))
    obtain rfl := F.at_ 16 _ _ rfl rfl (HAR 16 (by decide))
    obtain rfl := F.at_ 17 _ _ rfl rfl (HAR 17 (by decide))
    obtain rfl := F.at_ 18 _ _ rfl rfl (HAR 18 (by decide))
    obtain rfl := F.at_ 19 _ _ rfl rfl (HAR 19 (by decide))
    obtain rfl := F.at_ 20 _ _ rfl rfl (HAR 20 (by decide))
    obtain rfl := F.at_ 21 _ _ rfl rfl (HAR 21 (by decide))
    obtain rfl := F.at_ 22 _ _ rfl rfl (HAR 22 (by decide))
    obtain rfl := F.at_ 23 _ _ rfl rfl (HAR 23 (by decide))
    obtain rfl := F.at_ 24 _ _ rfl rfl (HAR 24 (by decide))
    obtain rfl := F.at_ 25 _ _ rfl rfl (HAR 25 (by decide))
    obtain rfl := F.at_ 26 _ _ rfl rfl (HAR 26 (by decide))
    have HA := F.kept
    clear F hr HST HAR
    have q1 := HQ0.out.step (Step.of0 (C := fun _ => False) HA HQ0.out.wl) (fun _ f => f.elim)
    obtain ⟨qn, kn⟩ := q1.now ev.now
    have hn1 := HA.at0 HN0.out
    have hnn := kn.at_ hn1 (by rw [HNC.out]; simp)
    have hv2 := (ev_cells hn1).c2
    have hA3 := (SF.out _ HA).2.2.2.2.2.2.2.2
    have f3 := call_free q1.box 3
    have hE := ev_cells hnn
    have c1 := hE.c1
    rw [HTH.out] at c1
    have a2 := qn.cells.c2
    have HKN := Lib.hid ((HK0.out.tr0 HA |>.mono (T := fun b => κ b ≠ 0) (fun _ _ f => f.elim)).trans kn (fun _ _ e => e))
    have HQN := Lib.hid qn
    have HNN := Lib.hid hnn
    have e0 : (0 : Int) ≤ (i : Int) := by omega
    have e1 : (i : Int) < (m.hs.length : Int) := by omega
    clear q1 qn kn hn1 hnn HA hE
    go_wp2_with fail
    go_quiet (fail)
    have hk3 : Kept (fun _ => False) (w1.setCell ⟨p, 3, none⟩ (.int .i64 ev.now)) ((w1.setCell ⟨p, 3, none⟩ (.int .i64 ev.now)).drewN nq) := (Kept.refl _ _).drewN _
    have q3 := HQN.out.step (Step.of0 (C := fun _ => False) hk3 HQN.out.wl) (fun _ f => f.elim)
    have hn3 := hk3.at0 HNN.out
    have hkk := HKN.out.trans hk3 (fun _ _ f => f.elim)
    generalize (w1.setCell ⟨p, 3, none⟩ (.int .i64 ev.now)).drewN nq = w3 at *
    obtain ⟨b0, b1, b2, b3, b4, b5, b6⟩ := ev_cells hn3
    rw [HTH.out] at b1
    have z := th_cells q3.threads hi
    obtain ⟨z0, z1, z2, z3⟩ := z
    have HQ3 := Lib.hid q3
    have HKK := Lib.hid hkk
    clear hk3 hn3 hkk c1 a2 f3 hA3 hv2
    have z2' : w3.cell? ⟨m.hg, i * 4 + 2, none⟩ = some (.pointer (some ⟨b, 0, none⟩)) := by rw [z2, hp]; rfl
    clear z2
    have hT3 := HQ3.out.th i h t hi ht
    have hC3 := hT3.call
    rw [hp, hc] at hC3
    obtain ⟨d3, hC3⟩ := hC3
    have HCX := Lib.hid (end_any κ w3 HQ3.out.wl m.hg m.hc m.hs HQ3.out.threads HQ3.out.hcol i b h hi (by omega) hp t hT3.breaks c d3 hC3 s0 s1 t0 t1 r0 r1 ev.value ev.got)
    clear q3 hT3 hC3
    go_wp2_with fail
    refine HCX.out.mono ?_
    rintro e w5 ⟨rfl, hE5⟩
    have HT : Hid (BeginTo B p ((endM t c ev.value ev.got).map (fun t' => { σ with now := ev.now, threads := σ.threads.set i t' })) w5 ∧ Kept (fun b => κ b ≠ 0) w w5) := Lib.hid (by
      obtain ⟨k5, hR5⟩ := hE5
      refine ⟨fun σ' e => ?_, HKK.out.trans k5.kept (fun q _ e => by rcases e with e | e <;> rw [e] <;> omega)⟩
      simp only [Option.map_eq_some_iff] at e
      obtain ⟨t', he, rfl⟩ := e
      obtain ⟨-, g2, g3, g4, -, -⟩ := end_some he
      have hT3 := HQ3.out.th i h t hi ht
      refine ⟨κ, _, HQ3.out.thread i k5 (fun c e => e.elim .inl (fun e => .inr (.inl e))) _ t' (hR5 t' he) ⟨by rw [g3]; exact hT3.ops, elems_step hT3.el k5 (by omega) HQ3.out.size HQ3.out.low, by rw [g4]; exact hT3.begun, rfl, by rw [g2]; trivial⟩⟩)
    clear hE5
    go_wp2_with fail
    go_ret
    exact ⟨by rw [Option.isSome_map]; rfl, HT.out⟩

end Go.Proofs.YtbodlaiakcoabaaGreatDoor
