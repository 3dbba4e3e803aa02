/-
  An event, by its kind: an interrupt.
  Conditions: the state lies in memory.
  An event, whatever it is: what event comes to.
  Conditions: the state lies in memory, and is one that a history leaves.
  Events that came in.
  Conditions: none.
-/
import Derived.Test.YtbodlaiakcoabaaGreatDoorRepEv
import Derived.Test.YtbodlaiakcoabaaGreatDoorRepEvA
import Derived.Test.YtbodlaiakcoabaaGreatDoorRepEvB
import Derived.Test.YtbodlaiakcoabaaGreatDoorRepEvC
import Derived.Test.YtbodlaiakcoabaaGreatDoorScr
import Derived.OpenShut
section
namespace Go.Proofs.YtbodlaiakcoabaaGreatDoor
open Go.RowKit
set_option linter.unusedSimpArgs false
set_option linter.unusedVariables false
set_option maxRecDepth 100000

set_option maxHeartbeats 16000000 in
theorem event_k4 (B p : Nat) (κ : Nat → Nat) (w : World) (σ : St) (m : Mem) (q : In B p κ w σ m) (hlen : m.hs.length ≤ 8) (ev : Ev) (d0 : bareM ev = true) (d1 : decide (ev.thread < 0) = false) (d2 : decide ((m.hs.length : Int) ≤ ev.thread) = false) (d3 : decide (ev.now < σ.now) = false) (i : Nat) (hthr : ev.thread = (i : Int)) (hil : i < m.hs.length) (h : Hh) (t : Tr) (hi : m.hs[i]? = some h) (ht : σ.threads[i]? = some t) (j1 : (ev.kind == 1) = false) (j2 : (ev.kind == 2) = false) (j3 : (ev.kind == 3) = false) (j4 : (ev.kind == 4) = true) (r0 : -1000000 ≤ t.breaks) (r1 : t.breaks ≤ 1000000) :
    Calls Tryz.prog 23 #[.pointer (some ⟨p, 0, none⟩), ev.agg] w fun e w' => e = .returned (.bool true) ∧ BeginTo B p (some { σ with now := ev.now, threads := σ.threads.set i { t with breaks := t.breaks + 1 } }) w' ∧ Kept (fun b => κ b ≠ 0) w w' := by
  have HTH := Lib.hid hthr
  clear hthr
  obtain ⟨W0, hW0⟩ : ∃ W0, w.alloc (.cells #[.int .i64 ev.kind, .int .i64 ev.thread, .int .i64 ev.now, .int .i64 ev.m.kind, .int .i64 ev.m.v, .int .i64 ev.value, .int .i64 ev.got] 38) = W0 := ⟨_, rfl⟩
  have hk0 : Kept (fun _ => False) w W0 := by rw [← hW0]; exact (Kept.refl _ _).alloc _
  have hn0 : W0.heap[w.heap.size]? = some (.cells #[.int .i64 ev.kind, .int .i64 ev.thread, .int .i64 ev.now, .int .i64 ev.m.kind, .int .i64 ev.m.v, .int .i64 ev.value, .int .i64 ev.got] 38 (0, 0)) := by rw [← hW0]; exact heap_new1 _ _
  have hnc : κ w.heap.size = 0 := Classical.byContradiction (fun e => Nat.lt_irrefl _ (q.wl.lt _ e))
  have q0 : In B p κ W0 σ m := q.step (Step.of0 (C := fun _ => False) hk0 q.wl) (fun _ f => f.elim)
  have SF : Hid (∀ w', Kept (fun _ => False) W0 w' → w'.cell? ⟨w.heap.size, 0, none⟩ = some (.int .i64 ev.kind) ∧ w'.cell? ⟨w.heap.size, 1, none⟩ = some (.int .i64 ev.thread) ∧ w'.cell? ⟨w.heap.size, 2, none⟩ = some (.int .i64 ev.now) ∧ w'.cell? ⟨w.heap.size, 3, none⟩ = some (.int .i64 ev.m.kind) ∧ w'.cell? ⟨w.heap.size, 4, none⟩ = some (.int .i64 ev.m.v) ∧ w'.cell? ⟨w.heap.size, 5, none⟩ = some (.int .i64 ev.value) ∧ w'.cell? ⟨w.heap.size, 6, none⟩ = some (.int .i64 ev.got) ∧ w'.cell? ⟨p, 2, none⟩ = some (.slice (some ⟨m.hg, 0, none⟩) m.hs.length m.hc) ∧ w'.cell? ⟨p, 3, none⟩ = some (.int .i64 σ.now)) := Lib.hid (fun w' hk => by
    have h := ev_cells (hk.at0 hn0)
    have hb := hk.at0 q0.box
    exact ⟨h.c0, h.c1, h.c2, h.c3, h.c4, h.c5, h.c6, by rw [cell_at _ _ 2 _ _ hb]; rfl, by rw [cell_at _ _ 3 _ _ hb]; rfl⟩)
  have HQ0 := Lib.hid q0
  have HN0 := Lib.hid hn0
  have HNC := Lib.hid hnc
  have HK0 := Lib.hid hk0
  have HBR : Hid (∀ w', Calls Tryz.prog 35 #[ev.agg] w' fun e w'' => e = .returned (.bool true) ∧ Kept (fun _ => False) w' w'') := Lib.hid (fun w' => by have := bare_any ev w'; rw [d0] at this; exact this)
  clear q0 hk0 hn0 hnc
  obtain ⟨y0, y1, y2, y3, y4, y5, y6, y7, y8⟩ := SF.out _ (Kept.refl _ _)
  go_enter Tryz.func23, Tryz.ntmps23
  go_wp2_with fail
  have HST : Hid (StayAll [PEq (ev.agg), PEq (.bool true), PEq (.bool false), PEq (.bool false), PEq (.pointer (some ⟨w.heap.size, 1, none⟩)), PEq (.int .i64 ev.thread), PEq (.bool false), PEq (.bool false), PEq (.bool false), PEq (.pointer (some ⟨w.heap.size, 1, none⟩)), PEq (.int .i64 ev.thread), PEq (.pointer (some ⟨p, 0, none⟩)), PEq (.pointer (some ⟨p, 0, none⟩)), PEq (.pointer (some ⟨p, 2, none⟩)), PEq (.slice (some ⟨m.hg, 0, none⟩) m.hs.length m.hc), PEq (.int .i64 (m.hs.length : Int)), PEq (.bool false), PEq (.bool false), PEq (.bool false), PEq (.pointer (some ⟨w.heap.size, 2, none⟩)), PEq (.int .i64 ev.now), PEq (.pointer (some ⟨p, 0, none⟩)), PEq (.pointer (some ⟨p, 0, none⟩)), PEq (.pointer (some ⟨p, 3, none⟩)), PEq (.int .i64 σ.now), PEq (.bool false), PEq (.bool false)]) := Lib.hid ⟨stay_eq _, stay_eq _, stay_eq _, stay_eq _, stay_eq _, stay_eq _, stay_eq _, stay_eq _, stay_eq _, stay_eq _, stay_eq _, stay_eq _, stay_eq _, stay_eq _, stay_eq _, stay_eq _, stay_eq _, stay_eq _, stay_eq _, stay_eq _, stay_eq _, stay_eq _, stay_eq _, stay_eq _, stay_eq _, stay_eq _, stay_eq _, trivial⟩
  refine wp_region_any (by kernel_rfl) (wpAny_inv (fun l a w' => ∃ v0 v1 v2 v3 v4 v5 v6 v7 v8 v9 v10 v11 v12 v13 v14 v15 v16 v17 v18 v19 v20 v21 v22 v23 v24 v25 v26, a = ⟨#[.pointer (some ⟨p, 0, none⟩), ev.agg, undef, .pointer (some ⟨w.heap.size, 0, none⟩), .bool false, undef, v0, v1, v2, v3, v4, v5, v6, v7, v8, v9, v10, v11, v12, v13, v14, v15, v16, v17, v18, v19, v20, v21, v22, v23, v24, v25, v26, undef, undef, undef, undef, undef, undef, undef, undef, undef, undef, undef, undef, undef, undef, undef, undef, undef, undef, undef, undef, undef, undef, undef, undef, undef, undef, undef, undef, undef, undef, undef, undef, undef, undef, undef, undef, undef, undef, undef, undef, undef, undef, undef, undef, undef, undef, undef, undef, undef, undef, undef, undef, undef, undef, undef, undef, undef, undef], []⟩ ∧ FG W0 [PEq (ev.agg), PEq (.bool true), PEq (.bool false), PEq (.bool false), PEq (.pointer (some ⟨w.heap.size, 1, none⟩)), PEq (.int .i64 ev.thread), PEq (.bool false), PEq (.bool false), PEq (.bool false), PEq (.pointer (some ⟨w.heap.size, 1, none⟩)), PEq (.int .i64 ev.thread), PEq (.pointer (some ⟨p, 0, none⟩)), PEq (.pointer (some ⟨p, 0, none⟩)), PEq (.pointer (some ⟨p, 2, none⟩)), PEq (.slice (some ⟨m.hg, 0, none⟩) m.hs.length m.hc), PEq (.int .i64 (m.hs.length : Int)), PEq (.bool false), PEq (.bool false), PEq (.bool false), PEq (.pointer (some ⟨w.heap.size, 2, none⟩)), PEq (.int .i64 ev.now), PEq (.pointer (some ⟨p, 0, none⟩)), PEq (.pointer (some ⟨p, 0, none⟩)), PEq (.pointer (some ⟨p, 3, none⟩)), PEq (.int .i64 σ.now), PEq (.bool false), PEq (.bool false)] l w' [v0, v1, v2, v3, v4, v5, v6, v7, v8, v9, v10, v11, v12, v13, v14, v15, v16, v17, v18, v19, v20, v21, v22, v23, v24, v25, v26]) ?hstep ?hend _ _ _ _ (by simp) (by simp) ?hstart)
  case hstart =>
    exact ⟨_, _, _, _, _, _, _, _, _, _, _, _, _, _, _, _, _, _, _, _, _, _, _, _, _, _, _, rfl, ⟨(Kept.refl _ _).drew, fun i P v _ hv hf => (flag_none hf).elim⟩⟩
  case hstep =>
    intro l a w2 i hs hI hi
    have hs' : l.size = 27 := hs
    obtain ⟨hlt, hu, hd⟩ := ready_of hi
    have hsj : ∀ j, j ≠ i → (l.setIfInBounds i true).getD j false = true → l.getD j false = true := fun j hj h => by
      rw [getD_set (by omega), if_neg hj] at h; exact h
    have HS := Lib.hid hsj; clear hsj
    have hlt' : i < 27 := hlt
    clear hi hlt hu
    obtain ⟨v0, v1, v2, v3, v4, v5, v6, v7, v8, v9, v10, v11, v12, v13, v14, v15, v16, v17, v18, v19, v20, v21, v22, v23, v24, v25, v26, rfl, F⟩ := hI
    have hi : i = 0 ∨ i = 1 ∨ i = 2 ∨ i = 3 ∨ i = 4 ∨ i = 5 ∨ i = 6 ∨ i = 7 ∨ i = 8 ∨ i = 9 ∨ i = 10 ∨ i = 11 ∨ i = 12 ∨ i = 13 ∨ i = 14 ∨ i = 15 ∨ i = 16 ∨ i = 17 ∨ i = 18 ∨ i = 19 ∨ i = 20 ∨ i = 21 ∨ i = 22 ∨ i = 23 ∨ i = 24 ∨ i = 25 ∨ i = 26 := by omega
    clear hlt'
    obtain ⟨y0, y1, y2, y3, y4, y5, y6, y7, y8⟩ := SF.out _ F.kept
    rcases hi with rfl | rfl | rfl | rfl | rfl | rfl | rfl | rfl | rfl | rfl | rfl | rfl | rfl | rfl | rfl | rfl | rfl | rfl | rfl | rfl | rfl | rfl | rfl | rfl | rfl | rfl | rfl
    · refine wpOp_open rfl (fun K hK => ?_)
      go_simp
      exact hK.out _ _ ⟨_, _, _, _, _, _, _, _, _, _, _, _, _, _, _, _, _, _, _, _, _, _, _, _, _, _, _, rfl, F.step HST.out 0 HS.out (Kept.refl _ _) _ rfl _ rfl⟩
    · have d0 : l.getD 0 false = true := by simp [Region.binds] at hd; simp [hd]
      obtain rfl := F.at_ 0 _ _ rfl rfl d0
      refine wpOp_open rfl (fun K hK => ?_)
      go_simp
      refine (HBR.out _).mono ?_
      rintro e w4 ⟨rfl, hk4⟩
      exact hK.out _ _ ⟨_, _, _, _, _, _, _, _, _, _, _, _, _, _, _, _, _, _, _, _, _, _, _, _, _, _, _, rfl, F.step HST.out 1 HS.out (hk4) _ rfl _ rfl⟩
    · have d1 : l.getD 1 false = true := by simp [Region.binds] at hd; simp [hd]
      obtain rfl := F.at_ 1 _ _ rfl rfl d1
      refine wpOp_open rfl (fun K hK => ?_)
      go_simp
      exact hK.out _ _ ⟨_, _, _, _, _, _, _, _, _, _, _, _, _, _, _, _, _, _, _, _, _, _, _, _, _, _, _, rfl, F.step HST.out 2 HS.out (Kept.refl _ _) _ rfl _ rfl⟩
    · have d2 : l.getD 2 false = true := by simp [Region.binds] at hd; simp [hd]
      obtain rfl := F.at_ 2 _ _ rfl rfl d2
      refine wpOp_open rfl (fun K hK => ?_)
      go_simp
      exact hK.out _ _ ⟨_, _, _, _, _, _, _, _, _, _, _, _, _, _, _, _, _, _, _, _, _, _, _, _, _, _, _, rfl, F.step HST.out 3 HS.out (Kept.refl _ _) _ rfl _ rfl⟩
    · have d3 : l.getD 3 false = true := by simp [Region.binds] at hd; simp [hd]
      obtain rfl := F.at_ 3 _ _ rfl rfl d3
      refine wpOp_open rfl (fun K hK => ?_)
      go_simp
      exact hK.out _ _ ⟨_, _, _, _, _, _, _, _, _, _, _, _, _, _, _, _, _, _, _, _, _, _, _, _, _, _, _, rfl, F.step HST.out 4 HS.out (Kept.refl _ _) _ rfl _ rfl⟩
    · have d3 : l.getD 3 false = true := by simp [Region.binds] at hd; simp [hd]
      obtain rfl := F.at_ 3 _ _ rfl rfl d3
      have d4 : l.getD 4 false = true := by simp [Region.binds] at hd; simp [hd]
      obtain rfl := F.at_ 4 _ _ rfl rfl d4
      refine wpOp_open rfl (fun K hK => ?_)
      go_simp
      exact hK.out _ _ ⟨_, _, _, _, _, _, _, _, _, _, _, _, _, _, _, _, _, _, _, _, _, _, _, _, _, _, _, rfl, F.step HST.out 5 HS.out (Kept.refl _ _) _ rfl _ rfl⟩
    · have d3 : l.getD 3 false = true := by simp [Region.binds] at hd; simp [hd]
      obtain rfl := F.at_ 3 _ _ rfl rfl d3
      have d5 : l.getD 5 false = true := by simp [Region.binds] at hd; simp [hd]
      obtain rfl := F.at_ 5 _ _ rfl rfl d5
      refine wpOp_open rfl (fun K hK => ?_)
      go_simp
      exact hK.out _ _ ⟨_, _, _, _, _, _, _, _, _, _, _, _, _, _, _, _, _, _, _, _, _, _, _, _, _, _, _, rfl, F.step HST.out 6 HS.out (Kept.refl _ _) _ rfl _ rfl⟩
    · have d3 : l.getD 3 false = true := by simp [Region.binds] at hd; simp [hd]
      obtain rfl := F.at_ 3 _ _ rfl rfl d3
      have d6 : l.getD 6 false = true := by simp [Region.binds] at hd; simp [hd]
      obtain rfl := F.at_ 6 _ _ rfl rfl d6
      refine wpOp_open rfl (fun K hK => ?_)
      go_simp
      exact hK.out _ _ ⟨_, _, _, _, _, _, _, _, _, _, _, _, _, _, _, _, _, _, _, _, _, _, _, _, _, _, _, rfl, F.step HST.out 7 HS.out (Kept.refl _ _) _ rfl _ rfl⟩
    · have d7 : l.getD 7 false = true := by simp [Region.binds] at hd; simp [hd]
      obtain rfl := F.at_ 7 _ _ rfl rfl d7
      refine wpOp_open rfl (fun K hK => ?_)
      go_simp
      exact hK.out _ _ ⟨_, _, _, _, _, _, _, _, _, _, _, _, _, _, _, _, _, _, _, _, _, _, _, _, _, _, _, rfl, F.step HST.out 8 HS.out (Kept.refl _ _) _ rfl _ rfl⟩
    · have d8 : l.getD 8 false = true := by simp [Region.binds] at hd; simp [hd]
      obtain rfl := F.at_ 8 _ _ rfl rfl d8
      refine wpOp_open rfl (fun K hK => ?_)
      go_simp
      exact hK.out _ _ ⟨_, _, _, _, _, _, _, _, _, _, _, _, _, _, _, _, _, _, _, _, _, _, _, _, _, _, _, rfl, F.step HST.out 9 HS.out (Kept.refl _ _) _ rfl _ rfl⟩
    · have d8 : l.getD 8 false = true := by simp [Region.binds] at hd; simp [hd]
      obtain rfl := F.at_ 8 _ _ rfl rfl d8
      have d9 : l.getD 9 false = true := by simp [Region.binds] at hd; simp [hd]
      obtain rfl := F.at_ 9 _ _ rfl rfl d9
      refine wpOp_open rfl (fun K hK => ?_)
      go_simp
      exact hK.out _ _ ⟨_, _, _, _, _, _, _, _, _, _, _, _, _, _, _, _, _, _, _, _, _, _, _, _, _, _, _, rfl, F.step HST.out 10 HS.out (Kept.refl _ _) _ rfl _ rfl⟩
    · have d8 : l.getD 8 false = true := by simp [Region.binds] at hd; simp [hd]
      obtain rfl := F.at_ 8 _ _ rfl rfl d8
      refine wpOp_open rfl (fun K hK => ?_)
      go_simp
      exact hK.out _ _ ⟨_, _, _, _, _, _, _, _, _, _, _, _, _, _, _, _, _, _, _, _, _, _, _, _, _, _, _, rfl, F.step HST.out 11 HS.out (Kept.refl _ _) _ rfl _ rfl⟩
    · have d8 : l.getD 8 false = true := by simp [Region.binds] at hd; simp [hd]
      obtain rfl := F.at_ 8 _ _ rfl rfl d8
      have d11 : l.getD 11 false = true := by simp [Region.binds] at hd; simp [hd]
      obtain rfl := F.at_ 11 _ _ rfl rfl d11
      refine wpOp_open rfl (fun K hK => ?_)
      go_simp
      exact hK.out _ _ ⟨_, _, _, _, _, _, _, _, _, _, _, _, _, _, _, _, _, _, _, _, _, _, _, _, _, _, _, rfl, F.step HST.out 12 HS.out (Kept.refl _ _) _ rfl _ rfl⟩
    · have d8 : l.getD 8 false = true := by simp [Region.binds] at hd; simp [hd]
      obtain rfl := F.at_ 8 _ _ rfl rfl d8
      have d12 : l.getD 12 false = true := by simp [Region.binds] at hd; simp [hd]
      obtain rfl := F.at_ 12 _ _ rfl rfl d12
      refine wpOp_open rfl (fun K hK => ?_)
      go_simp
      exact hK.out _ _ ⟨_, _, _, _, _, _, _, _, _, _, _, _, _, _, _, _, _, _, _, _, _, _, _, _, _, _, _, rfl, F.step HST.out 13 HS.out (Kept.refl _ _) _ rfl _ rfl⟩
    · have d8 : l.getD 8 false = true := by simp [Region.binds] at hd; simp [hd]
      obtain rfl := F.at_ 8 _ _ rfl rfl d8
      have d13 : l.getD 13 false = true := by simp [Region.binds] at hd; simp [hd]
      obtain rfl := F.at_ 13 _ _ rfl rfl d13
      refine wpOp_open rfl (fun K hK => ?_)
      go_simp
      exact hK.out _ _ ⟨_, _, _, _, _, _, _, _, _, _, _, _, _, _, _, _, _, _, _, _, _, _, _, _, _, _, _, rfl, F.step HST.out 14 HS.out (Kept.refl _ _) _ rfl _ rfl⟩
    · have d8 : l.getD 8 false = true := by simp [Region.binds] at hd; simp [hd]
      obtain rfl := F.at_ 8 _ _ rfl rfl d8
      have d14 : l.getD 14 false = true := by simp [Region.binds] at hd; simp [hd]
      obtain rfl := F.at_ 14 _ _ rfl rfl d14
      refine wpOp_open rfl (fun K hK => ?_)
      go_simp
      exact hK.out _ _ ⟨_, _, _, _, _, _, _, _, _, _, _, _, _, _, _, _, _, _, _, _, _, _, _, _, _, _, _, rfl, F.step HST.out 15 HS.out (Kept.refl _ _) _ rfl _ rfl⟩
    · have d8 : l.getD 8 false = true := by simp [Region.binds] at hd; simp [hd]
      obtain rfl := F.at_ 8 _ _ rfl rfl d8
      have d10 : l.getD 10 false = true := by simp [Region.binds] at hd; simp [hd]
      obtain rfl := F.at_ 10 _ _ rfl rfl d10
      have d15 : l.getD 15 false = true := by simp [Region.binds] at hd; simp [hd]
      obtain rfl := F.at_ 15 _ _ rfl rfl d15
      refine wpOp_open rfl (fun K hK => ?_)
      go_simp
      exact hK.out _ _ ⟨_, _, _, _, _, _, _, _, _, _, _, _, _, _, _, _, _, _, _, _, _, _, _, _, _, _, _, rfl, F.step HST.out 16 HS.out (Kept.refl _ _) _ rfl _ rfl⟩
    · have d8 : l.getD 8 false = true := by simp [Region.binds] at hd; simp [hd]
      obtain rfl := F.at_ 8 _ _ rfl rfl d8
      have d16 : l.getD 16 false = true := by simp [Region.binds] at hd; simp [hd]
      obtain rfl := F.at_ 16 _ _ rfl rfl d16
      refine wpOp_open rfl (fun K hK => ?_)
      go_simp
      exact hK.out _ _ ⟨_, _, _, _, _, _, _, _, _, _, _, _, _, _, _, _, _, _, _, _, _, _, _, _, _, _, _, rfl, F.step HST.out 17 HS.out (Kept.refl _ _) _ rfl _ rfl⟩
    · have d17 : l.getD 17 false = true := by simp [Region.binds] at hd; simp [hd]
      obtain rfl := F.at_ 17 _ _ rfl rfl d17
      refine wpOp_open rfl (fun K hK => ?_)
      go_simp
      exact hK.out _ _ ⟨_, _, _, _, _, _, _, _, _, _, _, _, _, _, _, _, _, _, _, _, _, _, _, _, _, _, _, rfl, F.step HST.out 18 HS.out (Kept.refl _ _) _ rfl _ rfl⟩
    · have d18 : l.getD 18 false = true := by simp [Region.binds] at hd; simp [hd]
      obtain rfl := F.at_ 18 _ _ rfl rfl d18
      refine wpOp_open rfl (fun K hK => ?_)
      go_simp
      exact hK.out _ _ ⟨_, _, _, _, _, _, _, _, _, _, _, _, _, _, _, _, _, _, _, _, _, _, _, _, _, _, _, rfl, F.step HST.out 19 HS.out (Kept.refl _ _) _ rfl _ rfl⟩
    · have d18 : l.getD 18 false = true := by simp [Region.binds] at hd; simp [hd]
      obtain rfl := F.at_ 18 _ _ rfl rfl d18
      have d19 : l.getD 19 false = true := by simp [Region.binds] at hd; simp [hd]
      obtain rfl := F.at_ 19 _ _ rfl rfl d19
      refine wpOp_open rfl (fun K hK => ?_)
      go_simp
      exact hK.out _ _ ⟨_, _, _, _, _, _, _, _, _, _, _, _, _, _, _, _, _, _, _, _, _, _, _, _, _, _, _, rfl, F.step HST.out 20 HS.out (Kept.refl _ _) _ rfl _ rfl⟩
    · have d18 : l.getD 18 false = true := by simp [Region.binds] at hd; simp [hd]
      obtain rfl := F.at_ 18 _ _ rfl rfl d18
      refine wpOp_open rfl (fun K hK => ?_)
      go_simp
      exact hK.out _ _ ⟨_, _, _, _, _, _, _, _, _, _, _, _, _, _, _, _, _, _, _, _, _, _, _, _, _, _, _, rfl, F.step HST.out 21 HS.out (Kept.refl _ _) _ rfl _ rfl⟩
    · have d18 : l.getD 18 false = true := by simp [Region.binds] at hd; simp [hd]
      obtain rfl := F.at_ 18 _ _ rfl rfl d18
      have d21 : l.getD 21 false = true := by simp [Region.binds] at hd; simp [hd]
      obtain rfl := F.at_ 21 _ _ rfl rfl d21
      refine wpOp_open rfl (fun K hK => ?_)
      go_simp
      exact hK.out _ _ ⟨_, _, _, _, _, _, _, _, _, _, _, _, _, _, _, _, _, _, _, _, _, _, _, _, _, _, _, rfl, F.step HST.out 22 HS.out (Kept.refl _ _) _ rfl _ rfl⟩
    · have d18 : l.getD 18 false = true := by simp [Region.binds] at hd; simp [hd]
      obtain rfl := F.at_ 18 _ _ rfl rfl d18
      have d22 : l.getD 22 false = true := by simp [Region.binds] at hd; simp [hd]
      obtain rfl := F.at_ 22 _ _ rfl rfl d22
      refine wpOp_open rfl (fun K hK => ?_)
      go_simp
      exact hK.out _ _ ⟨_, _, _, _, _, _, _, _, _, _, _, _, _, _, _, _, _, _, _, _, _, _, _, _, _, _, _, rfl, F.step HST.out 23 HS.out (Kept.refl _ _) _ rfl _ rfl⟩
    · have d18 : l.getD 18 false = true := by simp [Region.binds] at hd; simp [hd]
      obtain rfl := F.at_ 18 _ _ rfl rfl d18
      have d23 : l.getD 23 false = true := by simp [Region.binds] at hd; simp [hd]
      obtain rfl := F.at_ 23 _ _ rfl rfl d23
      refine wpOp_open rfl (fun K hK => ?_)
      go_simp
      exact hK.out _ _ ⟨_, _, _, _, _, _, _, _, _, _, _, _, _, _, _, _, _, _, _, _, _, _, _, _, _, _, _, rfl, F.step HST.out 24 HS.out (Kept.refl _ _) _ rfl _ rfl⟩
    · have d18 : l.getD 18 false = true := by simp [Region.binds] at hd; simp [hd]
      obtain rfl := F.at_ 18 _ _ rfl rfl d18
      have d20 : l.getD 20 false = true := by simp [Region.binds] at hd; simp [hd]
      obtain rfl := F.at_ 20 _ _ rfl rfl d20
      have d24 : l.getD 24 false = true := by simp [Region.binds] at hd; simp [hd]
      obtain rfl := F.at_ 24 _ _ rfl rfl d24
      refine wpOp_open rfl (fun K hK => ?_)
      go_simp
      exact hK.out _ _ ⟨_, _, _, _, _, _, _, _, _, _, _, _, _, _, _, _, _, _, _, _, _, _, _, _, _, _, _, rfl, F.step HST.out 25 HS.out (Kept.refl _ _) _ rfl _ rfl⟩
    · have d18 : l.getD 18 false = true := by simp [Region.binds] at hd; simp [hd]
      obtain rfl := F.at_ 18 _ _ rfl rfl d18
      have d25 : l.getD 25 false = true := by simp [Region.binds] at hd; simp [hd]
      obtain rfl := F.at_ 25 _ _ rfl rfl d25
      refine wpOp_open rfl (fun K hK => ?_)
      go_simp
      exact hK.out _ _ ⟨_, _, _, _, _, _, _, _, _, _, _, _, _, _, _, _, _, _, _, _, _, _, _, _, _, _, _, rfl, F.step HST.out 26 HS.out (Kept.refl _ _) _ rfl _ rfl⟩
  case hend =>
    intro l a w1 hs hI hr
    have hs' : l.size = 27 := hs
    obtain ⟨v0, v1, v2, v3, v4, v5, v6, v7, v8, v9, v10, v11, v12, v13, v14, v15, v16, v17, v18, v19, v20, v21, v22, v23, v24, v25, v26, rfl, F⟩ := hI
    have HAR := all_ready hs (by kernel_rfl) hr
    obtain rfl := F.at_ 0 _ _ rfl rfl (HAR 0 (by decide))
    obtain rfl := F.at_ 1 _ _ rfl rfl (HAR 1 (by decide))
    obtain rfl := F.at_ 2 _ _ rfl rfl (HAR 2 (by decide))
    obtain rfl := F.at_ 3 _ _ rfl rfl (HAR 3 (by decide))
    obtain rfl := F.at_ 4 _ _ rfl rfl (HAR 4 (by decide))
    obtain rfl := F.at_ 5 _ _ rfl rfl (HAR 5 (by decide))
    obtain rfl := F.at_ 6 _ _ rfl rfl (HAR 6 (by decide))
    obtain rfl := F.at_ 7 _ _ rfl rfl (HAR 7 (by decide))
    obtain rfl := F.at_ 8 _ _ rfl rfl (HAR 8 (by decide))
    obtain rfl := F.at_ 9 _ _ rfl rfl (HAR 9 (by decide))
    obtain rfl := F.at_ 10 _ _ rfl rfl (HAR 10 (by decide))
    obtain rfl := F.at_ 11 _ _ rfl rfl (HAR 11 (by decide))
    obtain rfl := F.at_ 12 _ _ rfl rfl (HAR 12 (by decide))
    obtain rfl := F.at_ 13 _ _ rfl rfl (HAR 13 (by decide))
    obtain rfl := F.at_ 14 _ _ rfl rfl (HAR 14 (by decide))
    obtain rfl := F.at_ 15 _ _ rfl rfl (HAR 15 (by decide))
    obtain rfl := F.at_ 16 _ _ rfl rfl (HAR 16 (by decide))
    obtain rfl := F.at_ 17 _ _ rfl rfl (HAR 17 (by decide))
    obtain rfl := F.at_ 18 _ _ rfl rfl (HAR 18 (by decide))
    obtain rfl := F.at_ 19 _ _ rfl rfl (HAR 19 (by decide))
    obtain rfl := F.at_ 20 _ _ rfl rfl (HAR 20 (by decide))
    obtain rfl := F.at_ 21 _ _ rfl rfl (HAR 21 (by decide))
    obtain rfl := F.at_ 22 _ _ rfl rfl (HAR 22 (by decide))
    obtain rfl := F.at_ 23 _ _ rfl rfl (HAR 23 (by decide))
    obtain rfl := F.at_ 24 _ _ rfl rfl (HAR 24 (by decide))
    obtain rfl := F.at_ 25 _ _ rfl rfl (HAR 25 (by decide))
    obtain rfl := F.at_ 26 _ _ rfl rfl (HAR 26 (by decide))
    have HA := F.kept
    clear F hr HST HAR
    have q1 := HQ0.out.step (Step.of0 (C := fun _ => False) HA HQ0.out.wl) (fun _ f => f.elim)
    obtain ⟨qn, kn⟩ := q1.now ev.now
    have hn1 := HA.at0 HN0.out
    have hnn := kn.at_ hn1 (by rw [HNC.out]; simp)
    have hv2 := (ev_cells hn1).c2
    have hA3 := (SF.out _ HA).2.2.2.2.2.2.2.2
    have f3 := call_free q1.box 3
    have hE := ev_cells hnn
    have c1 := hE.c1
    rw [HTH.out] at c1
    have a2 := qn.cells.c2
    have HKN := Lib.hid ((HK0.out.tr0 HA |>.mono (T := fun b => κ b ≠ 0) (fun _ _ f => f.elim)).trans kn (fun _ _ e => e))
    have HQN := Lib.hid qn
    have HNN := Lib.hid hnn
    have e0 : (0 : Int) ≤ (i : Int) := by omega
    have e1 : (i : Int) < (m.hs.length : Int) := by omega
    clear q1 qn kn hn1 hnn HA hE
    go_wp2_with fail
    go_quiet (fail)
    have hk3 : Kept (fun _ => False) (w1.setCell ⟨p, 3, none⟩ (.int .i64 ev.now)) ((w1.setCell ⟨p, 3, none⟩ (.int .i64 ev.now)).drewN nq) := (Kept.refl _ _).drewN _
    have q3 := HQN.out.step (Step.of0 (C := fun _ => False) hk3 HQN.out.wl) (fun _ f => f.elim)
    have hn3 := hk3.at0 HNN.out
    have hkk := HKN.out.trans hk3 (fun _ _ f => f.elim)
    generalize (w1.setCell ⟨p, 3, none⟩ (.int .i64 ev.now)).drewN nq = w3 at *
    obtain ⟨b0, b1, b2, b3, b4, b5, b6⟩ := ev_cells hn3
    rw [HTH.out] at b1
    have z := th_cells q3.threads hi
    obtain ⟨z0, z1, z2, z3⟩ := z
    have HQ3 := Lib.hid q3
    have HKK := Lib.hid hkk
    clear hk3 hn3 hkk c1 a2 f3 hA3 hv2
    have hT3 := HQ3.out.th i h t hi ht
    rw [hT3.breaks] at z3
    have f3 := q3.threads.free (i * 4 + 3)
    have r3 := row_set (h' := { h with breaks := t.breaks + 1 }) q3.threads hi 3 (.int .i64 (t.breaks + 1)) (by omega) rfl
    have k3 := Step.set (C := fun q => q = 3) q3.wl m.hg (i * 4 + 3) (.int .i64 (t.breaks + 1)) q3.hcol (by rw [q3.hcol]; omega)
    have HT : Hid (BeginTo B p (some { σ with now := ev.now, threads := σ.threads.set i { t with breaks := t.breaks + 1 } }) (w3.setCell ⟨m.hg, i * 4 + 3, none⟩ (.int .i64 (t.breaks + 1))) ∧ Kept (fun b => κ b ≠ 0) w (w3.setCell ⟨m.hg, i * 4 + 3, none⟩ (.int .i64 (t.breaks + 1)))) := Lib.hid (by
      refine ⟨fun σ' e => ?_, HKK.out.trans k3.kept (fun q _ e => by rw [e]; omega)⟩
      simp only [Option.some.injEq] at e
      subst e
      exact ⟨κ, _, HQ3.out.thread i k3 (fun c e => .inl e) { h with breaks := t.breaks + 1 } { t with breaks := t.breaks + 1 } r3 ⟨hT3.ops, elems_step hT3.el k3 (by omega) HQ3.out.size HQ3.out.low, hT3.begun, rfl, hT3.call.step k3 (by omega) (by omega) (by omega)⟩⟩)
    clear q3 hT3 r3 k3
    go_wp2_with fail
    go_ret
    exact ⟨rfl, HT.out⟩

end Go.Proofs.YtbodlaiakcoabaaGreatDoor
end
section
namespace Go.Proofs.YtbodlaiakcoabaaGreatDoor
open Go.RowKit
set_option linter.unusedSimpArgs false
set_option linter.unusedVariables false

theorem dec_true {p : Prop} [Decidable p] (h : p) : decide p = true := decide_eq_true h
/-- An event of 64-bit numbers. -/
structure Ev64 (ev : Ev) : Prop where
  n1 : ev.now ≤ 9223372036854775807
  v0 : -9223372036854775808 ≤ ev.m.v
  v1 : ev.m.v ≤ 9223372036854775807
theorem ev_not {σ : St} {ev : Ev} (h : (bareM ev && decide (0 ≤ ev.thread) && decide (ev.thread < σ.threads.length) && decide (σ.now ≤ ev.now)) = false) : evM σ ev = none := by
  unfold evM
  rw [if_neg (by rw [h]; simp)]
theorem ev_is {σ : St} {ev : Ev} {t : Tr} (h : (bareM ev && decide (0 ≤ ev.thread) && decide (ev.thread < σ.threads.length) && decide (σ.now ≤ ev.now)) = true) (ht : σ.threads[ev.thread.toNat]? = some t) :
    evM σ ev = if ev.kind = 1 then beginM { σ with now := ev.now } ev.thread.toNat t
      else if ev.kind = 2 then (match t.call with | none => none | some c => markM { σ with now := ev.now } ev.thread.toNat t c ev.m)
      else if ev.kind = 3 then (match t.call with | none => none | some c => (endM t c ev.value ev.got).map (fun t' => { σ with now := ev.now, threads := σ.threads.set ev.thread.toNat t' }))
      else if ev.kind = 4 then some { σ with now := ev.now, threads := σ.threads.set ev.thread.toNat { t with breaks := t.breaks + 1 } }
      else none := by
  unfold evM
  rw [if_pos h]
  simp only [ht]
  rfl

theorem event_any (B p : Nat) (κ : Nat → Nat) (w : World) (σ : St) (m : Mem) (q : In B p κ w σ m) (k : Nat) (g : Good k σ) (hk : k < 100000) (ev : Ev) (h64 : Ev64 ev) :
    Calls Tryz.prog 23 #[.pointer (some ⟨p, 0, none⟩), ev.agg] w fun e w' => e = .returned (.bool (evM σ ev).isSome) ∧ BeginTo B p (evM σ ev) w' ∧ Kept (fun b => κ b ≠ 0) w w' := by
  have hlen : m.hs.length ≤ 8 := by rw [q.hlen]; exact g.nthr
  have fin : ∀ {P : Ending → World → Prop}, evM σ ev = none → Calls Tryz.prog 23 #[.pointer (some ⟨p, 0, none⟩), ev.agg] w (fun e w' => e = .returned (.bool false) ∧ Kept (fun b => κ b ≠ 0) w w') →
      Calls Tryz.prog 23 #[.pointer (some ⟨p, 0, none⟩), ev.agg] w fun e w' => e = .returned (.bool (evM σ ev).isSome) ∧ BeginTo B p (evM σ ev) w' ∧ Kept (fun b => κ b ≠ 0) w w' := fun he hc => by
    rw [he]
    exact hc.mono (fun _ _ ⟨h1, h2⟩ => ⟨h1, begin_nil _ _ _, h2⟩)
  cases d0 : bareM ev with
  | false => exact fin (P := fun _ _ => True) (ev_not (by rw [d0]; rfl)) (event_n0 B p κ w σ m q hlen ev d0)
  | true =>
  by_cases t0 : ev.thread < 0
  · exact fin (P := fun _ _ => True) (ev_not (by rw [decide_eq_false (by omega : ¬ 0 ≤ ev.thread)]; simp)) (event_n1 B p κ w σ m q hlen ev d0 (dec_true t0))
  have d1 : decide (ev.thread < 0) = false := decide_eq_false t0
  by_cases t1 : (m.hs.length : Int) ≤ ev.thread
  · exact fin (P := fun _ _ => True) (ev_not (by rw [decide_eq_false (by rw [← q.hlen]; omega : ¬ ev.thread < (σ.threads.length : Int))]; simp)) (event_n2 B p κ w σ m q hlen ev d0 d1 (dec_true t1))
  have d2 : decide ((m.hs.length : Int) ≤ ev.thread) = false := decide_eq_false t1
  by_cases t2 : ev.now < σ.now
  · exact fin (P := fun _ _ => True) (ev_not (by rw [decide_eq_false (by omega : ¬ σ.now ≤ ev.now)]; simp)) (event_n3 B p κ w σ m q hlen ev d0 d1 d2 (dec_true t2))
  have d3 : decide (ev.now < σ.now) = false := decide_eq_false t2
  have hcond : (bareM ev && decide (0 ≤ ev.thread) && decide (ev.thread < σ.threads.length) && decide (σ.now ≤ ev.now)) = true := by
    rw [d0, dec_true (by omega : 0 ≤ ev.thread), dec_true (by rw [← q.hlen]; omega : ev.thread < (σ.threads.length : Int)), dec_true (by omega : σ.now ≤ ev.now)]; rfl
  obtain ⟨i, hthr⟩ : ∃ i : Nat, ev.thread = (i : Int) := ⟨ev.thread.toNat, by omega⟩
  have hil : i < m.hs.length := by omega
  obtain ⟨h, hi⟩ : ∃ h, m.hs[i]? = some h := ⟨_, List.getElem?_eq_getElem hil⟩
  obtain ⟨t, ht⟩ : ∃ t, σ.threads[i]? = some t := ⟨_, List.getElem?_eq_getElem (by rw [← q.hlen]; exact hil)⟩
  have hti : ev.thread.toNat = i := by omega
  have hev := ev_is hcond (by rw [hti]; exact ht)
  rw [hti] at hev
  have hg := g.th t (List.mem_of_getElem? ht)
  have hT := q.th i h t hi ht
  have gn : Good k { σ with now := ev.now } := g.later (by omega) h64.n1
  by_cases k1 : ev.kind = 1
  · rw [if_pos k1] at hev
    rw [hev]
    exact event_k1 B p κ w σ m q hlen ev d0 d1 d2 d3 i hthr hil h t hi ht (beq_iff_eq.2 k1) hg.begun (by have := hg.ops; omega) hg.obj (by have := g.nobs; omega)
  have j1 : (ev.kind == 1) = false := beq_eq_false_iff_ne.2 k1
  rw [if_neg k1] at hev
  by_cases k2 : ev.kind = 2
  · rw [if_pos k2] at hev
    cases hc : t.call with
    | none =>
      have hcall := hT.call
      rw [hc] at hcall
      have hp : h.ptr = none := by
        cases e : h.ptr with
        | none => rfl
        | some b => rw [e] at hcall; exact hcall.elim
      rw [hc] at hev
      rw [hev]
      exact event_k2a B p κ w σ m q hlen ev d0 d1 d2 d3 i hthr hil h t hi ht j1 (beq_iff_eq.2 k2) hp
    | some c =>
      have hcall := hT.call
      rw [hc] at hcall
      obtain ⟨b, hp⟩ : ∃ b, h.ptr = some b := by
        cases e : h.ptr with
        | none => rw [e] at hcall; exact hcall.elim
        | some b => exact ⟨b, rfl⟩
      rw [hc] at hev
      rw [hev]
      exact event_k2b B p κ w σ m q hlen ev d0 d1 d2 d3 i hthr hil h t hi ht j1 (beq_iff_eq.2 k2) b hp c hc k gn hk h64.v0 h64.v1
  have j2 : (ev.kind == 2) = false := beq_eq_false_iff_ne.2 k2
  rw [if_neg k2] at hev
  by_cases k3 : ev.kind = 3
  · rw [if_pos k3] at hev
    cases hc : t.call with
    | none =>
      have hcall := hT.call
      rw [hc] at hcall
      have hp : h.ptr = none := by
        cases e : h.ptr with
        | none => rfl
        | some b => rw [e] at hcall; exact hcall.elim
      rw [hc] at hev
      rw [hev]
      exact event_k3a B p κ w σ m q hlen ev d0 d1 d2 d3 i hthr hil h t hi ht j1 j2 (beq_iff_eq.2 k3) hp
    | some c =>
      have hcall := hT.call
      rw [hc] at hcall
      obtain ⟨b, hp⟩ : ∃ b, h.ptr = some b := by
        cases e : h.ptr with
        | none => rw [e] at hcall; exact hcall.elim
        | some b => exact ⟨b, rfl⟩
      have r := hg.call c hc
      have h1 := g.now1
      rw [hc] at hev
      rw [hev]
      exact event_k3b B p κ w σ m q hlen ev d0 d1 d2 d3 i hthr hil h t hi ht j1 j2 (beq_iff_eq.2 k3) b hp c hc r.since0 (Int.le_trans r.since1 h1) r.til0 (Int.le_trans r.til1 h1) (by have := hg.b0; omega) (by have := hg.b1; omega)
  have j3 : (ev.kind == 3) = false := beq_eq_false_iff_ne.2 k3
  rw [if_neg k3] at hev
  by_cases k4 : ev.kind = 4
  · rw [if_pos k4] at hev
    rw [hev]
    exact event_k4 B p κ w σ m q hlen ev d0 d1 d2 d3 i hthr hil h t hi ht j1 j2 j3 (beq_iff_eq.2 k4) (by have := hg.b0; omega) (by have := hg.b1; omega)
  have j4 : (ev.kind == 4) = false := beq_eq_false_iff_ne.2 k4
  rw [if_neg k4] at hev
  rw [hev]
  exact event_k0 B p κ w σ m q hlen ev d0 d1 d2 d3 i hthr hil h t hi ht j1 j2 j3 j4

end Go.Proofs.YtbodlaiakcoabaaGreatDoor
end
section
namespace Go.Proofs.YtbodlaiakcoabaaGreatDoor
open Go.RowKit Go.ChangeShapes Go.WideShapes
set_option maxRecDepth 100000

theorem Tryz.ev_cells : Tryz.prog.cellsOf 38 = 7 := by kernel_rfl
theorem Tryz.note_cells : Tryz.prog.cellsOf 36 = 2 := by kernel_rfl
theorem events_of {H : Type} {enc : TypeId × Value → H} {w : World} {s : Option Addr} {len cap : Nat} {d : DataW H} {p : List MemPlace}
    (h : DataW.Trod enc Tryz.prog w 0 (fun _ => true) true 27 (.slice s len cap) d p) : ∃ xs : List Ev, xs.length = len ∧ Elems w w.heap.size s 7 Ev.cells xs ∧ ∀ ev ∈ xs, Ev64 ev := by
  refine elems_of (Q := Ev64) Tryz.underlying27 Tryz.ev_cells (by omega) (fun k cs y hl ht => ?_) h
  obtain ⟨xs, k', _, _, _, hxl, hfld⟩ := DataW.trod_struct Tryz.underlying38 ht
  match cs, hl, xs, hxl with
  | [c0, c1, c2, c3, c4, c5, c6], _, [y0, y1, y2, y3, y4, y5], _ =>
    have f0 : DataW.trod enc Tryz.prog w 0 (fun _ => true) true k' 3 (([c0, c1, c2, c3, c4, c5, c6].drop 0).take (Tryz.prog.cellsOf 3)) = some y0 := hfld 0 _ rfl
    have f1 : DataW.trod enc Tryz.prog w 0 (fun _ => true) true k' 3 (([c0, c1, c2, c3, c4, c5, c6].drop 1).take (Tryz.prog.cellsOf 3)) = some y1 := hfld 1 _ rfl
    have f2 : DataW.trod enc Tryz.prog w 0 (fun _ => true) true k' 2 (([c0, c1, c2, c3, c4, c5, c6].drop 2).take (Tryz.prog.cellsOf 2)) = some y2 := hfld 2 _ rfl
    have f3 : DataW.trod enc Tryz.prog w 0 (fun _ => true) true k' 36 (([c0, c1, c2, c3, c4, c5, c6].drop 3).take (Tryz.prog.cellsOf 36)) = some y3 := hfld 3 _ rfl
    have f4 : DataW.trod enc Tryz.prog w 0 (fun _ => true) true k' 3 (([c0, c1, c2, c3, c4, c5, c6].drop 5).take (Tryz.prog.cellsOf 3)) = some y4 := hfld 4 _ rfl
    have f5 : DataW.trod enc Tryz.prog w 0 (fun _ => true) true k' 3 (([c0, c1, c2, c3, c4, c5, c6].drop 6).take (Tryz.prog.cellsOf 3)) = some y5 := hfld 5 _ rfl
    rw [Tryz.sc_int] at f0 f1 f4 f5
    rw [Tryz.sc_int64] at f2
    rw [Tryz.note_cells] at f3
    simp only [List.drop_zero, List.drop_succ_cons, List.take_succ_cons, List.take_zero] at f0 f1 f2 f3 f4 f5
    obtain ⟨zs, k2, _, _, _, hzl, hgld⟩ := DataW.trod_struct Tryz.underlying36 f3
    match zs, hzl with
    | [z0, z1], _ =>
      have g0 : DataW.trod enc Tryz.prog w 0 (fun _ => true) true k2 3 (([c3, c4].drop 0).take (Tryz.prog.cellsOf 3)) = some z0 := hgld 0 _ rfl
      have g1 : DataW.trod enc Tryz.prog w 0 (fun _ => true) true k2 2 (([c3, c4].drop 1).take (Tryz.prog.cellsOf 2)) = some z1 := hgld 1 _ rfl
      rw [Tryz.sc_int] at g0
      rw [Tryz.sc_int64] at g1
      simp only [List.drop_zero, List.drop_succ_cons, List.take_succ_cons, List.take_zero] at g0 g1
      obtain ⟨a0, e0, _, w0⟩ := DataW.trod_int Tryz.underlying3 f0
      obtain ⟨a1, e1, _, w1⟩ := DataW.trod_int Tryz.underlying3 f1
      obtain ⟨a2, e2, _, w2⟩ := DataW.trod_int Tryz.underlying2 f2
      obtain ⟨a3, e3, _, w3⟩ := DataW.trod_int Tryz.underlying3 g0
      obtain ⟨a4, e4, _, w4⟩ := DataW.trod_int Tryz.underlying2 g1
      obtain ⟨a5, e5, _, w5⟩ := DataW.trod_int Tryz.underlying3 f4
      obtain ⟨a6, e6, _, w6⟩ := DataW.trod_int Tryz.underlying3 f5
      simp only [List.cons.injEq, and_true] at e0 e1 e2 e3 e4 e5 e6
      subst e0 e1 e2 e3 e4 e5 e6
      exact ⟨⟨a0, a1, a2, ⟨a3, a4⟩, a5, a6⟩, rfl, (bounds_i64 w2).2, (bounds_i64 w4).1, (bounds_i64 w4).2⟩

end Go.Proofs.YtbodlaiakcoabaaGreatDoor
end
