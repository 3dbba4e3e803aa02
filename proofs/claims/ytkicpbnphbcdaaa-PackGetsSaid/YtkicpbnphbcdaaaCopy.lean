/-
  The statements' own helper of layer 5: Copy: a script in new memory.
  Conditions: the script lies in blocks that were there.
-/
import Derived.Test.YtkicpbnphbcdaaaLoopInv
import Derived.Test.YtkicpbnphbcdaaaCheckRef
import Derived.Handy
import Derived.Deep.AppendLies
namespace Go.Proofs.Ytkicpbnphbcdaaa
open Go.RowKit

theorem Try.infoObject : (Try.prog.info? 48).map (fun i => (i.zero, i.size, i.bytes)) = some (some (.agg #[.int .i64 0, .bool false, .int .i64 0]), 3, 24) := by kernel_rfl
theorem Try.infoOp : (Try.prog.info? 62).map (fun i => (i.zero, i.size, i.bytes)) = some (some (.agg #[.int .i64 0, .int .i64 0, .int .i64 0, .int .i64 0, .bool false]), 5, 40) := by kernel_rfl
theorem Try.infoPick : (Try.prog.info? 57).map (fun i => (i.zero, i.size, i.bytes)) = some (some (.agg #[.int .i64 0, .int .i64 0]), 2, 16) := by kernel_rfl
theorem Try.infoOps : (Try.prog.info? 49).map (fun i => (i.zero, i.size, i.bytes)) = some (some (.slice none 0 0), 1, 24) := by kernel_rfl

theorem Try.sizeScript : (Try.prog.info? 26).map (·.size) = some 3 := by kernel_rfl
theorem heap_new2 (w : World) (o : Obj) (b : Nat) (hb : w.heap.size = b) : (w.alloc o).heap[b]? = some o := by subst hb; exact heap_alloc_new w o

/-- What Copy leaves: a script of its own that reads alike; all else as it was. -/
def CopyOf (w : World) (x : Sc) (e : Ending) (w' : World) : Prop :=
  ∃ y : Sc, e = .returned y.agg ∧ y.obs = x.obs ∧ y.pis = x.pis ∧ y.prs.map Pr.ops = x.prs.map Pr.ops ∧ Owned w.heap.size (fun _ => False) w' y ∧ Kept (fun _ => False) w w'

set_option maxHeartbeats 4000000 in
set_option maxRecDepth 100000 in
theorem copy_any {w : World} {x : Sc} (h : Lies w w.heap.size x) (hf : fewF x = true) :
    Calls Try.prog 17 #[x.agg] w (CopyOf w x) := by
  obtain ⟨os, oc, obs, ps, pc, prs, ks, kc, pis⟩ := x
  unfold Sc.agg
  obtain ⟨W2, hW2⟩ : ∃ W2, (w.alloc (.cells #[.slice os obs.length oc, .slice ps prs.length pc, .slice ks pis.length kc] 26)).alloc (.cells #[.slice none 0 0, .slice none 0 0, .slice none 0 0] 26) = W2 := ⟨_, rfl⟩
  have hk2 : Kept (fun _ => False) (w.alloc (.cells #[.slice os obs.length oc, .slice ps prs.length pc, .slice ks pis.length kc] 26)) W2 := by rw [← hW2]; exact (Kept.refl _ _).alloc _
  obtain ⟨p0, p1, p2⟩ := box3 hk2
  have hkW : Kept (fun _ => False) w W2 := ((Kept.refl _ w).alloc _).trans hk2 (fun _ _ f => f)
  have hs2 : W2.heap.size = w.heap.size + 1 + 1 := by rw [← hW2]; simp
  have hbx : w.heap.size < W2.heap.size := by omega
  have HEO := Lib.hid (fun (w' : World) (hk : Kept (fun _ => False) W2 w') => (h.obs : Elems w w.heap.size os 3 Ob.cells obs).kept (hkW.trans hk (fun _ _ f => f)) (Nat.le_refl _) (fun _ _ f => f))
  have HEP := Lib.hid (fun (w' : World) (hk : Kept (fun _ => False) W2 w') => (h.pis : Elems w w.heap.size ks 2 Pi.cells pis).kept (hkW.trans hk (fun _ _ f => f)) (Nat.le_refl _) (fun _ _ f => f))
  have HP0 := Lib.hid (fun (w' : World) (hk : Kept (fun _ => False) W2 w') => (hk.cell (p := ⟨w.heap.size, 0, none⟩) hbx (fun f => f)).trans p0)
  have HP1 := Lib.hid (fun (w' : World) (hk : Kept (fun _ => False) W2 w') => (hk.cell (p := ⟨w.heap.size, 1, none⟩) hbx (fun f => f)).trans p1)
  have HP2 := Lib.hid (fun (w' : World) (hk : Kept (fun _ => False) W2 w') => (hk.cell (p := ⟨w.heap.size, 2, none⟩) hbx (fun f => f)).trans p2)
  obtain ⟨i1, hi1, hz1, hn1, hb1'⟩ := info_parts Try.infoObject
  obtain ⟨i2, hi2, hz2, hn2, hb2'⟩ := info_parts Try.infoPick
  have HI1 := Lib.hid hi1; clear hi1
  have HZ1 := Lib.hid hz1; clear hz1
  have HN1 := Lib.hid hn1; clear hn1
  have HB1 := Lib.hid hb1'; clear hb1'
  have HI2 := Lib.hid hi2; clear hi2
  have HZ2 := Lib.hid hz2; clear hz2
  have HN2 := Lib.hid hn2; clear hn2
  have HB2 := Lib.hid hb2'; clear hb2'
  replace hf : (decide (obs.length ≤ 100) && decide (prs.length ≤ 100) && decide (pis.length ≤ 8000) && prs.all fewP) = true := hf
  simp only [Bool.and_eq_true, decide_eq_true_eq] at hf
  obtain ⟨⟨⟨hb1, hb3⟩, hb2⟩, hb4⟩ := hf
  obtain ⟨i3, hi3, hz3, hn3, hb3'⟩ := info_parts Try.infoOp
  obtain ⟨i4, hi4, hz4, hn4, hb4'⟩ := info_parts Try.infoOps
  have HI3 := Lib.hid hi3; clear hi3
  have HZ3 := Lib.hid hz3; clear hz3
  have HN3 := Lib.hid hn3; clear hn3
  have HB3 := Lib.hid hb3'; clear hb3'
  have HI4 := Lib.hid hi4; clear hi4
  have HZ4 := Lib.hid hz4; clear hz4
  have HN4 := Lib.hid hn4; clear hn4
  have HB4 := Lib.hid hb4'; clear hb4'
  have HB5 := Lib.hid hb4; clear hb4
  have HER := Lib.hid (fun (S : Nat → Prop) (w' : World) (hk : Kept S W2 w') (hS : ∀ k, k < W2.heap.size → ¬ S k) => ((h.prs : Prs w w.heap.size ps prs).kept hkW (Nat.le_refl _) (fun _ _ f => f)).kept hk (by omega) (fun k hk' => hS k (by omega)))
  have HL := Lib.hid h; clear h
  have HKW := Lib.hid hkW; clear hkW
  go_enter Try.func17, Try.ntmps17
  go_wp2_with fail
  clear hk2 p0 p1 p2
  have hret : W2.heap[w.heap.size + 1]? = some (.cells #[.slice none 0 0, .slice none 0 0, .slice none 0 0] 26 (0, 0)) := by rw [← hW2]; exact heap_new2 _ _ _ (by simp)
  have HRET := Lib.hid hret; clear hret hW2
  generalize (Value.agg #[.slice os obs.length oc, .slice ps prs.length pc, .slice ks pis.length kc]) = ag
  generalize hbx0 : w.heap.size = bx at *
  have HBX := Lib.hid hbx0; clear hbx0
  refine wp_region_any (by kernel_rfl) (wpAny_inv (CopyInv W2 bx ag (.pointer (some ⟨bx + 1, 0, none⟩)) os oc obs ks kc pis) ?hstep ?hend _ _ _ _ (by simp) (by simp) ?hstart)
  case hstart =>
    refine ⟨undef, undef, undef, undef, undef, undef, undef, undef, undef, undef, rfl, .inl ⟨by simp, ⟨(Kept.refl _ W2).drew, .inl rfl, .inl rfl, .inl rfl, .inl rfl, .inl rfl, .inl rfl, .inl rfl, .inl rfl, .inl rfl, .inl rfl⟩, ?_⟩⟩
    constructor <;> (intro h; simp at h)
  case hstep =>
    intro l a w1 i hs hI hi
    have hs' : l.size = 11 := hs
    obtain ⟨hlt, hu, hd⟩ := ready_of hi
    have hset : ∀ j b, (l.setIfInBounds i true).getD j b = if j = i then true else l.getD j b := fun j b => getD_set (by omega)
    have hlt' : i < 11 := hlt
    clear hi hlt
    have hu' := getD_false hu
    obtain ⟨v3, v5, v6, v7, v8, v9, v10, v11, v12, v13, rfl, ⟨h10, F, L⟩ | ⟨h10, hall, _⟩⟩ := hI
    case inr =>
      exfalso
      by_cases hi10 : i = 10
      · subst hi10; rw [h10] at hu'; cases hu'
      · rw [hall i (by omega)] at hu'; cases hu'
    have hi : i = 0 ∨ i = 1 ∨ i = 2 ∨ i = 3 ∨ i = 4 ∨ i = 5 ∨ i = 6 ∨ i = 7 ∨ i = 8 ∨ i = 9 ∨ i = 10 := by omega
    clear hlt'
    have HSET := Lib.hid hset
    rcases hi with rfl | rfl | rfl | rfl | rfl | rfl | rfl | rfl | rfl | rfl | rfl
    · refine wpOp_open rfl (fun K hK => ?_)
      go_simp
      exact hK.out _ _ ⟨_, _, _, _, _, _, _, _, _, _, rfl, .inl ⟨by rw [HSET.out, if_neg (by decide)]; exact h10, { (F.on ((Kept.refl _ w1).alloc _)) with e5 := .inr ⟨_, rfl⟩ }, ⟨fun _ => by simp [undef], fun h => L.l1 (by rw [HSET.out, if_neg (by decide)] at h; exact h), fun h => L.l2 (by rw [HSET.out, if_neg (by decide)] at h; exact h), fun h => L.l3 (by rw [HSET.out, if_neg (by decide)] at h; exact h), fun h => L.l4 (by rw [HSET.out, if_neg (by decide)] at h; exact h), fun h => L.l5 (by rw [HSET.out, if_neg (by decide)] at h; exact h), fun h => L.l6 (by rw [HSET.out, if_neg (by decide)] at h; exact h), fun h => L.l7 (by rw [HSET.out, if_neg (by decide)] at h; exact h), fun h => L.l8 (by rw [HSET.out, if_neg (by decide)] at h; exact h), fun h => L.l9 (by rw [HSET.out, if_neg (by decide)] at h; exact h)⟩⟩⟩
    · refine wpOp_open rfl (fun K hK => ?_)
      go_simp
      exact hK.out _ _ ⟨_, _, _, _, _, _, _, _, _, _, rfl, .inl ⟨by rw [HSET.out, if_neg (by decide)]; exact h10, { F with e6 := .inr rfl }, ⟨fun h => L.l0 (by rw [HSET.out, if_neg (by decide)] at h; exact h), fun _ => by simp [undef], fun h => L.l2 (by rw [HSET.out, if_neg (by decide)] at h; exact h), fun h => L.l3 (by rw [HSET.out, if_neg (by decide)] at h; exact h), fun h => L.l4 (by rw [HSET.out, if_neg (by decide)] at h; exact h), fun h => L.l5 (by rw [HSET.out, if_neg (by decide)] at h; exact h), fun h => L.l6 (by rw [HSET.out, if_neg (by decide)] at h; exact h), fun h => L.l7 (by rw [HSET.out, if_neg (by decide)] at h; exact h), fun h => L.l8 (by rw [HSET.out, if_neg (by decide)] at h; exact h), fun h => L.l9 (by rw [HSET.out, if_neg (by decide)] at h; exact h)⟩⟩⟩
    · have d1 : l.getD 1 false = true := by simp [Region.binds] at hd; simp [hd]
      obtain rfl := F.e6.resolve_left (L.l1 d1)
      have p0 := HP0.out _ F.kept
      refine wpOp_open rfl (fun K hK => ?_)
      go_simp
      exact hK.out _ _ ⟨_, _, _, _, _, _, _, _, _, _, rfl, .inl ⟨by rw [HSET.out, if_neg (by decide)]; exact h10, { F with e7 := .inr rfl }, ⟨fun h => L.l0 (by rw [HSET.out, if_neg (by decide)] at h; exact h), fun h => L.l1 (by rw [HSET.out, if_neg (by decide)] at h; exact h), fun _ => by simp [undef], fun h => L.l3 (by rw [HSET.out, if_neg (by decide)] at h; exact h), fun h => L.l4 (by rw [HSET.out, if_neg (by decide)] at h; exact h), fun h => L.l5 (by rw [HSET.out, if_neg (by decide)] at h; exact h), fun h => L.l6 (by rw [HSET.out, if_neg (by decide)] at h; exact h), fun h => L.l7 (by rw [HSET.out, if_neg (by decide)] at h; exact h), fun h => L.l8 (by rw [HSET.out, if_neg (by decide)] at h; exact h), fun h => L.l9 (by rw [HSET.out, if_neg (by decide)] at h; exact h)⟩⟩⟩
    · have d0 : l.getD 0 false = true := by simp [Region.binds] at hd; simp [hd]
      have d2 : l.getD 2 false = true := by simp [Region.binds] at hd; simp [hd]
      obtain ⟨g, rfl⟩ := F.e5.resolve_left (L.l0 d0)
      obtain rfl := F.e7.resolve_left (L.l2 d2)
      refine wpOp_open rfl (fun K hK => ?_)
      refine step_append_new _ (by rfl) _ _ _ (by rfl) 48 i1 (.agg #[.int .i64 0, .bool false, .int .i64 0]) 3 24 Try.underlying22 HI1.out HZ1.out HN1.out HB1.out rfl (by decide) Ob.three _ (by rfl) _ _ _ (by rfl) (HEO.out _ F.kept) (by omega) ?_
      intro A c w2 hM hg
      have hk : Kept (fun _ => False) w1 w2 := (Kept.refl _ w1).grown hg (fun _ _ e => by cases e)
      simp only [Act.put, List.setIfInBounds_toArray]
      exact hK.out _ _ ⟨_, _, _, _, _, _, _, _, _, _, rfl, .inl ⟨by rw [HSET.out, if_neg (by decide)]; exact h10, { (F.on hk) with e8 := .inr ⟨A, c, rfl, F.off hM⟩ }, ⟨fun h => L.l0 (by rw [HSET.out, if_neg (by decide)] at h; exact h), fun h => L.l1 (by rw [HSET.out, if_neg (by decide)] at h; exact h), fun h => L.l2 (by rw [HSET.out, if_neg (by decide)] at h; exact h), fun _ => by simp [undef], fun h => L.l4 (by rw [HSET.out, if_neg (by decide)] at h; exact h), fun h => L.l5 (by rw [HSET.out, if_neg (by decide)] at h; exact h), fun h => L.l6 (by rw [HSET.out, if_neg (by decide)] at h; exact h), fun h => L.l7 (by rw [HSET.out, if_neg (by decide)] at h; exact h), fun h => L.l8 (by rw [HSET.out, if_neg (by decide)] at h; exact h), fun h => L.l9 (by rw [HSET.out, if_neg (by decide)] at h; exact h)⟩⟩⟩
    · refine wpOp_open rfl (fun K hK => ?_)
      go_simp
      exact hK.out _ _ ⟨_, _, _, _, _, _, _, _, _, _, rfl, .inl ⟨by rw [HSET.out, if_neg (by decide)]; exact h10, { (F.on ((Kept.refl _ w1).alloc _)) with e9 := .inr ⟨_, rfl⟩ }, ⟨fun h => L.l0 (by rw [HSET.out, if_neg (by decide)] at h; exact h), fun h => L.l1 (by rw [HSET.out, if_neg (by decide)] at h; exact h), fun h => L.l2 (by rw [HSET.out, if_neg (by decide)] at h; exact h), fun h => L.l3 (by rw [HSET.out, if_neg (by decide)] at h; exact h), fun _ => by simp [undef], fun h => L.l5 (by rw [HSET.out, if_neg (by decide)] at h; exact h), fun h => L.l6 (by rw [HSET.out, if_neg (by decide)] at h; exact h), fun h => L.l7 (by rw [HSET.out, if_neg (by decide)] at h; exact h), fun h => L.l8 (by rw [HSET.out, if_neg (by decide)] at h; exact h), fun h => L.l9 (by rw [HSET.out, if_neg (by decide)] at h; exact h)⟩⟩⟩
    · refine wpOp_open rfl (fun K hK => ?_)
      go_simp
      exact hK.out _ _ ⟨_, _, _, _, _, _, _, _, _, _, rfl, .inl ⟨by rw [HSET.out, if_neg (by decide)]; exact h10, { F with e10 := .inr rfl }, ⟨fun h => L.l0 (by rw [HSET.out, if_neg (by decide)] at h; exact h), fun h => L.l1 (by rw [HSET.out, if_neg (by decide)] at h; exact h), fun h => L.l2 (by rw [HSET.out, if_neg (by decide)] at h; exact h), fun h => L.l3 (by rw [HSET.out, if_neg (by decide)] at h; exact h), fun h => L.l4 (by rw [HSET.out, if_neg (by decide)] at h; exact h), fun _ => by simp [undef], fun h => L.l6 (by rw [HSET.out, if_neg (by decide)] at h; exact h), fun h => L.l7 (by rw [HSET.out, if_neg (by decide)] at h; exact h), fun h => L.l8 (by rw [HSET.out, if_neg (by decide)] at h; exact h), fun h => L.l9 (by rw [HSET.out, if_neg (by decide)] at h; exact h)⟩⟩⟩
    · have d5 : l.getD 5 false = true := by simp [Region.binds] at hd; simp [hd]
      obtain rfl := F.e10.resolve_left (L.l5 d5)
      have p2 := HP2.out _ F.kept
      refine wpOp_open rfl (fun K hK => ?_)
      go_simp
      exact hK.out _ _ ⟨_, _, _, _, _, _, _, _, _, _, rfl, .inl ⟨by rw [HSET.out, if_neg (by decide)]; exact h10, { F with e11 := .inr rfl }, ⟨fun h => L.l0 (by rw [HSET.out, if_neg (by decide)] at h; exact h), fun h => L.l1 (by rw [HSET.out, if_neg (by decide)] at h; exact h), fun h => L.l2 (by rw [HSET.out, if_neg (by decide)] at h; exact h), fun h => L.l3 (by rw [HSET.out, if_neg (by decide)] at h; exact h), fun h => L.l4 (by rw [HSET.out, if_neg (by decide)] at h; exact h), fun h => L.l5 (by rw [HSET.out, if_neg (by decide)] at h; exact h), fun _ => by simp [undef], fun h => L.l7 (by rw [HSET.out, if_neg (by decide)] at h; exact h), fun h => L.l8 (by rw [HSET.out, if_neg (by decide)] at h; exact h), fun h => L.l9 (by rw [HSET.out, if_neg (by decide)] at h; exact h)⟩⟩⟩
    · have d4 : l.getD 4 false = true := by simp [Region.binds] at hd; simp [hd]
      have d6 : l.getD 6 false = true := by simp [Region.binds] at hd; simp [hd]
      obtain ⟨g, rfl⟩ := F.e9.resolve_left (L.l4 d4)
      obtain rfl := F.e11.resolve_left (L.l6 d6)
      refine wpOp_open rfl (fun K hK => ?_)
      refine step_append_new _ (by rfl) _ _ _ (by rfl) 57 i2 (.agg #[.int .i64 0, .int .i64 0]) 2 16 Try.underlying24 HI2.out HZ2.out HN2.out HB2.out rfl (by decide) Pi.two _ (by rfl) _ _ _ (by rfl) (HEP.out _ F.kept) (by omega) ?_
      intro A c w2 hM hg
      have hk : Kept (fun _ => False) w1 w2 := (Kept.refl _ w1).grown hg (fun _ _ e => by cases e)
      simp only [Act.put, List.setIfInBounds_toArray]
      exact hK.out _ _ ⟨_, _, _, _, _, _, _, _, _, _, rfl, .inl ⟨by rw [HSET.out, if_neg (by decide)]; exact h10, { (F.on hk) with e12 := .inr ⟨A, c, rfl, F.off hM⟩ }, ⟨fun h => L.l0 (by rw [HSET.out, if_neg (by decide)] at h; exact h), fun h => L.l1 (by rw [HSET.out, if_neg (by decide)] at h; exact h), fun h => L.l2 (by rw [HSET.out, if_neg (by decide)] at h; exact h), fun h => L.l3 (by rw [HSET.out, if_neg (by decide)] at h; exact h), fun h => L.l4 (by rw [HSET.out, if_neg (by decide)] at h; exact h), fun h => L.l5 (by rw [HSET.out, if_neg (by decide)] at h; exact h), fun h => L.l6 (by rw [HSET.out, if_neg (by decide)] at h; exact h), fun _ => by simp [undef], fun h => L.l8 (by rw [HSET.out, if_neg (by decide)] at h; exact h), fun h => L.l9 (by rw [HSET.out, if_neg (by decide)] at h; exact h)⟩⟩⟩
    · have d3 : l.getD 3 false = true := by simp [Region.binds] at hd; simp [hd]
      have d7 : l.getD 7 false = true := by simp [Region.binds] at hd; simp [hd]
      obtain ⟨A, c, rfl, hM⟩ := F.e8.resolve_left (L.l3 d3)
      obtain ⟨A', c', rfl, hM'⟩ := F.e12.resolve_left (L.l7 d7)
      refine wpOp_open rfl (fun K hK => ?_)
      go_simp
      exact hK.out _ _ ⟨_, _, _, _, _, _, _, _, _, _, rfl, .inl ⟨by rw [HSET.out, if_neg (by decide)]; exact h10, { F with e13 := .inr ⟨_, _, _, _, rfl, hM, hM'⟩ }, ⟨fun h => L.l0 (by rw [HSET.out, if_neg (by decide)] at h; exact h), fun h => L.l1 (by rw [HSET.out, if_neg (by decide)] at h; exact h), fun h => L.l2 (by rw [HSET.out, if_neg (by decide)] at h; exact h), fun h => L.l3 (by rw [HSET.out, if_neg (by decide)] at h; exact h), fun h => L.l4 (by rw [HSET.out, if_neg (by decide)] at h; exact h), fun h => L.l5 (by rw [HSET.out, if_neg (by decide)] at h; exact h), fun h => L.l6 (by rw [HSET.out, if_neg (by decide)] at h; exact h), fun h => L.l7 (by rw [HSET.out, if_neg (by decide)] at h; exact h), fun _ => by simp [undef], fun h => L.l9 (by rw [HSET.out, if_neg (by decide)] at h; exact h)⟩⟩⟩
    · refine wpOp_open rfl (fun K hK => ?_)
      go_simp
      exact hK.out _ _ ⟨_, _, _, _, _, _, _, _, _, _, rfl, .inl ⟨by rw [HSET.out, if_neg (by decide)]; exact h10, F.var, ⟨fun h => L.l0 (by rw [HSET.out, if_neg (by decide)] at h; exact h), fun h => L.l1 (by rw [HSET.out, if_neg (by decide)] at h; exact h), fun h => L.l2 (by rw [HSET.out, if_neg (by decide)] at h; exact h), fun h => L.l3 (by rw [HSET.out, if_neg (by decide)] at h; exact h), fun h => L.l4 (by rw [HSET.out, if_neg (by decide)] at h; exact h), fun h => L.l5 (by rw [HSET.out, if_neg (by decide)] at h; exact h), fun h => L.l6 (by rw [HSET.out, if_neg (by decide)] at h; exact h), fun h => L.l7 (by rw [HSET.out, if_neg (by decide)] at h; exact h), fun h => L.l8 (by rw [HSET.out, if_neg (by decide)] at h; exact h), fun _ => by simp [undef]⟩⟩⟩
    · have d8 : l.getD 8 false = true := by simp [Region.binds] at hd; simp [hd]
      have d9 : l.getD 9 false = true := by simp [Region.binds] at hd; simp [hd]
      obtain ⟨b, rfl, hb, h3⟩ := F.e3.resolve_left (L.l9 d9)
      obtain ⟨A, c, A', c', rfl, hM, hM'⟩ := F.e13.resolve_left (L.l8 d8)
      have hall : ∀ j, j < 10 → l.getD j false = true := by
        simp [Region.binds] at hd
        intro j hj
        have hj' : j = 0 ∨ j = 1 ∨ j = 2 ∨ j = 3 ∨ j = 4 ∨ j = 5 ∨ j = 6 ∨ j = 7 ∨ j = 8 ∨ j = 9 := by omega
        rcases hj' with rfl | rfl | rfl | rfl | rfl | rfl | rfl | rfl | rfl | rfl <;> simp [hd]
      have c0 : w1.cell? ⟨b, 0, none⟩ = some (.slice none 0 0) := by rw [cell_at w1 b 0 _ _ h3]; rfl
      have c1 : w1.cell? ⟨b, 1, none⟩ = some (.slice none 0 0) := by rw [cell_at w1 b 1 _ _ h3]; rfl
      have c2 : w1.cell? ⟨b, 2, none⟩ = some (.slice none 0 0) := by rw [cell_at w1 b 2 _ _ h3]; rfl
      have f0 := frozen_at w1 b 0 _ _ h3
      have f1 := frozen_at w1 b 1 _ _ h3
      have f2 := frozen_at w1 b 2 _ _ h3
      refine wpOp_open rfl (fun K hK => ?_)
      go_simp
      refine hK.out _ _ ⟨_, _, _, _, _, _, _, _, _, _, rfl, .inr ⟨by rw [HSET.out, if_pos rfl], fun j hj => by rw [HSET.out]; split; rfl; exact hall j hj, b, A, c, A', c', rfl, hb, kept_set3 hb F.kept, set_at3 h3, hM.set3, hM'.set3⟩⟩
  case hend =>
    intro l a w1 hs hI hr
    have hs' : l.size = 11 := hs
    obtain ⟨v3, v5, v6, v7, v8, v9, v10, v11, v12, v13, rfl, ⟨h10, F, L⟩ | ⟨_, _, b, A, c, A', c', rfl, hb, hkept, hblk, hM, hM'⟩⟩ := hI
    case inl =>
      exfalso
      have e0 : l.getD 0 false = true := getD_same (by omega) (ready_in (i := 0) hr (by decide) (by simp [Region.binds]))
      have q0 : l[0]?.getD false = true := by simpa using e0
      have e1 : l.getD 1 false = true := getD_same (by omega) (ready_in (i := 1) hr (by decide) (by simp [Region.binds]))
      have q1 : l[1]?.getD false = true := by simpa using e1
      have e2 : l.getD 2 false = true := getD_same (by omega) (ready_in (i := 2) hr (by decide) (by simp [Region.binds, q1]))
      have q2 : l[2]?.getD false = true := by simpa using e2
      have e3 : l.getD 3 false = true := getD_same (by omega) (ready_in (i := 3) hr (by decide) (by simp [Region.binds, q0, q2]))
      have q3 : l[3]?.getD false = true := by simpa using e3
      have e4 : l.getD 4 false = true := getD_same (by omega) (ready_in (i := 4) hr (by decide) (by simp [Region.binds]))
      have q4 : l[4]?.getD false = true := by simpa using e4
      have e5 : l.getD 5 false = true := getD_same (by omega) (ready_in (i := 5) hr (by decide) (by simp [Region.binds]))
      have q5 : l[5]?.getD false = true := by simpa using e5
      have e6 : l.getD 6 false = true := getD_same (by omega) (ready_in (i := 6) hr (by decide) (by simp [Region.binds, q5]))
      have q6 : l[6]?.getD false = true := by simpa using e6
      have e7 : l.getD 7 false = true := getD_same (by omega) (ready_in (i := 7) hr (by decide) (by simp [Region.binds, q4, q6, q3]))
      have q7 : l[7]?.getD false = true := by simpa using e7
      have e8 : l.getD 8 false = true := getD_same (by omega) (ready_in (i := 8) hr (by decide) (by simp [Region.binds, q3, q7]))
      have q8 : l[8]?.getD false = true := by simpa using e8
      have e9 : l.getD 9 false = true := getD_same (by omega) (ready_in (i := 9) hr (by decide) (by simp [Region.binds]))
      have q9 : l[9]?.getD false = true := by simpa using e9
      have e10 : l.getD 10 false = true := getD_same (by omega) (ready_in (i := 10) hr (by decide) (by simp [Region.binds, q0, q1, q2, q3, q4, q5, q6, q7, q8, q9]))
      have q10 : l[10]?.getD false = true := by simpa using e10
      rw [e10] at h10
      cases h10
    have hzb : b < w1.heap.size := (Array.getElem?_eq_some_iff.1 hblk).1
    have HY : ∃ y : Sc, w1.heap[b]? = some (.cells #[.slice y.os y.obs.length y.oc, .slice y.ps y.prs.length y.pc, .slice y.ks y.pis.length y.kc] 26 (0, 0)) ∧ y.obs = obs ∧ y.pis = pis ∧ y.prs.map Pr.ops = (prs.take 0).map Pr.ops ∧ Owned W2.heap.size (fun g => g = b) w1 y ∧ Kept (fun _ => False) W2 w1 :=
      ⟨⟨A, c, obs, none, 0, [], A', c', pis⟩, hblk, rfl, rfl, rfl, Owned.start hM.1 (fun hne g e => hM.2 hne g b e rfl) hM'.1 (fun hne g e => hM'.2 hne g b e rfl), hkept⟩
    have HYY := Lib.hid HY
    clear HY hM hM' hblk hkept
    go_wp2_with fail
    go_loopw [4] (fun i wr => ∃ k : Nat, i = .int .i64 k ∧ k ≤ prs.length ∧ ∃ y : Sc, wr.heap[b]? = some (.cells #[.slice y.os y.obs.length y.oc, .slice y.ps y.prs.length y.pc, .slice y.ks y.pis.length y.kc] 26 (0, 0)) ∧ y.obs = obs ∧ y.pis = pis ∧ y.prs.map Pr.ops = (prs.take k).map Pr.ops ∧ Owned W2.heap.size (fun g => g = b) wr y ∧ Kept (fun _ => False) W2 wr) (fun i _ => prs.length - (intOf i).toNat)
    case atStart => exact ⟨0, rfl, by omega, HYY.out⟩
    case round =>
      clear HYY
      obtain ⟨k, rfl, hk1, y, hblk, hy1, hy2, hy3, hown, hkept⟩ := hrel
      have HK := Lib.hid hkept
      have HBLK := Lib.hid hblk
      have c1x := HP1.out _ hkept
      have HOW := Lib.hid hown
      have HOWN := Lib.hid hown.own
      have hyl : y.prs.length = k := by have := congrArg List.length hy3; simp at this; omega
      have HYL := Lib.hid hyl
      clear hyl
      have hzb : b < wr.heap.size := (Array.getElem?_eq_some_iff.1 hblk).1
      have HZB := Lib.hid hzb
      have HROWB := Lib.hid (fun (e : y.row = some b) => hown.off b e rfl)
      have HY1 := Lib.hid hy1
      have HY2 := Lib.hid hy2
      have HY3 := Lib.hid hy3
      have hz := hkept.size
      clear hown hblk hy1 hy2 hy3 hkept
      by_cases hkk : k < prs.length
      · obtain ⟨p, hp⟩ : ∃ p, prs[k]? = some p := ⟨_, List.getElem?_eq_getElem hkk⟩
        obtain ⟨g, off, rfl, hg, _⟩ := pr_at (HER.out _ _ HK.out (fun _ _ f => f)).row hp
        have hpl : p.ops.length ≤ 100 := of_decide_eq_true (List.all_eq_true.1 HB5.out p (List.mem_of_getElem? hp))
        have hrow : ∀ q, y.row = some q → W2.heap.size ≤ q := fun q hq => (World.ownsRow.lt HOWN.out q hq).1
        have HPX := Lib.hid (fun (w' : World) (hk : Kept (fun q => y.row = some q) wr w') => (hk.cell (p := ⟨bx, 1, none⟩) (by show bx < _; omega) (fun hq => by have : W2.heap.size ≤ bx := hrow bx hq; omega)).trans c1x)
        have hkr : ∀ w', Kept (fun q => y.row = some q) wr w' → Prs w' bx (some ⟨g, off, none⟩) prs := fun w' hk => HER.out (fun q => y.row = some q) w' ((HK.out.mono (fun _ _ f => f.elim)).trans hk (fun _ _ e => e)) (fun k hk hq => by have := hrow k hq; omega)
        have HPR := Lib.hid (fun (w' : World) (hk : Kept (fun q => y.row = some q) wr w') => by
          obtain ⟨g', off', e, _, h⟩ := pr_at (hkr w' hk).row hp
          simp only [Option.some.injEq, Addr.mk.injEq, and_true] at e
          obtain ⟨rfl, rfl⟩ := e
          exact h)
        have HOP := Lib.hid (fun (w' : World) (hk : Kept (fun q => y.row = some q) wr w') => (hkr w' hk).ops p (List.mem_of_getElem? hp))
        have HPP := Lib.hid hp
        clear hp hkr hrow
        have k0 : (0 : Int) ≤ (k : Int) := by omega
        have k1 : (k : Int) < (prs.length : Int) := by omega
        go_wp2_with fail
        refine wp_region_any (by kernel_rfl) (wpAny_inv (LoopInv W2 wr bx b k g off pc prs.length p y ag (.pointer (some ⟨bx + 1, 0, none⟩)) v5 v6 v7 v8 v9 v10 v11 v12 v13) ?hstep ?hend _ _ _ _ (by simp) (by simp) ?hstart)
        case hstart =>
          refine ⟨_, _, _, _, _, _, _, _, _, _, _, _, _, _, _, _, _, _, _, rfl, .inl ⟨by simp, ⟨(Kept.refl _ wr).drew, fun _ => (Kept.refl _ wr).drew, fun h => by simp at h, fun h => by simp at h, fun h => by simp at h, fun h => by simp at h, fun h => by simp at h, fun h => by simp at h, fun h => by simp at h, fun h => by simp at h, fun h => by simp at h, fun h => by simp at h, fun h => by simp at h, fun h => by simp at h⟩⟩⟩
        case hstep =>
          intro l a w2 i hs hI hi
          have hs' : l.size = 13 := hs
          obtain ⟨hlt, hu, hd⟩ := ready_of hi
          have hset : ∀ j b, (l.setIfInBounds i true).getD j b = if j = i then true else l.getD j b := fun j b => getD_set (by omega)
          have hlt' : i < 13 := hlt
          clear hi hlt
          have hu' := getD_false hu
          obtain ⟨u14, u15, u16, u17, u18, u19, u20, v21, v22, v23, v24, v25, v26, v27, v28, v29, v30, v31, v32, rfl, ⟨h12, F⟩ | ⟨h12, hall, _⟩⟩ := hI
          case inr =>
            exfalso
            by_cases hi12 : i = 12
            · subst hi12; rw [h12] at hu'; cases hu'
            · rw [hall i (by omega)] at hu'; cases hu'
          have hi : i = 0 ∨ i = 1 ∨ i = 2 ∨ i = 3 ∨ i = 4 ∨ i = 5 ∨ i = 6 ∨ i = 7 ∨ i = 8 ∨ i = 9 ∨ i = 10 ∨ i = 11 ∨ i = 12 := by omega
          clear hlt'
          have hsj : ∀ j, j ≠ i → (l.setIfInBounds i true).getD j false = true → l.getD j false = true := fun j hj h => by rw [hset, if_neg hj] at h; exact h
          have HS := Lib.hid hsj; clear hsj
          have HSET := Lib.hid hset; clear hset
          rcases hi with rfl | rfl | rfl | rfl | rfl | rfl | rfl | rfl | rfl | rfl | rfl | rfl | rfl
          · refine wpOp_open rfl (fun K hK => ?_)
            go_simp
            exact hK.out _ _ ⟨_, _, _, _, _, _, _, _, _, _, _, _, _, _, _, _, _, _, _, rfl, .inl ⟨by rw [HSET.out, if_neg (by decide)]; exact h12,
              { kept := F.kept
                calm := fun h => F.calm (by rw [HSET.out, if_neg (by decide)] at h; exact h)
                e21 := fun _ => rfl
                e22 := fun h => F.e22 (HS.out 1 (by decide) h)
                e23 := fun h => F.e23 (HS.out 2 (by decide) h)
                e24 := fun h => F.e24 (HS.out 3 (by decide) h)
                e25 := fun h => F.e25 (HS.out 4 (by decide) h)
                e26 := fun h => F.e26 (HS.out 5 (by decide) h)
                e27 := fun h => F.e27 (HS.out 6 (by decide) h)
                e28 := fun h => F.e28 (HS.out 7 (by decide) h)
                e29 := fun h => F.e29 (HS.out 8 (by decide) h)
                e30 := fun h => F.e30 (HS.out 9 (by decide) h)
                e31 := fun h => F.e31 (HS.out 10 (by decide) h)
                e32 := fun h => F.e32 (HS.out 11 (by decide) h) }⟩⟩
          · have d0 : l.getD 0 false = true := by simp [Region.binds] at hd; simp [hd]
            obtain rfl := F.e21 d0
            have hbw := (F.kept.block b HZB.out (HROWB.out)).trans HBLK.out
            have c1 : w2.cell? ⟨b, 1, none⟩ = some (.slice y.ps y.prs.length y.pc) := by rw [cell_at w2 b 1 _ _ hbw]; rfl
            clear hbw
            refine wpOp_open rfl (fun K hK => ?_)
            go_simp
            exact hK.out _ _ ⟨_, _, _, _, _, _, _, _, _, _, _, _, _, _, _, _, _, _, _, rfl, .inl ⟨by rw [HSET.out, if_neg (by decide)]; exact h12,
              { kept := F.kept
                calm := fun h => F.calm (by rw [HSET.out, if_neg (by decide)] at h; exact h)
                e21 := fun h => F.e21 (HS.out 0 (by decide) h)
                e22 := fun _ => rfl
                e23 := fun h => F.e23 (HS.out 2 (by decide) h)
                e24 := fun h => F.e24 (HS.out 3 (by decide) h)
                e25 := fun h => F.e25 (HS.out 4 (by decide) h)
                e26 := fun h => F.e26 (HS.out 5 (by decide) h)
                e27 := fun h => F.e27 (HS.out 6 (by decide) h)
                e28 := fun h => F.e28 (HS.out 7 (by decide) h)
                e29 := fun h => F.e29 (HS.out 8 (by decide) h)
                e30 := fun h => F.e30 (HS.out 9 (by decide) h)
                e31 := fun h => F.e31 (HS.out 10 (by decide) h)
                e32 := fun h => F.e32 (HS.out 11 (by decide) h) }⟩⟩
          · have F2 := F.on ((Kept.refl _ w2).alloc (.cells #[] 62))
            refine wpOp_open rfl (fun K hK => ?_)
            go_simp
            exact hK.out _ _ ⟨_, _, _, _, _, _, _, _, _, _, _, _, _, _, _, _, _, _, _, rfl, .inl ⟨by rw [HSET.out, if_neg (by decide)]; exact h12,
              { kept := F2.kept
                calm := fun h => F2.calm (by rw [HSET.out, if_neg (by decide)] at h; exact h)
                e21 := fun h => F2.e21 (HS.out 0 (by decide) h)
                e22 := fun h => F2.e22 (HS.out 1 (by decide) h)
                e23 := fun _ => ⟨_, rfl⟩
                e24 := fun h => F2.e24 (HS.out 3 (by decide) h)
                e25 := fun h => F2.e25 (HS.out 4 (by decide) h)
                e26 := fun h => F2.e26 (HS.out 5 (by decide) h)
                e27 := fun h => F2.e27 (HS.out 6 (by decide) h)
                e28 := fun h => F2.e28 (HS.out 7 (by decide) h)
                e29 := fun h => F2.e29 (HS.out 8 (by decide) h)
                e30 := fun h => F2.e30 (HS.out 9 (by decide) h)
                e31 := fun h => F2.e31 (HS.out 10 (by decide) h)
                e32 := fun h => F2.e32 (HS.out 11 (by decide) h) }⟩⟩
          · refine wpOp_open rfl (fun K hK => ?_)
            go_simp
            exact hK.out _ _ ⟨_, _, _, _, _, _, _, _, _, _, _, _, _, _, _, _, _, _, _, rfl, .inl ⟨by rw [HSET.out, if_neg (by decide)]; exact h12,
              { kept := F.kept
                calm := fun h => F.calm (by rw [HSET.out, if_neg (by decide)] at h; exact h)
                e21 := fun h => F.e21 (HS.out 0 (by decide) h)
                e22 := fun h => F.e22 (HS.out 1 (by decide) h)
                e23 := fun h => F.e23 (HS.out 2 (by decide) h)
                e24 := fun _ => rfl
                e25 := fun h => F.e25 (HS.out 4 (by decide) h)
                e26 := fun h => F.e26 (HS.out 5 (by decide) h)
                e27 := fun h => F.e27 (HS.out 6 (by decide) h)
                e28 := fun h => F.e28 (HS.out 7 (by decide) h)
                e29 := fun h => F.e29 (HS.out 8 (by decide) h)
                e30 := fun h => F.e30 (HS.out 9 (by decide) h)
                e31 := fun h => F.e31 (HS.out 10 (by decide) h)
                e32 := fun h => F.e32 (HS.out 11 (by decide) h) }⟩⟩
          · have d3 : l.getD 3 false = true := by simp [Region.binds] at hd; simp [hd]
            obtain rfl := F.e24 d3
            have c1 := HPX.out _ F.kept
            refine wpOp_open rfl (fun K hK => ?_)
            go_simp
            exact hK.out _ _ ⟨_, _, _, _, _, _, _, _, _, _, _, _, _, _, _, _, _, _, _, rfl, .inl ⟨by rw [HSET.out, if_neg (by decide)]; exact h12,
              { kept := F.kept
                calm := fun h => F.calm (by rw [HSET.out, if_neg (by decide)] at h; exact h)
                e21 := fun h => F.e21 (HS.out 0 (by decide) h)
                e22 := fun h => F.e22 (HS.out 1 (by decide) h)
                e23 := fun h => F.e23 (HS.out 2 (by decide) h)
                e24 := fun h => F.e24 (HS.out 3 (by decide) h)
                e25 := fun _ => rfl
                e26 := fun h => F.e26 (HS.out 5 (by decide) h)
                e27 := fun h => F.e27 (HS.out 6 (by decide) h)
                e28 := fun h => F.e28 (HS.out 7 (by decide) h)
                e29 := fun h => F.e29 (HS.out 8 (by decide) h)
                e30 := fun h => F.e30 (HS.out 9 (by decide) h)
                e31 := fun h => F.e31 (HS.out 10 (by decide) h)
                e32 := fun h => F.e32 (HS.out 11 (by decide) h) }⟩⟩
          · refine wpOp_open rfl (fun K hK => ?_)
            go_simp
            exact hK.out _ _ ⟨_, _, _, _, _, _, _, _, _, _, _, _, _, _, _, _, _, _, _, rfl, .inl ⟨by rw [HSET.out, if_neg (by decide)]; exact h12,
              { kept := F.kept
                calm := fun h => F.calm (by rw [HSET.out, if_neg (by decide)] at h; exact h)
                e21 := fun h => F.e21 (HS.out 0 (by decide) h)
                e22 := fun h => F.e22 (HS.out 1 (by decide) h)
                e23 := fun h => F.e23 (HS.out 2 (by decide) h)
                e24 := fun h => F.e24 (HS.out 3 (by decide) h)
                e25 := fun h => F.e25 (HS.out 4 (by decide) h)
                e26 := fun _ => rfl
                e27 := fun h => F.e27 (HS.out 6 (by decide) h)
                e28 := fun h => F.e28 (HS.out 7 (by decide) h)
                e29 := fun h => F.e29 (HS.out 8 (by decide) h)
                e30 := fun h => F.e30 (HS.out 9 (by decide) h)
                e31 := fun h => F.e31 (HS.out 10 (by decide) h)
                e32 := fun h => F.e32 (HS.out 11 (by decide) h) }⟩⟩
          · have d4 : l.getD 4 false = true := by simp [Region.binds] at hd; simp [hd]
            have d5 : l.getD 5 false = true := by simp [Region.binds] at hd; simp [hd]
            obtain rfl := F.e25 d4
            obtain rfl := F.e26 d5
            refine wpOp_open rfl (fun K hK => ?_)
            go_simp
            exact hK.out _ _ ⟨_, _, _, _, _, _, _, _, _, _, _, _, _, _, _, _, _, _, _, rfl, .inl ⟨by rw [HSET.out, if_neg (by decide)]; exact h12,
              { kept := F.kept
                calm := fun h => F.calm (by rw [HSET.out, if_neg (by decide)] at h; exact h)
                e21 := fun h => F.e21 (HS.out 0 (by decide) h)
                e22 := fun h => F.e22 (HS.out 1 (by decide) h)
                e23 := fun h => F.e23 (HS.out 2 (by decide) h)
                e24 := fun h => F.e24 (HS.out 3 (by decide) h)
                e25 := fun h => F.e25 (HS.out 4 (by decide) h)
                e26 := fun h => F.e26 (HS.out 5 (by decide) h)
                e27 := fun _ => rfl
                e28 := fun h => F.e28 (HS.out 7 (by decide) h)
                e29 := fun h => F.e29 (HS.out 8 (by decide) h)
                e30 := fun h => F.e30 (HS.out 9 (by decide) h)
                e31 := fun h => F.e31 (HS.out 10 (by decide) h)
                e32 := fun h => F.e32 (HS.out 11 (by decide) h) }⟩⟩
          · have d6 : l.getD 6 false = true := by simp [Region.binds] at hd; simp [hd]
            obtain rfl := F.e27 d6
            have c1 := HPR.out _ F.kept
            refine wpOp_open rfl (fun K hK => ?_)
            go_simp
            exact hK.out _ _ ⟨_, _, _, _, _, _, _, _, _, _, _, _, _, _, _, _, _, _, _, rfl, .inl ⟨by rw [HSET.out, if_neg (by decide)]; exact h12,
              { kept := F.kept
                calm := fun h => F.calm (by rw [HSET.out, if_neg (by decide)] at h; exact h)
                e21 := fun h => F.e21 (HS.out 0 (by decide) h)
                e22 := fun h => F.e22 (HS.out 1 (by decide) h)
                e23 := fun h => F.e23 (HS.out 2 (by decide) h)
                e24 := fun h => F.e24 (HS.out 3 (by decide) h)
                e25 := fun h => F.e25 (HS.out 4 (by decide) h)
                e26 := fun h => F.e26 (HS.out 5 (by decide) h)
                e27 := fun h => F.e27 (HS.out 6 (by decide) h)
                e28 := fun _ => rfl
                e29 := fun h => F.e29 (HS.out 8 (by decide) h)
                e30 := fun h => F.e30 (HS.out 9 (by decide) h)
                e31 := fun h => F.e31 (HS.out 10 (by decide) h)
                e32 := fun h => F.e32 (HS.out 11 (by decide) h) }⟩⟩
          · have d2 : l.getD 2 false = true := by simp [Region.binds] at hd; simp [hd]
            have d7 : l.getD 7 false = true := by simp [Region.binds] at hd; simp [hd]
            obtain ⟨g3, rfl⟩ := F.e23 d2
            obtain rfl := F.e28 d7
            refine wpOp_open rfl (fun K hK => ?_)
            refine step_append_new _ (by rfl) _ _ _ (by rfl) 62 i3 (.agg #[.int .i64 0, .int .i64 0, .int .i64 0, .int .i64 0, .bool false]) 5 40 Try.underlying49 HI3.out HZ3.out HN3.out HB3.out rfl (by decide) Cl.five _ (by rfl) _ _ _ (by rfl) (HOP.out _ F.kept) (by omega) ?_
            intro A1 c1 w3 hM hg3
            have hk3 : Kept (fun _ => False) w2 w3 := (Kept.refl _ w2).grown hg3 (fun _ _ e => by cases e)
            have F2 := F.on hk3
            simp only [Act.put, List.setIfInBounds_toArray]
            exact hK.out _ _ ⟨_, _, _, _, _, _, _, _, _, _, _, _, _, _, _, _, _, _, _, rfl, .inl ⟨by rw [HSET.out, if_neg (by decide)]; exact h12,
              { kept := F2.kept
                calm := fun h => F2.calm (by rw [HSET.out, if_neg (by decide)] at h; exact h)
                e21 := fun h => F2.e21 (HS.out 0 (by decide) h)
                e22 := fun h => F2.e22 (HS.out 1 (by decide) h)
                e23 := fun h => F2.e23 (HS.out 2 (by decide) h)
                e24 := fun h => F2.e24 (HS.out 3 (by decide) h)
                e25 := fun h => F2.e25 (HS.out 4 (by decide) h)
                e26 := fun h => F2.e26 (HS.out 5 (by decide) h)
                e27 := fun h => F2.e27 (HS.out 6 (by decide) h)
                e28 := fun h => F2.e28 (HS.out 7 (by decide) h)
                e29 := fun _ => ⟨A1, c1, rfl, hM.since F.kept.size⟩
                e30 := fun h => F2.e30 (HS.out 9 (by decide) h)
                e31 := fun h => F2.e31 (HS.out 10 (by decide) h)
                e32 := fun h => F2.e32 (HS.out 11 (by decide) h) }⟩⟩
          · have d8 : l.getD 8 false = true := by simp [Region.binds] at hd; simp [hd]
            obtain ⟨A1, c1, rfl, hM⟩ := F.e29 d8
            have F2 := F.on ((Kept.refl _ w2).alloc (.cells #[.slice A1 p.ops.length c1] 49))
            refine wpOp_open rfl (fun K hK => ?_)
            go_simp
            exact hK.out _ _ ⟨_, _, _, _, _, _, _, _, _, _, _, _, _, _, _, _, _, _, _, rfl, .inl ⟨by rw [HSET.out, if_neg (by decide)]; exact h12,
              { kept := F2.kept
                calm := fun h => F2.calm (by rw [HSET.out, if_neg (by decide)] at h; exact h)
                e21 := fun h => F2.e21 (HS.out 0 (by decide) h)
                e22 := fun h => F2.e22 (HS.out 1 (by decide) h)
                e23 := fun h => F2.e23 (HS.out 2 (by decide) h)
                e24 := fun h => F2.e24 (HS.out 3 (by decide) h)
                e25 := fun h => F2.e25 (HS.out 4 (by decide) h)
                e26 := fun h => F2.e26 (HS.out 5 (by decide) h)
                e27 := fun h => F2.e27 (HS.out 6 (by decide) h)
                e28 := fun h => F2.e28 (HS.out 7 (by decide) h)
                e29 := fun h => F2.e29 (HS.out 8 (by decide) h)
                e30 := fun _ => ⟨_, A1, c1, rfl, heap_alloc_new w2 _, F.kept.size, hM.kept ((Kept.refl (fun _ => False) w2).alloc _) (fun _ _ _ _ _ f => f)⟩
                e31 := fun h => F2.e31 (HS.out 10 (by decide) h)
                e32 := fun h => F2.e32 (HS.out 11 (by decide) h) }⟩⟩
          · have d1 : l.getD 1 false = true := by simp [Region.binds] at hd; simp [hd]
            have d9 : l.getD 9 false = true := by simp [Region.binds] at hd; simp [hd]
            obtain rfl := F.e22 d1
            obtain ⟨B1, A1, c1, rfl, hB1, hB2, hM⟩ := F.e30 d9
            have hcalm := F.calm hu'
            have hown2 := own_kept HOWN.out hcalm (fun _ _ f => f)
            have hz2 := hcalm.size
            refine wpOp_open rfl (fun K hK => ?_)
            refine step_append_elems (ys := [⟨A1, c1, p.ops⟩]) _ (by rfl) _ _ _ (by rfl) W2.heap.size 49 i4 (.slice none 0 0) 1 24 Try.underlying23 HI4.out HZ4.out HN4.out HB4.out rfl (by decide) Pr.one (one_prs _) (.slice y.ps y.prs.length y.pc) y.prs.length (flat Pr.cells y.prs) (by rfl) hown2 _ _ _ (by rfl) (Elems.block Pr.one hB1 rfl (by show 1 ≤ maxLen; decide)) (by show y.prs.length + 1 ≤ maxLen; have := HYL.out; unfold maxLen; omega) (by show (y.prs.length + 1) * 24 ≤ _; have := HYL.out; omega) (by omega) ?_
            intro v' w3 hown3 hg3 hat
            obtain ⟨g3, c3, rfl, hg31, hg32⟩ := World.ownsRow.form hown3 (by show 0 < y.prs.length + 1; omega)
            have hk3 : Kept (fun g => y.row = some g) w2 w3 := (Kept.refl _ w2).grown hg3 (fun k _ e => e)
            rw [← flat_append] at hown3
            have hrlt : ∀ g, y.row = some g → g < wr.heap.size := fun g hg => (World.ownsRow.lt HOWN.out g hg).2
            have hMk : Made wr.heap.size w3 A1 c1 5 Cl.cells p.ops := hM.kept hk3 (fun _ g h1 _ _ hr => by have := hrlt g hr; omega)
            have hap : p.ops ≠ [] → ∀ q, A1 = some ⟨q, 0, none⟩ → (Value.slice (some ⟨g3, 0, none⟩) (y.prs.length + 1) c3).ownBlock ≠ some q := by
              intro hne q e hq
              obtain ⟨g', e', hw1, hw2⟩ := hM.new hne
              rw [e] at e'
              simp only [Option.some.injEq, Addr.mk.injEq, and_true] at e'
              rcases hat with h | h
              · have := hrlt q (h.symm.trans hq); omega
              · have h' := h.symm.trans hq
                simp only [Option.some.injEq] at h'
                omega
            simp only [Act.put, List.setIfInBounds_toArray]
            exact hK.out _ _ ⟨_, _, _, _, _, _, _, _, _, _, _, _, _, _, _, _, _, _, _, rfl, .inl ⟨by rw [HSET.out, if_neg (by decide)]; exact h12,
              { kept := (hcalm.mono (fun _ _ f => f.elim)).trans hk3 (fun _ _ e => e)
                calm := fun h => by rw [HSET.out, if_pos rfl] at h; cases h
                e21 := fun h => F.e21 (HS.out 0 (by decide) h)
                e22 := fun h => F.e22 (HS.out 1 (by decide) h)
                e23 := fun h => F.e23 (HS.out 2 (by decide) h)
                e24 := fun h => F.e24 (HS.out 3 (by decide) h)
                e25 := fun h => F.e25 (HS.out 4 (by decide) h)
                e26 := fun h => F.e26 (HS.out 5 (by decide) h)
                e27 := fun h => F.e27 (HS.out 6 (by decide) h)
                e28 := fun h => F.e28 (HS.out 7 (by decide) h)
                e29 := fun h => by obtain ⟨A, c, e, hA⟩ := F.e29 (HS.out 8 (by decide) h); exact ⟨A, c, e, hA.kept hk3 (fun _ g h1 _ _ hr => by have := hrlt g hr; omega)⟩
                e30 := fun _ => ⟨B1, A1, c1, rfl, (hk3.block B1 (Array.getElem?_eq_some_iff.1 hB1).1 (fun hr => by have := hrlt B1 hr; omega)).trans hB1, hB2, hMk⟩
                e31 := fun _ => ⟨A1, c1, _, _, rfl, hown3, hMk, hap, hat.imp id (fun e => ⟨_, e, hz2⟩)⟩
                e32 := fun h => F.e32 (HS.out 11 (by decide) h) }⟩⟩
          · refine wpOp_open rfl (fun K hK => ?_)
            go_simp
            exact hK.out _ _ ⟨_, _, _, _, _, _, _, _, _, _, _, _, _, _, _, _, _, _, _, rfl, .inl ⟨by rw [HSET.out, if_neg (by decide)]; exact h12,
              { kept := F.kept
                calm := fun h => F.calm (by rw [HSET.out, if_neg (by decide)] at h; exact h)
                e21 := fun h => F.e21 (HS.out 0 (by decide) h)
                e22 := fun h => F.e22 (HS.out 1 (by decide) h)
                e23 := fun h => F.e23 (HS.out 2 (by decide) h)
                e24 := fun h => F.e24 (HS.out 3 (by decide) h)
                e25 := fun h => F.e25 (HS.out 4 (by decide) h)
                e26 := fun h => F.e26 (HS.out 5 (by decide) h)
                e27 := fun h => F.e27 (HS.out 6 (by decide) h)
                e28 := fun h => F.e28 (HS.out 7 (by decide) h)
                e29 := fun h => F.e29 (HS.out 8 (by decide) h)
                e30 := fun h => F.e30 (HS.out 9 (by decide) h)
                e31 := fun h => F.e31 (HS.out 10 (by decide) h)
                e32 := fun _ => rfl }⟩⟩
          · have d10 : l.getD 10 false = true := by simp [Region.binds] at hd; simp [hd]
            have d11 : l.getD 11 false = true := by simp [Region.binds] at hd; simp [hd]
            obtain rfl := F.e32 d11
            obtain ⟨A1, c1, s3, c3, rfl, hrest⟩ := F.e31 d10
            have hall : ∀ j, j < 12 → l.getD j false = true := by
              simp [Region.binds] at hd
              intro j hj
              have hj' : j = 0 ∨ j = 1 ∨ j = 2 ∨ j = 3 ∨ j = 4 ∨ j = 5 ∨ j = 6 ∨ j = 7 ∨ j = 8 ∨ j = 9 ∨ j = 10 ∨ j = 11 := by omega
              rcases hj' with rfl | rfl | rfl | rfl | rfl | rfl | rfl | rfl | rfl | rfl | rfl | rfl <;> simp [hd]
            have hbw := (F.kept.block b HZB.out (HROWB.out)).trans HBLK.out
            have c1 : w2.cell? ⟨b, 1, none⟩ = some (.slice y.ps y.prs.length y.pc) := by rw [cell_at w2 b 1 _ _ hbw]; rfl
            have f1 := frozen_at w2 b 1 _ _ hbw
            clear hbw
            refine wpOp_open rfl (fun K hK => ?_)
            go_simp
            exact hK.out _ _ ⟨_, _, _, _, _, _, _, _, _, _, _, _, _, _, _, _, _, _, _, rfl, .inr ⟨by rw [HSET.out, if_pos rfl], fun j hj => by rw [HSET.out]; split; rfl; exact hall j hj, l, w2, d10, F, rfl⟩⟩
        case hend =>
          intro l a w2 hs hI hr
          have hs' : l.size = 13 := hs
          obtain ⟨u14, u15, u16, u17, u18, u19, u20, v21, v22, v23, v24, v25, v26, v27, v28, v29, v30, v31, v32, rfl, ⟨h12, F⟩ | ⟨_, _, l0, w0, h10, F, rfl⟩⟩ := hI
          case inl =>
            exfalso
            have e0 : l.getD 0 false = true := getD_same (by omega) (ready_in (i := 0) hr (by decide) (by simp [Region.binds]))
            have q0 : l[0]?.getD false = true := by simpa using e0
            have e1 : l.getD 1 false = true := getD_same (by omega) (ready_in (i := 1) hr (by decide) (by simp [Region.binds, q0]))
            have q1 : l[1]?.getD false = true := by simpa using e1
            have e2 : l.getD 2 false = true := getD_same (by omega) (ready_in (i := 2) hr (by decide) (by simp [Region.binds]))
            have q2 : l[2]?.getD false = true := by simpa using e2
            have e3 : l.getD 3 false = true := getD_same (by omega) (ready_in (i := 3) hr (by decide) (by simp [Region.binds]))
            have q3 : l[3]?.getD false = true := by simpa using e3
            have e4 : l.getD 4 false = true := getD_same (by omega) (ready_in (i := 4) hr (by decide) (by simp [Region.binds, q3]))
            have q4 : l[4]?.getD false = true := by simpa using e4
            have e5 : l.getD 5 false = true := getD_same (by omega) (ready_in (i := 5) hr (by decide) (by simp [Region.binds]))
            have q5 : l[5]?.getD false = true := by simpa using e5
            have e6 : l.getD 6 false = true := getD_same (by omega) (ready_in (i := 6) hr (by decide) (by simp [Region.binds, q4, q5]))
            have q6 : l[6]?.getD false = true := by simpa using e6
            have e7 : l.getD 7 false = true := getD_same (by omega) (ready_in (i := 7) hr (by decide) (by simp [Region.binds, q6]))
            have q7 : l[7]?.getD false = true := by simpa using e7
            have e8 : l.getD 8 false = true := getD_same (by omega) (ready_in (i := 8) hr (by decide) (by simp [Region.binds, q2, q7]))
            have q8 : l[8]?.getD false = true := by simpa using e8
            have e9 : l.getD 9 false = true := getD_same (by omega) (ready_in (i := 9) hr (by decide) (by simp [Region.binds, q8]))
            have q9 : l[9]?.getD false = true := by simpa using e9
            have e10 : l.getD 10 false = true := getD_same (by omega) (ready_in (i := 10) hr (by decide) (by simp [Region.binds, q1, q9, q8]))
            have q10 : l[10]?.getD false = true := by simpa using e10
            have e11 : l.getD 11 false = true := getD_same (by omega) (ready_in (i := 11) hr (by decide) (by simp [Region.binds, q0, q1, q2, q3, q4, q5, q6, q7, q8, q9, q10]))
            have q11 : l[11]?.getD false = true := by simpa using e11
            have e12 : l.getD 12 false = true := getD_same (by omega) (ready_in (i := 12) hr (by decide) (by simp [Region.binds, q0, q1, q2, q3, q4, q5, q6, q7, q8, q9, q10, q11]))
            have q12 : l[12]?.getD false = true := by simpa using e12
            rw [e12] at h12
            cases h12
          obtain ⟨A1, c1, s3, c3, rfl, hown1, hM1, hap, hat⟩ := F.e31 h10
          have hnext := Owned.next (v := .slice s3 (y.prs.length + 1) c3) HOW.out HZB.out HK.out.size F.kept hown1 hM1 hap hat (by have := HYL.out; unfold maxLen; omega)
          have hblk2 := set_block (o := 1) (v := .slice s3 (y.prs.length + 1) c3) ((F.kept.block b HZB.out HROWB.out).trans HBLK.out)
          have hk2 : Kept (fun _ => False) W2 (w0.setCell ⟨b, 1, none⟩ (.slice s3 (y.prs.length + 1) c3)) :=
            ((HK.out.trans F.kept (fun i hi e => by have := (World.ownsRow.lt HOWN.out i e).1; omega))).setCell _ _ (fun hl => by have hl' : b < W2.heap.size := hl; omega)
          have hmap : (y.prs ++ [(⟨A1, c1, p.ops⟩ : Pr)]).map Pr.ops = (prs.take (k + 1)).map Pr.ops := by
            obtain ⟨hlt, e⟩ := List.getElem?_eq_some_iff.1 HPP.out
            rw [List.take_succ_eq_append_getElem hlt, List.map_append, List.map_append, HY3.out, e]; rfl
          have hfin : ∃ k' : Nat, Value.int .i64 ((k : Int) + 1) = .int .i64 k' ∧ k' ≤ prs.length ∧ ∃ y' : Sc, (w0.setCell ⟨b, 1, none⟩ (.slice s3 (y.prs.length + 1) c3)).heap[b]? = some (.cells #[.slice y'.os y'.obs.length y'.oc, .slice y'.ps y'.prs.length y'.pc, .slice y'.ks y'.pis.length y'.kc] 26 (0, 0)) ∧ y'.obs = obs ∧ y'.pis = pis ∧ y'.prs.map Pr.ops = (prs.take k').map Pr.ops ∧ Owned W2.heap.size (fun g => g = b) (w0.setCell ⟨b, 1, none⟩ (.slice s3 (y.prs.length + 1) c3)) y' ∧ Kept (fun _ => False) W2 (w0.setCell ⟨b, 1, none⟩ (.slice s3 (y.prs.length + 1) c3)) :=
            ⟨k + 1, by go_num, by omega, ⟨y.os, y.oc, y.obs, s3, c3, y.prs ++ [⟨A1, c1, p.ops⟩], y.ks, y.kc, y.pis⟩, by
              rw [hblk2]
              show _ = some (Obj.cells #[.slice y.os y.obs.length y.oc, .slice s3 (y.prs ++ [(⟨A1, c1, p.ops⟩ : Pr)]).length c3, .slice y.ks y.pis.length y.kc] _ _)
              rw [show (y.prs ++ [(⟨A1, c1, p.ops⟩ : Pr)]).length = y.prs.length + 1 from by simp]
              rfl, HY1.out, HY2.out, hmap, hnext, hk2⟩
          have HFIN := Lib.hid hfin
          clear hnext hblk2 hk2 hmap hfin hown1 hM1 hap hat hr
          generalize (w0.setCell ⟨b, 1, none⟩ (.slice s3 (y.prs.length + 1) c3)) = wE at *
          go_wp2_with fail
          go_roundw
          case rel => exact HFIN.out
          case measure => simp [intOf]; omega
      · have hyp : y.prs.map Pr.ops = prs.map Pr.ops := by rw [HY3.out, List.take_of_length_le (by omega)]
        have c0 : wr.cell? ⟨b, 0, none⟩ = some (.slice y.os y.obs.length y.oc) := by rw [cell_at wr b 0 _ _ HBLK.out]; rfl
        have c1 : wr.cell? ⟨b, 1, none⟩ = some (.slice y.ps y.prs.length y.pc) := by rw [cell_at wr b 1 _ _ HBLK.out]; rfl
        have c2 : wr.cell? ⟨b, 2, none⟩ = some (.slice y.ks y.pis.length y.kc) := by rw [cell_at wr b 2 _ _ HBLK.out]; rfl
        have hrt : wr.heap[bx + 1]? = some (.cells #[.slice none 0 0, .slice none 0 0, .slice none 0 0] 26 (0, 0)) := (HK.out.block (bx + 1) (by omega) (fun f => f)).trans HRET.out
        have r0 : wr.cell? ⟨bx + 1, 0, none⟩ = some (.slice none 0 0) := by rw [cell_at wr _ 0 _ _ hrt]; rfl
        have r1 : wr.cell? ⟨bx + 1, 1, none⟩ = some (.slice none 0 0) := by rw [cell_at wr _ 1 _ _ hrt]; rfl
        have r2 : wr.cell? ⟨bx + 1, 2, none⟩ = some (.slice none 0 0) := by rw [cell_at wr _ 2 _ _ hrt]; rfl
        have f0 := frozen_at wr (bx + 1) 0 _ _ hrt
        have f1 := frozen_at wr (bx + 1) 1 _ _ hrt
        have f2 := frozen_at wr (bx + 1) 2 _ _ hrt
        have HRT := Lib.hid hrt; clear hrt
        have HYP := Lib.hid hyp; clear hyp
        go_wp2_with fail
        have hset := set_at3 (y0 := .slice y.os y.obs.length y.oc) (y1 := .slice y.ps y.prs.length y.pc) (y2 := .slice y.ks y.pis.length y.kc) HRT.out
        have hkS : Kept (fun g => g = bx + 1) wr (((wr.setCell ⟨bx + 1, 0, none⟩ (.slice y.os y.obs.length y.oc)).setCell ⟨bx + 1, 1, none⟩ (.slice y.ps y.prs.length y.pc)).setCell ⟨bx + 1, 2, none⟩ (.slice y.ks y.pis.length y.kc)) :=
          (((Kept.refl (fun g => g = bx + 1) wr).setCell ⟨bx + 1, 0, none⟩ _ (fun _ => rfl)).setCell ⟨bx + 1, 1, none⟩ _ (fun _ => rfl)).setCell ⟨bx + 1, 2, none⟩ _ (fun _ => rfl)
        have hz0 := HBX.out
        refine bodyPost_ret (results_cell_row rfl _ _ (bx + 1) _ _ _ _ rfl hset Try.underlying26 rfl Try.sizeScript) rfl ?_
        refine ⟨y, rfl, HY1.out, HY2.out, HYP.out, (HOW.out.far hkS (fun g hg e => by omega)).less (fun g h => h.elim) (by omega), (HKW.out.trans HK.out (fun _ _ f => f)).trans hkS (fun i hi e => by omega)⟩

end Go.Proofs.Ytkicpbnphbcdaaa
