/-
  The document's answer of layer 10: lock's mark 10.
  Conditions: no count is beyond two millions; the waiters lie in memory.
-/
import Derived.Test.YthjblniabnjfhaaModRefQ
import Derived.Deep.RegionLaw
import Derived.Deep.RegionWith
import Derived.Deep.Cut
import Derived.Deep.CutRange
import Derived.Deep.DeepCutAuto
import Derived.LoopTactic
namespace Go.Proofs.Ythjblniabnjfhaa
open Go.RowKit
set_option linter.unusedSimpArgs false
set_option linter.unusedVariables false

theorem app_kept {W w1 w3 : World} {g : Nat} (hk : Kept (fun _ => False) W w1) (hg : w1.grownBy w3 (Value.slice (some ⟨g, 0, none⟩) 0 0).ownBlock) (h : W.heap.size ≤ g) : Kept (fun _ => False) W w3 :=
  hk.grown hg (fun k hk e => by simp [Value.ownBlock] at e; omega)
/-- A block that was laid behind, or ahead of, the one that grows. -/
theorem one_behind {W w3 : World} {A B : Obj} {g : Nat} (hg : ((W.alloc A).alloc B).grownBy w3 (Value.slice (some ⟨g, 0, none⟩) 0 0).ownBlock) (hne : W.heap.size + 1 ≠ g) : w3.heap[W.heap.size + 1]? = some B := by
  have h1 := heap_alloc_new (W.alloc A) B
  rw [show (W.alloc A).heap.size = W.heap.size + 1 from by simp] at h1
  exact (hg.block _ (by simp) (by simpa [Value.ownBlock] using hne)).trans h1
theorem one_ahead {W w3 : World} {A B : Obj} {g : Nat} (hg : ((W.alloc B).alloc A).grownBy w3 (Value.slice (some ⟨g, 0, none⟩) 0 0).ownBlock) (hne : W.heap.size ≠ g) : w3.heap[W.heap.size]? = some B :=
  (hg.block W.heap.size (by simp; omega) (by simpa [Value.ownBlock] using hne)).trans (((Kept.refl (fun _ => False) (W.alloc B)).alloc A).at0 (heap_alloc_new W B))

set_option maxHeartbeats 4000000 in
set_option maxRecDepth 100000 in
theorem rlock_10 (x : Th) (t v : Int) (s : Option Addr) (c : Nat) (w : World) (hF : Fit x) (hE : InW w x s) (ht0 : 0 ≤ t) (hkd : (x.kind == 1) = true) :
    Calls Try.prog 22 #[x.agg s c, .int .i64 t, .int .i64 10, .int .i64 v] w (SaidB w s x.ws (if (x.owner == t && x.holds == v) = true then { x with ws := x.ws ++ [⟨t, x.holds⟩], owner := -1, holds := 0 } else x) (x.owner == t && x.holds == v)) := by
  have hl := hF.ws
  obtain ⟨i2, hi2, hz2, hn2, hb2⟩ := info_parts info_wt
  have HI := Lib.hid hi2; clear hi2
  have HZI := Lib.hid hz2; clear hz2
  have HN2 := Lib.hid hn2; clear hn2
  have HBY := Lib.hid hb2; clear hb2
  obtain ⟨W1, W2, hW1, hW2, s1, s2, hT, hZ, hk, hEl⟩ := ref_box x s c w hE
  obtain ⟨c0, c1, c2, c3, c4, c5, c6, c7, c8, c9, c10, c11, c12, c13, c14⟩ := hT.cells
  have f2 := hT.free 2
  have f3 := hT.free 3
  have HT := Lib.hid hT
  have HZ := Lib.hid hZ
  have HK := Lib.hid hk
  have HO := Lib.hid (Off.of hEl)
  have HF := Lib.hid hF
  clear hk hEl hE hT hZ hF
  have HSZ : Hid (w.heap.size + 2 ≤ W2.heap.size) := Lib.hid (by omega)
  obtain ⟨mb, hmm⟩ : ∃ mb, (x.owner == t && x.holds == v) = mb := ⟨_, rfl⟩
  rw [hmm]
  cases h1 : (x.owner == t) with
  | false =>
    have hm : mb = false := by rw [← hmm]; rw [h1, Bool.false_and]
    subst hm
    clear hmm
    rw [if_neg Bool.false_ne_true]
    have hTn := HT.out
    have hZn := HZ.out
    go_enter Try.func22, Try.ntmps22
    go_wp2_with (first | refine wpList_loadT (by rfl) (by rfl) (by rfl) (by assumption) ?_ | (refine wpList_storeT (by rfl) (by rfl) (by rfl) (by rfl) (by assumption) ?_; intro W5 hB5 hk5; obtain ⟨e0, e1, e2, e3, e4, e5, e6, e7, e8, e9, e10, e11, e12, e13, e14⟩ := hB5.cells))
    exact bodyPost_ret (v := .tuple #[Th.agg x s c, .bool false]) (by simp [results, Try.results22, go_sem, e0, e1, e2, e3, e4, e5, e6, e7, e8, e9, e10, e11, e12, e13, e14]) rfl (fin_off (y := x) (HK.out.mono (fun _ _ f => f.elim)) (.inl ⟨rfl, rfl⟩) (Kept.one w.heap.size W2) hk5)
  | true =>
    cases h2 : (v == x.holds) with
    | false =>
      have hm : mb = false := by rw [← hmm]; rw [beq_swap x.holds v, h2, Bool.and_false]
      subst hm
      clear hmm
      rw [if_neg Bool.false_ne_true]
      have hTn := HT.out
      have hZn := HZ.out
      go_enter Try.func22, Try.ntmps22
      go_wp2_with (first | refine wpList_loadT (by rfl) (by rfl) (by rfl) (by assumption) ?_ | (refine wpList_storeT (by rfl) (by rfl) (by rfl) (by rfl) (by assumption) ?_; intro W5 hB5 hk5; obtain ⟨e0, e1, e2, e3, e4, e5, e6, e7, e8, e9, e10, e11, e12, e13, e14⟩ := hB5.cells))
      exact bodyPost_ret (v := .tuple #[Th.agg x s c, .bool false]) (by simp [results, Try.results22, go_sem, e0, e1, e2, e3, e4, e5, e6, e7, e8, e9, e10, e11, e12, e13, e14]) rfl (fin_off (y := x) (HK.out.mono (fun _ _ f => f.elim)) (.inl ⟨rfl, rfl⟩) (Kept.one w.heap.size W2) hk5)
    | true =>
      have hm : mb = true := by rw [← hmm, h1, beq_swap x.holds v, h2]; rfl
      subst hm
      clear hmm
      rw [if_pos rfl]
      obtain ⟨ws', hws'⟩ : ∃ ws', x.ws ++ [(⟨t, x.holds⟩ : Wt)] = ws' := ⟨_, rfl⟩
      rw [hws']
      have hl' : ws'.length = x.ws.length + 1 := by rw [← hws']; simp
      have HWS := Lib.hid hws'
      have HLW := Lib.hid hl'
      have HN : Hid (∀ v2 w4, w4.ownsRow W2.heap.size 44 2 v2 (x.ws.length + [(⟨t, x.holds⟩ : Wt)].length) (flat Wt.cells x.ws ++ flat Wt.cells [(⟨t, x.holds⟩ : Wt)]) → ∃ s' c', v2 = .slice s' ws'.length c' ∧ NewW (w.heap.size + 2) w4 s' c' ws') := Lib.hid (fun v2 w4 g => by
        rw [show flat Wt.cells x.ws ++ flat Wt.cells [(⟨t, x.holds⟩ : Wt)] = flat Wt.cells ws' from by rw [← HWS.out]; simp [flat], show x.ws.length + [(⟨t, x.holds⟩ : Wt)].length = ws'.length from HLW.out.symm] at g
        obtain ⟨s', c', rfl, _⟩ := Made.of_own Wt.two g rfl (by have := HLW.out; unfold maxLen; omega)
        exact ⟨s', c', rfl, (OwnW.new (W := W2.heap.size) g (by have := HLW.out; unfold maxLen; omega)).since HSZ.out⟩)
      have SF : Hid (∀ w', Kept (fun _ => False) W2 w' → w'.cell? ⟨w.heap.size, 3, none⟩ = some (.int .i64 x.holds)) := Lib.hid (fun w' hk => (HT.out.kept0 hk).cells.c3)
      have HO3 : Hid (((W2.drew.alloc (.cells #[.int .i64 t, .int .i64 x.holds] 44)).alloc (.cells #[] 44)).ownsRow W2.heap.size 44 2 (.slice (some ⟨W2.heap.size + 1, 0, none⟩) 0 0) 0 []) := Lib.hid (by
        have h := World.ownsRow_made (base := W2.heap.size) (e := 44) (size := 2) (W2.drew.alloc (.cells #[.int .i64 t, .int .i64 x.holds] 44)) #[] 0 (by show W2.heap.size ≤ (W2.drew.alloc (.cells #[.int .i64 t, .int .i64 x.holds] 44)).heap.size; simp) (Nat.zero_le _) rfl
        rwa [show (W2.drew.alloc (.cells #[.int .i64 t, .int .i64 x.holds] 44)).heap.size = W2.heap.size + 1 from by simp] at h)
      have HEA : Hid (∀ w', Kept (fun _ => False) W2 w' → Elems w' W2.heap.size s 2 Wt.cells x.ws) := Lib.hid (fun w' hk => HO.out.el.kept hk (Nat.le_refl _) (fun _ _ f => f))
      have y0 := (HT.out.kept0 (Kept.refl _ W2)).cells.c12
      have y1 := (HT.out.kept0 ((Kept.refl _ W2).alloc (.cells #[] 44))).cells.c12
      have y2 := (HT.out.kept0 ((Kept.refl _ W2).alloc (.cells #[.int .i64 t, .int .i64 x.holds] 44))).cells.c12
      have y3 := (HT.out.kept0 (((Kept.refl _ W2).alloc (.cells #[] 44)).alloc (.cells #[.int .i64 t, .int .i64 x.holds] 44))).cells.c12
      have y5 := (HT.out.kept0 (Kept.refl _ W2)).cells.c3
      have y6 := (HT.out.kept0 ((Kept.refl _ W2).alloc (.cells #[] 44))).cells.c3
      have y4 := (HT.out.kept0 (((Kept.refl _ W2).alloc (.cells #[.int .i64 t, .int .i64 x.holds] 44)).alloc (.cells #[] 44))).cells.c12
      clear hws' hl'
      go_enter Try.func22, Try.ntmps22
      go_wp2_with (first | refine wpList_loadT (by rfl) (by rfl) (by rfl) (by assumption) ?_ | (refine wpList_storeT (by rfl) (by rfl) (by rfl) (by rfl) (by assumption) ?_; intro W5 hB5 hk5; obtain ⟨e0, e1, e2, e3, e4, e5, e6, e7, e8, e9, e10, e11, e12, e13, e14⟩ := hB5.cells))
      go_upto_region 22 with fail
      clear s1 s2 hW1 hW2
      go_cut [9] (fun z9 wx => z9 = .bool false ∧ ∃ s' c', BoxT wx w.heap.size { x with ws := ws' } s' c' ∧ BoxT wx (w.heap.size + 1) zeroTh none 0 ∧ NewW (w.heap.size + 2) wx s' c' ws' ∧ Kept (fun k => k = w.heap.size ∨ k = w.heap.size + 1) w wx)
      case first =>
        go_region_law
        (first
          | (refine step_append_elems (f := Wt.cells) (ys := x.ws) _ (by rfl) _ _ _ (by rfl) W2.heap.size 44 i2 (.agg #[.int .i64 0, .int .i64 0]) 2 16 Try.underlying25 HI.out HZI.out HN2.out HBY.out rfl (by decide) Wt.two (wt_cell _) _ 0 [] (by rfl) (by first | exact World.ownsRow_made W2.drew #[] 0 (Nat.le_refl _) (Nat.zero_le _) (Nat.zero_mul _).symm | exact (World.ownsRow_made W2.drew #[] 0 (Nat.le_refl _) (Nat.zero_le _) (Nat.zero_mul _).symm).alloc _ | exact HO3.out) W2.heap.size s c (by rfl) (by first | exact HEA.out _ ((Kept.refl _ _).drew.alloc _) | exact HEA.out _ (((Kept.refl _ _).drew.alloc _).alloc _)) (by show 0 + x.ws.length ≤ maxLen; unfold maxLen; omega) (by show (0 + x.ws.length) * 16 ≤ _; omega) (by first | (simp; done) | (simp; omega)) ?_
             intro v1 w3 g1 g2 _
             have hkA : Kept (fun _ => False) W2 w3 := by first | exact app_kept ((Kept.refl _ W2).drew.alloc _) g2 (by first | (simp; done) | (simp; omega)) | exact app_kept (((Kept.refl _ W2).drew.alloc _).alloc _) g2 (by first | (simp; done) | (simp; omega))
             rw [Nat.zero_add, List.nil_append] at g1
             first | (have hone : w3.heap[W2.heap.size + 1]? = some (.cells #[.int .i64 t, .int .i64 x.holds] 44 (0, 0)) := one_behind (W := W2.drew) g2 (by simp)) | (have hone : w3.heap[W2.heap.size]? = some (.cells #[.int .i64 t, .int .i64 x.holds] 44 (0, 0)) := one_ahead (W := W2.drew) g2 (by simp)) | skip
             have z3 := (HT.out.kept0 hkA).cells.c3
             clear g2)
          | (refine step_append_elems (f := Wt.cells) (ys := [⟨t, x.holds⟩]) _ (by rfl) _ _ _ (by rfl) W2.heap.size 44 i2 (.agg #[.int .i64 0, .int .i64 0]) 2 16 Try.underlying25 HI.out HZI.out HN2.out HBY.out rfl (by decide) Wt.two (wt_cell _) v1 x.ws.length (flat Wt.cells x.ws) (by rfl) (by first | exact g1 | exact g1.alloc _) (w3.heap.size + 1) (some ⟨w3.heap.size, 0, none⟩) 1 (by rfl) (Elems.block (f := Wt.cells) (xs := [⟨t, x.holds⟩]) Wt.two (heap_new1 w3 _) rfl (by show 1 ≤ maxLen; decide)) (by show x.ws.length + 1 ≤ maxLen; unfold maxLen; omega) (by show (x.ws.length + 1) * 16 ≤ _; omega) (by have := hkA.size; first | (simp; done) | (simp; omega) | exact this) ?_
             intro v2 w4 g3 g4 _
             have hkB : Kept (fun _ => False) W2 w4 := by first | exact hkA.grown g4 (fun k hk e => by have := (World.ownsRow.lt g1 k e).1; omega) | exact (hkA.alloc _).grown g4 (fun k hk e => by have := (World.ownsRow.lt g1 k e).1; omega)
             obtain ⟨s', c', rfl, hN4⟩ := HN.out v2 w4 g3
             have HN4 := Lib.hid hN4
             have HB4 := Lib.hid (HT.out.kept0 hkB)
             have d12 := HB4.out.cells.c12
             have d2 := HB4.out.cells.c2
             have d3 := HB4.out.cells.c3
             have e12 := HB4.out.free 12
             have e2 := HB4.out.free 2
             have e3 := HB4.out.free 3
             have S5 : (w4.setCell ⟨w.heap.size, 12, none⟩ (.slice s' ws'.length c')).cell? ⟨w.heap.size, 3, none⟩ = some (.int .i64 x.holds) := (HB4.out.setWs s' c' ws').cells.c3
             clear g3 g4 hN4)
          | (refine step_append_elems (f := Wt.cells) (ys := [⟨t, x.holds⟩]) _ (by rfl) _ _ _ (by rfl) W2.heap.size 44 i2 (.agg #[.int .i64 0, .int .i64 0]) 2 16 Try.underlying25 HI.out HZI.out HN2.out HBY.out rfl (by decide) Wt.two (wt_cell _) v1 x.ws.length (flat Wt.cells x.ws) (by rfl) (by first | exact g1 | exact g1.alloc _) (W2.heap.size + 1 + 1) (some ⟨W2.heap.size + 1, 0, none⟩) 1 (by rfl) (Elems.block (f := Wt.cells) (xs := [⟨t, x.holds⟩]) Wt.two hone rfl (by show 1 ≤ maxLen; decide)) (by show x.ws.length + 1 ≤ maxLen; unfold maxLen; omega) (by show (x.ws.length + 1) * 16 ≤ _; omega) (by have := hkA.size; first | (simp; done) | (simp; omega) | exact this) ?_
             intro v2 w4 g3 g4 _
             have hkB : Kept (fun _ => False) W2 w4 := by first | exact hkA.grown g4 (fun k hk e => by have := (World.ownsRow.lt g1 k e).1; omega) | exact (hkA.alloc _).grown g4 (fun k hk e => by have := (World.ownsRow.lt g1 k e).1; omega)
             obtain ⟨s', c', rfl, hN4⟩ := HN.out v2 w4 g3
             have HN4 := Lib.hid hN4
             have HB4 := Lib.hid (HT.out.kept0 hkB)
             have d12 := HB4.out.cells.c12
             have d2 := HB4.out.cells.c2
             have d3 := HB4.out.cells.c3
             have e12 := HB4.out.free 12
             have e2 := HB4.out.free 2
             have e3 := HB4.out.free 3
             have S5 : (w4.setCell ⟨w.heap.size, 12, none⟩ (.slice s' ws'.length c')).cell? ⟨w.heap.size, 3, none⟩ = some (.int .i64 x.holds) := (HB4.out.setWs s' c' ws').cells.c3
             clear g3 g4 hN4)
          | (refine step_append_elems (f := Wt.cells) (ys := [⟨t, x.holds⟩]) _ (by rfl) _ _ _ (by rfl) W2.heap.size 44 i2 (.agg #[.int .i64 0, .int .i64 0]) 2 16 Try.underlying25 HI.out HZI.out HN2.out HBY.out rfl (by decide) Wt.two (wt_cell _) v1 x.ws.length (flat Wt.cells x.ws) (by rfl) (by first | exact g1 | exact g1.alloc _) (W2.heap.size + 1) (some ⟨W2.heap.size, 0, none⟩) 1 (by rfl) (Elems.block (f := Wt.cells) (xs := [⟨t, x.holds⟩]) Wt.two hone rfl (by show 1 ≤ maxLen; decide)) (by show x.ws.length + 1 ≤ maxLen; unfold maxLen; omega) (by show (x.ws.length + 1) * 16 ≤ _; omega) (by have := hkA.size; first | (simp; done) | (simp; omega) | exact this) ?_
             intro v2 w4 g3 g4 _
             have hkB : Kept (fun _ => False) W2 w4 := by first | exact hkA.grown g4 (fun k hk e => by have := (World.ownsRow.lt g1 k e).1; omega) | exact (hkA.alloc _).grown g4 (fun k hk e => by have := (World.ownsRow.lt g1 k e).1; omega)
             obtain ⟨s', c', rfl, hN4⟩ := HN.out v2 w4 g3
             have HN4 := Lib.hid hN4
             have HB4 := Lib.hid (HT.out.kept0 hkB)
             have d12 := HB4.out.cells.c12
             have d2 := HB4.out.cells.c2
             have d3 := HB4.out.cells.c3
             have e12 := HB4.out.free 12
             have e2 := HB4.out.free 2
             have e3 := HB4.out.free 3
             have S5 : (w4.setCell ⟨w.heap.size, 12, none⟩ (.slice s' ws'.length c')).cell? ⟨w.heap.size, 3, none⟩ = some (.int .i64 x.holds) := (HB4.out.setWs s' c' ws').cells.c3
             clear g3 g4 hN4))
        all_goals
          have hfin : BoxT (w4.setCell ⟨w.heap.size, 12, none⟩ (.slice s' ws'.length c')) w.heap.size { x with ws := ws' } s' c' ∧ BoxT (w4.setCell ⟨w.heap.size, 12, none⟩ (.slice s' ws'.length c')) (w.heap.size + 1) zeroTh none 0 ∧ NewW (w.heap.size + 2) (w4.setCell ⟨w.heap.size, 12, none⟩ (.slice s' ws'.length c')) s' c' ws' ∧ Kept (fun k => k = w.heap.size ∨ k = w.heap.size + 1) w (w4.setCell ⟨w.heap.size, 12, none⟩ (.slice s' ws'.length c')) :=
            ⟨HB4.out.setWs s' c' ws', (HZ.out.kept0 hkB).kept ((Kept.one w.heap.size w4).sB _ _) (by omega), HN4.out.kept ((Kept.one w.heap.size w4).sB _ _) (fun g hg e => by omega), ((HK.out.tr0 hkB).mono (T := fun k => k = w.heap.size ∨ k = w.heap.size + 1) (fun _ _ f => f.elim)).trans ((Kept.one w.heap.size w4).sB _ _) (fun _ _ e => .inl e)⟩
          have HFX := Lib.hid hfin
          clear hfin hkA hkB g1 S5 y0 y1 y2 y3 y4 y5 y6 z3
          go_wp2_with fail
          go_meet
          exact ⟨rfl, s', c', HFX.out⟩
      case rest =>
        obtain ⟨hz9, s', c', hB, hZ, hN, hk⟩ := hcut
        subst hz9
        obtain ⟨w4, hw4⟩ : ∃ z, z = wc := ⟨_, rfl⟩
        subst hw4
        have HB4 := Lib.hid hB
        have HZ4 := Lib.hid hZ
        have HN4 := Lib.hid hN
        have HK4 := Lib.hid hk
        clear hB hZ hN hk y0 y1 y2 y3 y4 y5 y6 f2 f3 c0 c1 c2 c3 c4 c5 c6 c7 c8 c9 c10 c11 c12 c13 c14
        have d2 := HB4.out.cells.c2
        have d3 := HB4.out.cells.c3
        have e2 := HB4.out.free 2
        have e3 := HB4.out.free 3
        have hTn : BoxT ((w4.setCell ⟨w.heap.size, 2, none⟩ (.int .i64 (-1))).setCell ⟨w.heap.size, 3, none⟩ (.int .i64 0)) w.heap.size { x with ws := ws', owner := -1, holds := 0 } s' c' := (HB4.out.setOwner (-1)).setHolds 0
        have hZn : BoxT ((w4.setCell ⟨w.heap.size, 2, none⟩ (.int .i64 (-1))).setCell ⟨w.heap.size, 3, none⟩ (.int .i64 0)) (w.heap.size + 1) zeroTh none 0 := HZ4.out.kept (((Kept.one w.heap.size w4).sB _ _).sB _ _) (by omega)
        go_wp2_with (first | refine wpList_loadT (by rfl) (by rfl) (by rfl) (by assumption) ?_ | (refine wpList_storeT (by rfl) (by rfl) (by rfl) (by rfl) (by assumption) ?_; intro W5 hB5 hk5; obtain ⟨e0, e1, e2, e3, e4, e5, e6, e7, e8, e9, e10, e11, e12, e13, e14⟩ := hB5.cells))
        exact bodyPost_ret (v := .tuple #[Th.agg { x with ws := ws', owner := -1, holds := 0 } s' c', .bool true]) (by simp [results, Try.results22, go_sem, e0, e1, e2, e3, e4, e5, e6, e7, e8, e9, e10, e11, e12, e13, e14]) rfl (fin_off (y := { x with ws := ws', owner := -1, holds := 0 }) HK4.out (.inr HN4.out) (((Kept.one w.heap.size w4).sB _ _).sB _ _) hk5)

end Go.Proofs.Ythjblniabnjfhaa
