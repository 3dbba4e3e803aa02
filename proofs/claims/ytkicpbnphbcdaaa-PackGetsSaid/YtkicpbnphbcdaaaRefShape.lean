/-
  What the document's answer of layer 6 comes to: a script that numbers are.
  Conditions: the numbers lie in blocks that were there, and have 64 bits.
-/
import Derived.Test.YtkicpbnphbcdaaaShapeObs
import Derived.Test.YtkicpbnphbcdaaaShapePrs
namespace Go.Proofs.Ytkicpbnphbcdaaa
open Go.RowKit

section
variable {w wr : World} {B c a n p : Nat} {A : Option Addr} {l : List Int} {y : Sc} {u : Nat → Value} {Q : Exit → Act → World → Prop}

set_option maxHeartbeats 4000000 in
set_option maxRecDepth 100000 in
theorem part_short (hv : Var w wr y) (hp : p < 3) (ha : ¬ a < l.length) (hn : (scP intTok (some l)).2 = none) (hret : Hid (RetTo w A c l Q)) :
    Code.wp Try.prog loopA Q (frT A l.length c w.heap.size (.int .i64 a) (.int .i64 p) u) wr := by
  have h3' : (l.length : Int) ≤ (a : Int) := by omega
  obtain ⟨⟨f0, f1, f2⟩, ⟨r0, r1, r2⟩, ⟨t0, t1, t2⟩, hfin⟩ := hv.bad hn
  have HF := Lib.hid hfin
  clear hfin hn ha
  unfold frT frS
  conv => arg 2; whnf
  go_wp2_with fail
  exact hret.out _ _ (frR_of (by kernel_rfl)) HF.out

set_option maxHeartbeats 4000000 in
set_option maxRecDepth 100000 in
theorem part_count (h : ShapeIn w B A l) (hv : Var w wr y) (hp : p < 3) (ha : a < l.length) {k : Int} (h0 : l[a]? = some k) (hb : k < 0 ∨ 65536 < k) (hn : (scP intTok (some l)).2 = none) (hret : Hid (RetTo w A c l Q)) :
    Code.wp Try.prog loopA Q (frT A l.length c w.heap.size (.int .i64 a) (.int .i64 p) u) wr := by
  have h3' : ¬ (l.length : Int) ≤ (a : Int) := by omega
  obtain ⟨g, off, rfl, hg, c1⟩ := int_at (h.at hv.kept) h0
  obtain ⟨⟨f0, f1, f2⟩, ⟨r0, r1, r2⟩, ⟨t0, t1, t2⟩, hfin⟩ := hv.bad hn
  have HF := Lib.hid hfin
  clear hfin hn h0
  rcases hb with hb | hb
  · unfold frT frS
    conv => arg 2; whnf
    go_wp2_with fail
    exact hret.out _ _ (frR_of (by kernel_rfl)) HF.out
  · have hb2 : ¬ k < 0 := by omega
    unfold frT frS
    conv => arg 2; whnf
    go_wp2_with fail
    exact hret.out _ _ (frR_of (by kernel_rfl)) HF.out

set_option maxHeartbeats 4000000 in
set_option maxRecDepth 100000 in
theorem part_end (hend : Hid (∀ a', (∃ u', a' = frT A l.length c w.heap.size (.int .i64 a) (.int .i64 ((3 : Nat) : Int)) u') → Q (.exit 0) a' wr)) :
    Code.wp Try.prog loopA Q (frT A l.length c w.heap.size (.int .i64 a) (.int .i64 ((3 : Nat) : Int)) u) wr := by
  unfold frT frS
  conv => arg 2; whnf
  go_wp2_with fail
  exact hend.out _ (frT_of (by kernel_rfl))

set_option maxHeartbeats 4000000 in
set_option maxRecDepth 100000 in
theorem part_good (h : ShapeIn w B A l) (hk : Kept (fun _ => False) w wr) (hp : p < 3) (ha : a < l.length) (h0 : l[a]? = some (n : Int)) (hn : n ≤ 65536) (Done : Nat → World → Prop)
    (HR : Hid (∀ (Q' : Exit → Act → World → Prop) (act : Act), (∃ v9 v10 v11 v46 u', act = frS A l.length c w.heap.size (.int .i64 ((a + 1 : Nat) : Int)) (.int .i64 p) (.int .i64 n) (.int .i64 ((0 : Nat) : Int)) v9 v10 v11 v46 u') → RetTo w A c l Q' →
      (∀ a' w' at', (∃ v9 v10 v11 v46 u', a' = frS A l.length c w.heap.size (.int .i64 ((at' : Nat) : Int)) (.int .i64 p) (.int .i64 n) (.int .i64 n) v9 v10 v11 v46 u') → Done at' w' → Q' (.exit 2) a' w') → Code.wp Try.prog (Code.loop loopB) Q' act wr))
    (hret : Hid (RetTo w A c l Q))
    (hnext : Hid (∀ a' w' at', (∃ u', a' = frT A l.length c w.heap.size (.int .i64 ((at' : Nat) : Int)) (.int .i64 ((p : Int) + 1)) u') → Done at' w' → Q .normal a' w')) :
    Code.wp Try.prog loopA Q (frT A l.length c w.heap.size (.int .i64 a) (.int .i64 p) u) wr := by
  have hla := h.few
  have h3' : ¬ (l.length : Int) ≤ (a : Int) := by omega
  obtain ⟨g, off, rfl, hg, c1⟩ := int_at (h.at hk) h0
  have hb1 : ¬ (n : Int) < 0 := by omega
  have hb2 : ¬ (65536 : Int) < (n : Int) := by omega
  clear h0 hk h
  unfold frT frS
  conv => arg 2; whnf
  go_wp2_with fail
  refine HR.out _ _ (by obtain ⟨u1, hu1⟩ := frS_of (A := some ⟨g, off, none⟩) (n := l.length) (c := c) (b := w.heap.size) (v5 := .int .i64 ((a + 1 : Nat) : Int)) (v6 := .int .i64 p) (v7 := .int .i64 n) (v8 := .int .i64 ((0 : Nat) : Int)) (v9 := u 9) (v10 := u 10) (v11 := u 11) (v46 := u 46) (by kernel_rfl); exact ⟨_, _, _, _, u1, hu1⟩) (fun a' w' he hr => hret.out a' w' he hr) ?_
  rintro a' w' at' ⟨v9', v10', v11', v46', u', rfl⟩ hdone
  have HD := Lib.hid hdone
  clear hdone HR c1
  unfold frS
  go_wp2_with fail
  exact hnext.out _ _ at' (frT_of (by kernel_rfl)) HD.out
end

/-- How it stands at the parts' head. -/
def PartAt (w : World) (l : List Int) (p at' : Nat) (w' : World) : Prop :=
  (p = 0 ∧ at' = 0 ∧ Var w w' zeroSc) ∨
  (p = 1 ∧ ∃ y : Sc, Var w w' y ∧ y.half = y ∧ y.prs = [] ∧ Owned (w.heap.size + 1 + 1) (fun g => g = w.heap.size + 1) w' y ∧ scP intTok (some l) = fromPrs y.obs (some (l.drop at'))) ∨
  (p = 2 ∧ ∃ y : Sc, Var w w' y ∧ y.half = y ∧ Owned (w.heap.size + 1 + 1) (fun g => g = w.heap.size + 1) w' y ∧ scP intTok (some l) = fromPis y.obs (y.prs.map Pr.ops) (some (l.drop at'))) ∨
  (p = 3 ∧ ∃ y : Sc, Var w w' y ∧ (∀ w2, Kept (fun g => g < w.heap.size + 1 + 1) w' w2 → Lies w2 w2.heap.size y) ∧ scP intTok (some l) = (partsOf y, some (l.drop at')))

theorem list_of_cnt {α : Type} {get : Option (List Int) → α × Option (List Int)} {l : List Int} {a n : Nat} (h0 : l[a]? = some (n : Int)) (hn : n ≤ 65536) : listP intTok get (some (l.drop a)) = loopP get n [] (some (l.drop (a + 1))) := by
  unfold listP; rw [cnt_yes h0 (by omega) (by omega)]; rfl
theorem list_cnt_no {α : Type} {get : Option (List Int) → α × Option (List Int)} {l : List Int} {a : Nat} (h : ¬ a < l.length ∨ ∃ n, l[a]? = some n ∧ (n < 0 ∨ 65536 < n)) : listP intTok get (some (l.drop a)) = ([], none) := by
  unfold listP; rw [cnt_no h]; rfl

theorem shape_loop {w W0 : World} {B c : Nat} {A : Option Addr} {l : List Int} {act : Act} {Q : Exit → Act → World → Prop} (h : ShapeIn w B A l) (hv : Var w W0 zeroSc)
    (hact : ∃ u, act = frT A l.length c w.heap.size (.int .i64 ((0 : Nat) : Int)) (.int .i64 ((0 : Nat) : Int)) u) (hret : RetTo w A c l Q)
    (hend : ∀ a' w' at', (∃ u', a' = frT A l.length c w.heap.size (.int .i64 ((at' : Nat) : Int)) (.int .i64 ((3 : Nat) : Int)) u') → at' ≤ l.length → PartAt w l 3 at' w' → Q (.exit 0) a' w') :
    Code.wp Try.prog (Code.loop loopA) Q act W0 := by
  obtain ⟨u, rfl⟩ := hact
  refine wp_loop (fun a' w' => ∃ (p at' : Nat) (u : Nat → Value), a' = frT A l.length c w.heap.size (.int .i64 at') (.int .i64 p) u ∧ p ≤ 3 ∧ at' ≤ l.length ∧ PartAt w l p at' w') (fun a' _ => 3 - (intOf (a'.tmps.getD 6 undef)).toNat) ?_ ?_
  · exact ⟨0, 0, u, rfl, by omega, by omega, .inl ⟨rfl, rfl, hv⟩⟩
  rintro _ w1 ⟨p, a, u, rfl, hp, ha, hst⟩
  clear hv
  by_cases hp3 : p < 3
  case neg =>
    obtain rfl : p = 3 := by omega
    exact part_end (Lib.hid (fun a' he => hend a' w1 a he ha hst))
  obtain ⟨y, hvy⟩ : ∃ y, Var w w1 y := by
    rcases hst with ⟨_, _, hv⟩ | ⟨_, y, hv, _⟩ | ⟨_, y, hv, _⟩ | ⟨_, y, hv, _⟩ <;> exact ⟨_, hv⟩
  have hno : (¬ a < l.length ∨ ∃ n, l[a]? = some n ∧ (n < 0 ∨ 65536 < n)) → (scP intTok (some l)).2 = none := by
    intro hc
    rcases hst with ⟨_, rfl, _⟩ | ⟨_, y, _, _, _, _, e⟩ | ⟨_, y, _, _, _, e⟩ | ⟨e, _⟩
    · have e0 : scP intTok (some l) = fromPrs (listP intTok (obP intTok) (some (l.drop 0))).1 (listP intTok (obP intTok) (some (l.drop 0))).2 := by rw [List.drop_zero]; exact scP_obs _
      rw [e0, list_cnt_no hc]; exact fromPrs_none _
    · rw [e, fromPrs_eq, list_cnt_no hc]; exact fromPis_none _ _
    · rw [e]; unfold fromPis; rw [list_cnt_no hc]
    · omega
  by_cases hl : a < l.length
  case neg => exact part_short hvy hp3 hl (hno (.inl hl)) (Lib.hid hret)
  obtain ⟨n, h0⟩ : ∃ n, l[a]? = some n := ⟨_, List.getElem?_eq_getElem (by omega)⟩
  by_cases hb : n < 0 ∨ 65536 < n
  case pos => exact part_count h hvy hp3 hl h0 hb (hno (.inr ⟨n, h0, hb⟩)) (Lib.hid hret)
  obtain ⟨k, rfl⟩ : ∃ k : Nat, n = (k : Int) := ⟨n.toNat, by omega⟩
  have hk : k ≤ 65536 := by omega
  clear hno
  have hmu : ∀ (p : Nat) (at' : Nat) (u u' : Nat → Value), p < 3 → 3 - (intOf ((frT A l.length c w.heap.size (.int .i64 ((at' : Nat) : Int)) (.int .i64 ((p : Int) + 1)) u').tmps.getD 6 undef)).toNat < 3 - (intOf ((frT A l.length c w.heap.size (.int .i64 ((a : Nat) : Int)) (.int .i64 (p : Int)) u).tmps.getD 6 undef)).toNat := by
    intro p at' u u' hp
    show 3 - (intOf (.int .i64 ((p : Int) + 1))).toNat < 3 - (intOf (.int .i64 (p : Int))).toNat
    simp [intOf]; omega
  rcases hst with ⟨rfl, rfl, hv⟩ | ⟨rfl, y, hv, hy1, hy2, how, e⟩ | ⟨rfl, y, hv, hy1, how, e⟩ | ⟨rfl, _⟩
  · have e0 : scP intTok (some l) = fromPrs (loopP (obP intTok) k [] (some (l.drop (0 + 1)))).1 (loopP (obP intTok) k [] (some (l.drop (0 + 1)))).2 := by
      rw [← list_of_cnt h0 hk, List.drop_zero]; exact scP_obs _
    refine part_good h hvy.kept hp3 hl h0 hk (ObsDone w l k (0 + 1)) (Lib.hid (fun Q' act he hr hq => ?_)) (Lib.hid hret) (Lib.hid ?_)
    · obtain ⟨v9, v10, v11, v46, u', rfl⟩ := he
      exact obs_loop h hk (by omega) hv rfl (fun e1 => by rw [e0, e1]; exact fromPrs_none _) (Lib.hid hr) (Lib.hid (fun a' w' at' he hd => hq a' w' at' (by obtain ⟨v46, u', rfl⟩ := he; exact ⟨_, _, _, _, _, rfl⟩) hd))
    · rintro a' w' at' ⟨u', rfl⟩ ⟨hat, y', hyl, ⟨q1, q2, q3, q4, q5, q6⟩, hv', hown, hloop⟩
      refine ⟨⟨1, at', u', rfl, by omega, hat, .inr (.inl ⟨rfl, y', hv', ?_, q3, ?_, ?_⟩)⟩, hmu _ _ _ _ hp3⟩
      · obtain ⟨os, oc, obs, ps, pc, prs, ks, kc, pis⟩ := y'
        simp only at q4 q5 q6
        subst q4 q5 q6
        rfl
      · obtain ⟨s, c', e2, hM⟩ := Made.of_own Ob.three hown rfl (by unfold maxLen; omega)
        simp only [Value.slice.injEq] at e2
        obtain ⟨os, oc, obs, ps, pc, prs, ks, kc, pis⟩ := y'
        simp only at q1 q2 q3 q4 q5 q6 e2 hM
        obtain ⟨rfl, _, rfl⟩ := e2
        subst q1 q2 q3 q4 q5 q6
        exact Owned.start hM (fun hne g e => by obtain ⟨g', e', hg, _⟩ := hM.new hne; rw [e] at e'; simp only [Option.some.injEq, Addr.mk.injEq, and_true] at e'; omega) (Made.nil _ _ _ _ _ _) (fun hne => absurd rfl hne)
      · rw [e0, hloop]
  · have e0 : scP intTok (some l) = fromPis y.obs (loopP (prP intTok) k [] (some (l.drop (a + 1)))).1 (loopP (prP intTok) k [] (some (l.drop (a + 1)))).2 := by
      rw [e, fromPrs_eq, list_of_cnt h0 hk]
    refine part_good h hvy.kept hp3 hl h0 hk (PrsDone w l k (a + 1) y) (Lib.hid (fun Q' act he hr hq => ?_)) (Lib.hid hret) (Lib.hid ?_)
    · obtain ⟨v9, v10, v11, v46, u', rfl⟩ := he
      exact prs_loop h hk (by omega) hv hy1 hy2 how (fun e1 => by rw [e0, e1]; exact fromPis_none _ _) (Lib.hid hr) (Lib.hid hq)
    · rintro a' w' at' ⟨u', rfl⟩ ⟨hat, y', hy', hyo, hv', how', hloop⟩
      exact ⟨⟨2, at', u', rfl, by omega, hat, .inr (.inr (.inl ⟨rfl, y', hv', hy', how', by rw [e0, hloop, hyo]⟩))⟩, hmu _ _ _ _ hp3⟩
  · have e0 : scP intTok (some l) = (⟨y.obs, y.prs.map Pr.ops, (loopP (piP intTok) k [] (some (l.drop (a + 1)))).1⟩, (loopP (piP intTok) k [] (some (l.drop (a + 1)))).2) := by
      rw [e]; unfold fromPis; rw [list_of_cnt h0 hk]
    refine part_good h hvy.kept hp3 hl h0 hk (PisDone w l k (a + 1) y) (Lib.hid (fun Q' act he hr hq => ?_)) (Lib.hid hret) (Lib.hid ?_)
    · obtain ⟨v9, v10, v11, v46, u', rfl⟩ := he
      exact pis_loop h hk (by omega) hv hy1 how (fun e1 => by rw [e0, e1]) (Lib.hid hr) (Lib.hid (fun a' w' at' he hd => hq a' w' at' (by obtain ⟨v46, u', rfl⟩ := he; exact ⟨_, _, _, _, _, rfl⟩) hd))
    · rintro a' w' at' ⟨u', rfl⟩ ⟨hat, y', hy', hv', hlies, hloop⟩
      refine ⟨⟨3, at', u', rfl, by omega, hat, .inr (.inr (.inr ⟨rfl, y', hv', hlies, ?_⟩))⟩, hmu _ _ _ _ hp3⟩
      rw [e0, hloop, ← hy']
      rfl
  · omega

set_option maxHeartbeats 8000000 in
set_option maxRecDepth 100000 in
theorem refShape_any {w : World} {B c : Nat} {A : Option Addr} {l : List Int} (h : Elems w B A 1 iC l) (hB : B ≤ w.heap.size) (hin : ∀ n ∈ l, InR n) (hlen : l.length ≤ 4000) :
    Calls Try.prog 37 #[.slice A l.length c] w (ShapeTo w l) := by
  have hS : ShapeIn w B A l := ⟨h, hB, hin, hlen⟩
  obtain ⟨W0, hW0⟩ : ∃ W0, (w.alloc (.cells #[.slice none 0 0, .slice none 0 0, .slice none 0 0] 26)).alloc (.cells #[.slice none 0 0, .slice none 0 0, .slice none 0 0] 26) = W0 := ⟨_, rfl⟩
  have hv0 : Var w W0 zeroSc := by
    refine ⟨?_, ?_, ?_⟩
    · rw [← hW0]
      have := heap_alloc_new (w.alloc (.cells #[.slice none 0 0, .slice none 0 0, .slice none 0 0] 26)) (.cells #[.slice none 0 0, .slice none 0 0, .slice none 0 0] 26)
      rwa [World.size_alloc] at this
    · rw [← hW0]
      exact ((Kept.refl (fun _ => False) (w.alloc (.cells #[.slice none 0 0, .slice none 0 0, .slice none 0 0] 26))).alloc _).block _ (by simp) (fun f => f) |>.trans (heap_alloc_new w _)
    · rw [← hW0]; exact ((Kept.refl _ w).alloc _).alloc _
  have HS := Lib.hid hS
  have HV0 := Lib.hid hv0
  have HW0 := Lib.hid hW0
  clear h hB hin hlen hS hv0 hW0
  go_enter Try.func37, Try.ntmps37
  go_wp2_with fail
  rw [HW0.out]
  refine shape_loop (c := c) HS.out HV0.out (frT_of (by kernel_rfl)) ?_ ?_
  · rintro a' w' ⟨u', rfl⟩ ⟨hn, hk, y, hy⟩
    obtain ⟨t0, t1, t2⟩ := res_cells hy
    unfold frR
    exact bodyPost_ret (v := .tuple #[.agg #[.slice y.os y.obs.length y.oc, .slice y.ps y.prs.length y.pc, .slice y.ks y.pis.length y.kc], .bool false]) (by simp [results, Try.results37, go_sem, t0, t1, t2]) rfl ⟨y, false, rfl, hk, (fun h => by cases h), fun _ => by rw [hn]; simp⟩
  · rintro a' w' at' ⟨u', rfl⟩ hat hp
    obtain ⟨y, hv, hli, hsc⟩ : ∃ y : Sc, Var w w' y ∧ (∀ w2, Kept (fun g => g < w.heap.size + 1 + 1) w' w2 → Lies w2 w2.heap.size y) ∧ scP intTok (some l) = (partsOf y, some (l.drop at')) := by
      rcases hp with ⟨e, _⟩ | ⟨e, _⟩ | ⟨e, _⟩ | ⟨_, h⟩
      · omega
      · omega
      · omega
      · exact h
    have hs := res_set hv.res hv.kept (.slice y.os y.obs.length y.oc) (.slice y.ps y.prs.length y.pc) (.slice y.ks y.pis.length y.kc)
    obtain ⟨t0, t1, t2⟩ := res_cells hs.1
    obtain ⟨p0, p1, p2⟩ := res_cells hv.var
    obtain ⟨r0, r1, r2⟩ := res_cells hv.res
    have f0 := frozen_at w' _ 0 _ _ hv.res
    have f1 := frozen_at w' _ 1 _ _ hv.res
    have f2 := frozen_at w' _ 2 _ _ hv.res
    have hfin : ShapeTo w l (.returned (.tuple #[.agg #[.slice y.os y.obs.length y.oc, .slice y.ps y.prs.length y.pc, .slice y.ks y.pis.length y.kc], .bool ((at' : Int) == (l.length : Int))])) (((w'.setCell ⟨w.heap.size, 0, none⟩ (.slice y.os y.obs.length y.oc)).setCell ⟨w.heap.size, 1, none⟩ (.slice y.ps y.prs.length y.pc)).setCell ⟨w.heap.size, 2, none⟩ (.slice y.ks y.pis.length y.kc)) := by
      refine ⟨y, _, rfl, hs.2, fun h => ?_, fun h => ?_⟩
      · have e : at' = l.length := by rw [beq_iff_eq] at h; omega
        refine ⟨by rw [hsc, e, List.drop_length], fun w2 hk2 => hli _ ((?_ : Kept (fun g => g < w.heap.size + 1 + 1) w' _).trans hk2 (fun g _ hg => by omega))⟩
        exact (((Kept.refl _ w').setCell ⟨w.heap.size, 0, none⟩ _ (fun _ => by show w.heap.size < _; omega)).setCell ⟨w.heap.size, 1, none⟩ _ (fun _ => by show w.heap.size < _; omega)).setCell ⟨w.heap.size, 2, none⟩ _ (fun _ => by show w.heap.size < _; omega)
      · have e : ¬ at' = l.length := fun e => by rw [e] at h; simp at h
        rw [hsc]
        intro h2
        simp only [Option.some.injEq] at h2
        have := congrArg List.length h2
        rw [List.length_drop] at this
        simp at this
        omega
    have HF := Lib.hid hfin
    clear hfin hs hsc hli hv hp
    unfold frT frS
    go_wp2_with fail
    exact bodyPost_ret (v := .tuple #[.agg #[.slice y.os y.obs.length y.oc, .slice y.ps y.prs.length y.pc, .slice y.ks y.pis.length y.kc], .bool ((at' : Int) == (l.length : Int))]) (by simp [results, Try.results37, go_sem, t0, t1, t2]) rfl HF.out

end Go.Proofs.Ytkicpbnphbcdaaa
