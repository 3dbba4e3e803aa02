/-
  The document's shape: the threads' programs.
  Conditions: the numbers lie in blocks that were there, and have 64 bits.
-/
import Derived.Test.YtkicpbnphbcdaaaShapeOps
import Derived.Test.YtkicpbnphbcdaaaShapePis
namespace Go.Proofs.Ytkicpbnphbcdaaa
open Go.RowKit

/-- What a round of the programs leaves: one more of them. -/
def PrDone (w : World) (y : Sc) (cs : List Cl) (w' : World) : Prop :=
  ∃ y' : Sc, y'.half = y' ∧ y'.obs = y.obs ∧ y'.prs.map Pr.ops = y.prs.map Pr.ops ++ [cs] ∧ Var w w' y' ∧ Owned (w.heap.size + 1 + 1) (fun g => g = w.heap.size + 1) w' y'

section
variable {w wr : World} {B c a m i : Nat} {A : Option Addr} {l : List Int} {y : Sc} {v9 v10 v11 v46 : Value} {u : Nat → Value} {Q : Exit → Act → World → Prop}

set_option maxHeartbeats 4000000 in
set_option maxRecDepth 100000 in
theorem pr_short (hv : Var w wr y) (hi : i < m) (ha : ¬ a < l.length) (hn : (scP intTok (some l)).2 = none) (hret : Hid (RetTo w A c l Q)) :
    Code.wp Try.prog loopB Q (frS A l.length c w.heap.size (.int .i64 a) (.int .i64 1) (.int .i64 m) (.int .i64 i) v9 v10 v11 v46 u) wr := by
  have h3' : (l.length : Int) ≤ (a : Int) := by omega
  obtain ⟨⟨f0, f1, f2⟩, ⟨r0, r1, r2⟩, ⟨t0, t1, t2⟩, hfin⟩ := hv.bad hn
  have HF := Lib.hid hfin
  clear hfin hn ha
  unfold frS
  conv => arg 2; whnf
  go_wp2_with fail
  exact hret.out _ _ (frR_of (by kernel_rfl)) HF.out

set_option maxHeartbeats 4000000 in
set_option maxRecDepth 100000 in
theorem pr_count (h : ShapeIn w B A l) (hv : Var w wr y) (hi : i < m) (ha : a < l.length) {n : Int} (h0 : l[a]? = some n) (hb : n < 0 ∨ 65536 < n) (hn : (scP intTok (some l)).2 = none) (hret : Hid (RetTo w A c l Q)) :
    Code.wp Try.prog loopB Q (frS A l.length c w.heap.size (.int .i64 a) (.int .i64 1) (.int .i64 m) (.int .i64 i) v9 v10 v11 v46 u) wr := by
  have h3' : ¬ (l.length : Int) ≤ (a : Int) := by omega
  obtain ⟨g, off, rfl, hg, c1⟩ := int_at (h.at hv.kept) h0
  obtain ⟨⟨f0, f1, f2⟩, ⟨r0, r1, r2⟩, ⟨t0, t1, t2⟩, hfin⟩ := hv.bad hn
  have HF := Lib.hid hfin
  clear hfin hn h0
  rcases hb with hb | hb
  · unfold frS
    conv => arg 2; whnf
    go_wp2_with fail
    exact hret.out _ _ (frR_of (by kernel_rfl)) HF.out
  · have hb2 : ¬ n < 0 := by omega
    unfold frS
    conv => arg 2; whnf
    go_wp2_with fail
    exact hret.out _ _ (frR_of (by kernel_rfl)) HF.out

set_option maxHeartbeats 4000000 in
set_option maxRecDepth 100000 in
theorem pr_end (him : ¬ i < m) (hend : Hid (∀ a', (∃ u', a' = frS A l.length c w.heap.size (.int .i64 a) (.int .i64 1) (.int .i64 m) (.int .i64 i) v9 v10 v11 v46 u') → Q (.exit 2) a' wr)) :
    Code.wp Try.prog loopB Q (frS A l.length c w.heap.size (.int .i64 a) (.int .i64 1) (.int .i64 m) (.int .i64 i) v9 v10 v11 v46 u) wr := by
  unfold frS
  conv => arg 2; whnf
  go_wp2_with fail
  exact hend.out _ (frS_of (by kernel_rfl))

set_option maxHeartbeats 8000000 in
set_option maxRecDepth 100000 in
theorem pr_good (h : ShapeIn w B A l) (hv : Var w wr y) (hy : y.half = y) (how : Owned (w.heap.size + 1 + 1) (fun g => g = w.heap.size + 1) wr y) (hi : i < m) (hm : m ≤ 65536) (hyl : y.prs.length ≤ 65536) (ha : a < l.length)
    {n : Nat} (h0 : l[a]? = some (n : Int)) (hn : n ≤ 65536)
    (hnone : loopP (clP intTok) n [] (some (l.drop (a + 1))) = ([], none) → (scP intTok (some l)).2 = none) (hret : Hid (RetTo w A c l Q))
    (hnext : Hid (∀ a' w' at' cs, (∃ v9 v10 v11 u', a' = frS A l.length c w.heap.size (.int .i64 ((at' : Nat) : Int)) (.int .i64 1) (.int .i64 m) (.int .i64 ((i : Int) + 1)) v9 v10 v11 (.int .i64 1) u') → at' ≤ l.length → loopP (clP intTok) n [] (some (l.drop (a + 1))) = (cs, some (l.drop at')) → PrDone w y cs w' → Q .normal a' w')) :
    Code.wp Try.prog loopB Q (frS A l.length c w.heap.size (.int .i64 a) (.int .i64 1) (.int .i64 m) (.int .i64 i) v9 v10 v11 v46 u) wr := by
  have hla := h.few
  have HR := Lib.hid (fun (Q' : Exit → Act → World → Prop) (act : Act) (he : ∃ u', act = frS A l.length c w.heap.size (.int .i64 ((a + 1 : Nat) : Int)) (.int .i64 1) (.int .i64 m) (.int .i64 i) (.int .i64 n) (.slice none 0 0) (.int .i64 ((0 : Nat) : Int)) (.int .i64 1) u')
    (hr : RetTo w A c l Q') (hq : ∀ a' w' at' v', (∃ v11 u', a' = frS A l.length c w.heap.size (.int .i64 ((at' : Nat) : Int)) (.int .i64 1) (.int .i64 m) (.int .i64 i) (.int .i64 n) v' v11 (.int .i64 1) u') → OpsDone wr l n (a + 1) at' v' w' → Q' (.exit 5) a' w') => (by
      obtain ⟨u', rfl⟩ := he
      exact ops_loop h hn (by omega) hv hnone (Lib.hid hr) (Lib.hid hq) : Code.wp Try.prog (Code.loop loopC) Q' act wr))
  obtain ⟨g, off, rfl, hg, c1⟩ := int_at (h.at hv.kept) h0
  have h3' : ¬ (l.length : Int) ≤ (a : Int) := by omega
  have hb1 : ¬ (n : Int) < 0 := by omega
  have hb2 : ¬ (65536 : Int) < (n : Int) := by omega
  have HV := Lib.hid hv
  have HOW := Lib.hid how
  have HYL := Lib.hid hyl
  have HY := Lib.hid hy
  have HZ : Hid (w.heap.size + 1 < wr.heap.size) := Lib.hid (Array.getElem?_eq_some_iff.1 hv.var).1
  obtain ⟨i4, hi4, hz4, hn4, hb4⟩ := info_parts Try.infoPr
  have HI4 := Lib.hid hi4; clear hi4
  have HZ4 := Lib.hid hz4; clear hz4
  have HN4 := Lib.hid hn4; clear hn4
  have HB4 := Lib.hid hb4; clear hb4
  clear h0 hv how hyl hy h hnone
  unfold frS
  conv => arg 2; whnf
  go_wp2_with fail
  refine HR.out _ _ (frS_of (by kernel_rfl)) (fun a' w' he hr => hret.out a' w' he hr) ?_
  rintro a' w1 at' v' ⟨v11', u', rfl⟩ ⟨hat, cs, hcs, hown, hk, hloop⟩
  obtain ⟨A1, c2, rfl, hM⟩ := Made.of_own Cl.five hown rfl (by unfold maxLen; omega)
  have hv1 := HV.out.on hk
  obtain ⟨p0, p1, p2⟩ := res_cells hv1.var
  have hlt1 : w.heap.size + 1 < w1.heap.size := (Array.getElem?_eq_some_iff.1 hv1.var).1
  have HOWN := Lib.hid (own_kept HOW.out.own hk (fun _ _ f => f))
  have HM := Lib.hid hM
  have HK := Lib.hid hk
  have HV1 := Lib.hid hv1
  have HLOOP := Lib.hid hloop
  clear hown hM hk hv1 hloop HR c1 hb1 hb2 h3' ha hn
  unfold frS
  go_wp2_with (at_builtin; refine wpList_append_elems (ys := [⟨A1, c2, cs⟩]) _ rfl (.tmp 180) (.tmp 182) 23 rfl (w.heap.size + 1 + 1) 49 i4 (.slice none 0 0) 1 24 Try.underlying23 HI4.out HZ4.out HN4.out HB4.out rfl (by decide) Pr.one (one_prs _) (.slice y.ps y.prs.length y.pc) y.prs.length (flat Pr.cells y.prs) rfl ?c1 (w1.heap.size + 1) _ 1 rfl ?c2 ?c3 ?c4 ?c5 ?_)
  case c1 => exact HOWN.out.alloc _
  case c2 => exact Elems.block Pr.one (heap_alloc_new w1 _) rfl (by show 1 ≤ maxLen; decide)
  case c3 => have := HYL.out; show y.prs.length + 1 ≤ maxLen; unfold maxLen; omega
  case c4 => have := HYL.out; show (y.prs.length + 1) * 24 ≤ _; omega
  case c5 => simp; omega
  intro v' w2 h1 h2 h3
  obtain ⟨g3, c4, rfl, hg31, hg32⟩ := World.ownsRow.form h1 (by show 0 < y.prs.length + 1; omega)
  have hkw : Kept (fun q => y.row = some q) wr w2 := ((HK.out.mono (fun _ _ f => f.elim)).alloc _).grown h2 (fun q _ e => e)
  have hrw : ∀ q, y.row = some q → q < wr.heap.size := fun q hq => (World.ownsRow.lt HOW.out.own q hq).2
  have hk12 : Kept (fun q => y.row = some q) w1 w2 := ((Kept.refl _ w1).alloc _).grown h2 (fun q _ e => e)
  have hM2 := HM.out.kept hk12 (fun _ q hq _ _ e => by have := hrw q e; omega)
  have hvb := HV.out.var
  have hb2 : w2.heap[w.heap.size + 1]? = some (.cells #[.slice y.os y.obs.length y.oc, .slice y.ps y.prs.length y.pc, .slice y.ks y.pis.length y.kc] 26 (0, 0)) :=
    (hkw.block _ HZ.out (fun e => HOW.out.off _ e rfl)).trans hvb
  rw [← flat_append] at h1
  have hnx := HOW.out.next (v := .slice (some ⟨g3, 0, none⟩) (y.prs.length + 1) c4) HZ.out (by have := HZ.out; omega) hkw h1 hM2
    (fun hne g e hq => by
      obtain ⟨g', e', hw, hlt⟩ := HM.out.new hne
      rw [e] at e'
      simp only [Option.some.injEq, Addr.mk.injEq, and_true] at e'
      subst e'
      rcases h3 with h3 | h3
      · have := hrw g (h3.symm.trans hq); omega
      · have := h3.symm.trans hq
        simp at this
        omega)
    (h3.imp id (fun e => ⟨_, e, by have := HK.out.size; simp; omega⟩)) (by have := HYL.out; unfold maxLen; omega)
  have hkS : Kept (fun q => q = w.heap.size + 1 ∨ y.row = some q) wr (w2.setCell ⟨w.heap.size + 1, 1, none⟩ (.slice (some ⟨g3, 0, none⟩) (y.prs.length + 1) c4)) := (hkw.mono (fun _ _ e => .inr e)).setCell _ _ (fun _ => .inl rfl)
  have hrb : ∀ q, y.row = some q → w.heap.size + 1 + 1 ≤ q := fun q hq => (World.ownsRow.lt HOW.out.own q hq).1
  have hdone : PrDone w y cs (w2.setCell ⟨w.heap.size + 1, 1, none⟩ (.slice (some ⟨g3, 0, none⟩) (y.prs.length + 1) c4)) := by
    refine ⟨⟨y.os, y.oc, y.obs, some ⟨g3, 0, none⟩, c4, y.prs ++ [⟨A1, c2, cs⟩], y.ks, y.kc, y.pis⟩, ?_, rfl, by simp, ⟨?_, ?_, ?_⟩, hnx⟩
    · have e1 : y.ks = none := by rw [← HY.out]; rfl
      have e2 : y.kc = 0 := by rw [← HY.out]; rfl
      have e3 : y.pis = [] := by rw [← HY.out]; rfl
      unfold Sc.half; rw [e1, e2, e3]
    · have := set_block (o := 1) (v := .slice (some ⟨g3, 0, none⟩) (y.prs.length + 1) c4) hb2
      show _ = some (Obj.cells #[.slice y.os y.obs.length y.oc, .slice (some ⟨g3, 0, none⟩) (y.prs ++ [(⟨A1, c2, cs⟩ : Pr)]).length c4, .slice y.ks y.pis.length y.kc] _ _)
      rw [this]
      simp
    · refine (hkS.block _ (by have := HZ.out; omega) (fun e => ?_)).trans HV.out.res
      rcases e with e | e
      · omega
      · have := hrb _ e; omega
    · refine HV.out.kept.trans hkS (fun q hq e => ?_)
      rcases e with e | e
      · omega
      · have := hrb _ e; omega
  have HD := Lib.hid hdone
  have d1 : w2.cell? ⟨w.heap.size + 1, 1, none⟩ = some (.slice y.ps y.prs.length y.pc) := by rw [cell_at w2 _ 1 _ _ hb2]; rfl
  have d2 := frozen_at w2 _ 1 _ _ hb2
  clear hdone hnx hkS hrb h1 h2 h3 hkw hrw hk12 hM2 hvb hb2 p0 p1 p2
  go_wp2_with fail
  exact hnext.out _ _ at' cs (by obtain ⟨u1, hu1⟩ := frS_of (A := some ⟨g, off, none⟩) (n := l.length) (c := c) (b := w.heap.size) (v5 := .int .i64 at') (v6 := .int .i64 1) (v7 := .int .i64 m) (v8 := .int .i64 ((i : Int) + 1)) (v9 := .int .i64 n) (v10 := .slice A1 cs.length c2) (v11 := v11') (v46 := .int .i64 1) (by kernel_rfl); exact ⟨_, _, _, u1, hu1⟩) hat HLOOP.out HD.out
end

/-- What the programs' loop leaves. -/
def PrsDone (w : World) (l : List Int) (m a0 : Nat) (y0 : Sc) (at' : Nat) (w' : World) : Prop :=
  at' ≤ l.length ∧ ∃ y : Sc, y.half = y ∧ y.obs = y0.obs ∧ Var w w' y ∧ Owned (w.heap.size + 1 + 1) (fun g => g = w.heap.size + 1) w' y ∧ loopP (prP intTok) m [] (some (l.drop a0)) = (y.prs.map Pr.ops, some (l.drop at'))

theorem prs_loop {w wr : World} {B c a0 m : Nat} {A : Option Addr} {l : List Int} {v9 v10 v11 v46 : Value} {u : Nat → Value} {Q : Exit → Act → World → Prop} {y0 : Sc}
    (h : ShapeIn w B A l) (hm : m ≤ 65536) (ha : a0 ≤ l.length) (hv : Var w wr y0) (hy : y0.half = y0) (hp : y0.prs = []) (how : Owned (w.heap.size + 1 + 1) (fun g => g = w.heap.size + 1) wr y0)
    (hnone : loopP (prP intTok) m [] (some (l.drop a0)) = ([], none) → (scP intTok (some l)).2 = none) (hret : Hid (RetTo w A c l Q))
    (hend : Hid (∀ a' w' at', (∃ v9 v10 v11 v46 u', a' = frS A l.length c w.heap.size (.int .i64 ((at' : Nat) : Int)) (.int .i64 1) (.int .i64 m) (.int .i64 m) v9 v10 v11 v46 u') → PrsDone w l m a0 y0 at' w' → Q (.exit 2) a' w')) :
    Code.wp Try.prog (Code.loop loopB) Q (frS A l.length c w.heap.size (.int .i64 a0) (.int .i64 1) (.int .i64 m) (.int .i64 ((0 : Nat) : Int)) v9 v10 v11 v46 u) wr := by
  refine wp_loop (fun a' w' => ∃ (i at' : Nat) (y : Sc) (v9 v10 v11 v46 : Value) (u : Nat → Value), a' = frS A l.length c w.heap.size (.int .i64 at') (.int .i64 1) (.int .i64 m) (.int .i64 i) v9 v10 v11 v46 u ∧ i ≤ m ∧ at' ≤ l.length ∧ y.prs.length = i ∧
      y.half = y ∧ y.obs = y0.obs ∧ Var w w' y ∧ Owned (w.heap.size + 1 + 1) (fun g => g = w.heap.size + 1) w' y ∧
      loopP (prP intTok) m [] (some (l.drop a0)) = loopP (prP intTok) (m - i) (y.prs.map Pr.ops) (some (l.drop at')))
    (fun a' _ => m - (intOf (a'.tmps.getD 8 undef)).toNat) ?_ ?_
  · exact ⟨0, a0, y0, v9, v10, v11, v46, u, rfl, by omega, ha, by rw [hp]; rfl, hy, rfl, hv, how, by rw [hp]; rfl⟩
  rintro _ w1 ⟨i, at', y, v9, v10, v11, v46, u, rfl, hi, hat, hyl, hyy, hyo, hv, how, hloop⟩
  clear hy hp ha
  by_cases him : i < m
  · have hs : m - i = (m - i - 1) + 1 := by omega
    rw [hs] at hloop
    have hbad : (prP intTok (some (l.drop at'))).2 = none → (scP intTok (some l)).2 = none := fun e => hnone (by rw [hloop]; exact loop_fail e)
    have hcnt : (cntP intTok (some (l.drop at')) = (0, none)) → (prP intTok (some (l.drop at'))).2 = none := fun e => by unfold prP listP; rw [e]; rfl
    by_cases hl : at' < l.length
    case neg => exact pr_short hv him hl (hbad (hcnt (cnt_no (.inl hl)))) (Lib.hid (fun a' w' he hr => hret.out a' w' he hr))
    obtain ⟨n, h0⟩ : ∃ n, l[at']? = some n := ⟨_, List.getElem?_eq_getElem (by omega)⟩
    by_cases hb : n < 0 ∨ 65536 < n
    case pos => exact pr_count h hv him hl h0 hb (hbad (hcnt (cnt_no (.inr ⟨n, h0, hb⟩)))) (Lib.hid (fun a' w' he hr => hret.out a' w' he hr))
    obtain ⟨k, rfl⟩ : ∃ k : Nat, n = (k : Int) := ⟨n.toNat, by omega⟩
    have hpr : prP intTok (some (l.drop at')) = loopP (clP intTok) k [] (some (l.drop (at' + 1))) := by unfold prP listP; rw [cnt_yes h0 (by omega) (by omega)]; rfl
    refine pr_good h hv hyy how him hm (by omega) hl h0 (by omega) (fun e => hbad (by rw [hpr, e])) (Lib.hid (fun a' w' he hr => hret.out a' w' he hr)) (Lib.hid ?_)
    rintro a' w' at2 cs ⟨v9', v10', v11', u', rfl⟩ hat2 hcs ⟨y', e1, e2, e3, hv', how'⟩
    have hl2 : y'.prs.length = i + 1 := by
      have := congrArg List.length e3
      simpa [hyl] using this
    refine ⟨⟨i + 1, at2, y', _, _, _, _, u', rfl, by omega, hat2, hl2, e1, e2.trans hyo, hv', how', ?_⟩, ?_⟩
    · rw [hloop, loop_next (hpr.trans hcs), e3, show m - (i + 1) = m - i - 1 by omega]
    · show m - (intOf (.int .i64 ((i : Int) + 1))).toNat < m - (intOf (.int .i64 (i : Int))).toNat
      simp [intOf]; omega
  · obtain rfl : i = m := by omega
    refine pr_end him (Lib.hid ?_)
    rintro a' ⟨u', rfl⟩
    refine hend.out _ _ at' ⟨_, _, _, _, _, rfl⟩ ⟨hat, y, hyy, hyo, hv, how, ?_⟩
    rw [hloop, Nat.sub_self]; rfl

end Go.Proofs.Ytkicpbnphbcdaaa
