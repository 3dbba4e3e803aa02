/-
  The document's shape: the objects.
  Conditions: the numbers lie in blocks that were there, and have 64 bits.
-/
import Derived.Test.YtkicpbnphbcdaaaObRow
namespace Go.Proofs.Ytkicpbnphbcdaaa
open Go.RowKit

section
variable {w wr : World} {B c a m i : Nat} {A : Option Addr} {l : List Int} {y : Sc} {v9 v10 v11 v46 : Value} {u : Nat → Value} {Q : Exit → Act → World → Prop}

set_option maxHeartbeats 4000000 in
set_option maxRecDepth 100000 in
theorem ob_short (h : ShapeIn w B A l) (hv : Var w wr y) (hi : i < m) (ha : a ≤ l.length) (hl : ¬ a + 3 ≤ l.length) (hn : (scP intTok (some l)).2 = none) (hret : Hid (RetTo w A c l Q)) :
    Code.wp Try.prog loopB Q (frS A l.length c w.heap.size (.int .i64 a) (.int .i64 0) (.int .i64 m) (.int .i64 i) v9 v10 v11 v46 u) wr := by
  have hla := h.few
  have h3' : (l.length : Int) < (a : Int) + 3 := by omega
  obtain ⟨⟨f0, f1, f2⟩, ⟨r0, r1, r2⟩, ⟨t0, t1, t2⟩, hfin⟩ := hv.bad hn
  have HF := Lib.hid hfin
  clear hfin hn hl
  unfold frS
  conv => arg 2; whnf
  go_wp2_with fail
  exact hret.out _ _ (frR_of (by kernel_rfl)) HF.out

set_option maxHeartbeats 4000000 in
set_option maxRecDepth 100000 in
theorem ob_flag (h : ShapeIn w B A l) (hv : Var w wr y) (hi : i < m) (hl : a + 3 ≤ l.length) {f : Int} (h1 : l[a + 1]? = some f) (hf0 : f ≠ 0) (hf1 : f ≠ 1) (hn : (scP intTok (some l)).2 = none) (hret : Hid (RetTo w A c l Q)) :
    Code.wp Try.prog loopB Q (frS A l.length c w.heap.size (.int .i64 a) (.int .i64 0) (.int .i64 m) (.int .i64 i) v9 v10 v11 v46 u) wr := by
  have hla := h.few
  have h3' : ¬ ((l.length : Int) < (a : Int) + 3) := by omega
  obtain ⟨g, off, rfl, hg, c1⟩ := int_at (h.at hv.kept) h1
  have g2 : (f != 0) = true := by rw [bne_iff_ne]; exact hf0
  have g3 : (f != 1) = true := by rw [bne_iff_ne]; exact hf1
  obtain ⟨⟨f0, f1, f2⟩, ⟨r0, r1, r2⟩, ⟨t0, t1, t2⟩, hfin⟩ := hv.bad hn
  have HF := Lib.hid hfin
  clear hfin hn h1
  unfold frS
  conv => arg 2; whnf
  go_wp2_with fail
  exact hret.out _ _ (frR_of (by kernel_rfl)) HF.out

set_option maxHeartbeats 4000000 in
set_option maxRecDepth 100000 in
theorem ob_end (him : ¬ i < m) (hend : Hid (∀ a', (∃ u', a' = frS A l.length c w.heap.size (.int .i64 a) (.int .i64 0) (.int .i64 m) (.int .i64 i) v9 v10 v11 v46 u') → Q (.exit 2) a' wr)) :
    Code.wp Try.prog loopB Q (frS A l.length c w.heap.size (.int .i64 a) (.int .i64 0) (.int .i64 m) (.int .i64 i) v9 v10 v11 v46 u) wr := by
  unfold frS
  conv => arg 2; whnf
  go_wp2_with fail
  exact hend.out _ (frS_of (by kernel_rfl))

set_option maxHeartbeats 4000000 in
set_option maxRecDepth 100000 in
theorem ob_good (h : ShapeIn w B A l) (hv : Var w wr y) (hown : wr.ownsRow (w.heap.size + 1 + 1) 48 3 (.slice y.os y.obs.length y.oc) y.obs.length (flat Ob.cells y.obs)) (hi : i < m) (hm : m ≤ 65536) (hyl : y.obs.length ≤ 65536) (hl : a + 3 ≤ l.length)
    {k f n : Int} (h0 : l[a]? = some k) (h1 : l[a + 1]? = some f) (h2 : l[a + 2]? = some n) (hff : f = 0 ∨ f = 1)
    (hnext : Hid (∀ a' w', (∃ u', a' = frS A l.length c w.heap.size (.int .i64 ((a : Int) + 3)) (.int .i64 0) (.int .i64 m) (.int .i64 ((i : Int) + 1)) v9 v10 v11 (.int .i64 0) u') → ObRowDone w wr y ⟨k, f == 1, n⟩ w' → Q .normal a' w')) :
    Code.wp Try.prog loopB Q (frS A l.length c w.heap.size (.int .i64 a) (.int .i64 0) (.int .i64 m) (.int .i64 i) v9 v10 v11 v46 u) wr := by
  have hla := h.few
  have HR := Lib.hid (fun (Q' : Exit → Act → World → Prop) (act : Act) (he : ∃ u', act = frS A l.length c w.heap.size (.int .i64 a) (.int .i64 0) (.int .i64 m) (.int .i64 i) v9 v10 v11 (.int .i64 0) u')
    (hq : ∀ a' w', (∃ u', a' = frS A l.length c w.heap.size (.int .i64 a) (.int .i64 0) (.int .i64 m) (.int .i64 i) v9 v10 v11 (.int .i64 0) u') → ObRowDone w wr y ⟨k, f == 1, n⟩ w' → Q' .normal a' w') => (by
      obtain ⟨u', rfl⟩ := he
      exact obrow_region h hv hown hyl hl h0 h1 h2 (Lib.hid hq) : Code.wp Try.prog codeObRow Q' act wr))
  obtain ⟨g, off, rfl, hg, c1⟩ := int_at (h.at hv.kept) h1
  have h3' : ¬ ((l.length : Int) < (a : Int) + 3) := by omega
  clear h0 h1 h2 hv hown hyl h
  rcases hff with rfl | rfl
  all_goals
    unfold frS
    conv => arg 2; whnf
    go_wp2_with fail
    refine HR.out _ _ (frS_of (by kernel_rfl)) ?_
    rintro a' w' ⟨u', rfl⟩ hdone
    have HD := Lib.hid hdone
    clear hdone HR c1
    unfold frS
    go_wp2_with fail
    exact hnext.out _ _ (frS_of (by kernel_rfl)) HD.out
end

/-- What the objects' loop leaves. -/
def ObsDone (w : World) (l : List Int) (m a0 : Nat) (at' : Nat) (w' : World) : Prop :=
  at' ≤ l.length ∧ ∃ y : Sc, y.obs.length ≤ 65536 ∧ (y.ps = none ∧ y.pc = 0 ∧ y.prs = [] ∧ y.ks = none ∧ y.kc = 0 ∧ y.pis = []) ∧ Var w w' y ∧
    w'.ownsRow (w.heap.size + 1 + 1) 48 3 (.slice y.os y.obs.length y.oc) y.obs.length (flat Ob.cells y.obs) ∧
    loopP (obP intTok) m [] (some (l.drop a0)) = (y.obs, some (l.drop at'))

theorem obs_loop {w wr : World} {B c a0 m : Nat} {A : Option Addr} {l : List Int} {v9 v10 v11 v46 : Value} {u : Nat → Value} {Q : Exit → Act → World → Prop} {y0 : Sc}
    (h : ShapeIn w B A l) (hm : m ≤ 65536) (ha : a0 ≤ l.length) (hv : Var w wr y0) (hy : y0 = zeroSc)
    (hnone : loopP (obP intTok) m [] (some (l.drop a0)) = ([], none) → (scP intTok (some l)).2 = none) (hret : Hid (RetTo w A c l Q))
    (hend : Hid (∀ a' w' at', (∃ v46 u', a' = frS A l.length c w.heap.size (.int .i64 ((at' : Nat) : Int)) (.int .i64 0) (.int .i64 m) (.int .i64 m) v9 v10 v11 v46 u') → ObsDone w l m a0 at' w' → Q (.exit 2) a' w')) :
    Code.wp Try.prog (Code.loop loopB) Q (frS A l.length c w.heap.size (.int .i64 a0) (.int .i64 0) (.int .i64 m) (.int .i64 ((0 : Nat) : Int)) v9 v10 v11 v46 u) wr := by
  refine wp_loop (fun a' w' => ∃ (i at' : Nat) (y : Sc) (v46 : Value) (u : Nat → Value), a' = frS A l.length c w.heap.size (.int .i64 at') (.int .i64 0) (.int .i64 m) (.int .i64 i) v9 v10 v11 v46 u ∧ i ≤ m ∧ at' ≤ l.length ∧ y.obs.length = i ∧
      (y.ps = none ∧ y.pc = 0 ∧ y.prs = [] ∧ y.ks = none ∧ y.kc = 0 ∧ y.pis = []) ∧ Var w w' y ∧ w'.ownsRow (w.heap.size + 1 + 1) 48 3 (.slice y.os y.obs.length y.oc) y.obs.length (flat Ob.cells y.obs) ∧
      loopP (obP intTok) m [] (some (l.drop a0)) = loopP (obP intTok) (m - i) y.obs (some (l.drop at')))
    (fun a' _ => m - (intOf (a'.tmps.getD 8 undef)).toNat) ?_ ?_
  · subst hy
    exact ⟨0, a0, zeroSc, v46, u, rfl, by omega, ha, rfl, ⟨rfl, rfl, rfl, rfl, rfl, rfl⟩, hv, World.ownsRow_nil _ _ _ _, rfl⟩
  rintro _ w1 ⟨i, at', y, v46, u, rfl, hi, hat, hyl, hyy, hv, hown, hloop⟩
  clear hy ha
  by_cases him : i < m
  · have hs : m - i = (m - i - 1) + 1 := by omega
    rw [hs] at hloop
    by_cases hl : at' + 3 ≤ l.length
    case neg => exact ob_short h hv him hat hl (hnone (by rw [hloop]; exact loop_fail (ob_no (.inl hl)))) (Lib.hid (fun a' w' he hr => hret.out a' w' he hr))
    obtain ⟨k, h0⟩ : ∃ n, l[at']? = some n := ⟨_, List.getElem?_eq_getElem (by omega)⟩
    obtain ⟨f, h1⟩ : ∃ n, l[at' + 1]? = some n := ⟨_, List.getElem?_eq_getElem (by omega)⟩
    obtain ⟨n, h2⟩ : ∃ n, l[at' + 2]? = some n := ⟨_, List.getElem?_eq_getElem (by omega)⟩
    by_cases hff : f = 0 ∨ f = 1
    case neg => exact ob_flag h hv him hl h1 (fun e => hff (.inl e)) (fun e => hff (.inr e)) (hnone (by rw [hloop]; exact loop_fail (ob_no (.inr ⟨f, h1, fun e => hff (.inl e), fun e => hff (.inr e)⟩)))) (Lib.hid (fun a' w' he hr => hret.out a' w' he hr))
    refine ob_good h hv hown him hm (by omega) hl h0 h1 h2 hff (Lib.hid ?_)
    rintro a' w' ⟨u', rfl⟩ ⟨y', hy1, ⟨e1, e2, e3, e4, e5, e6⟩, hv', hown', _, _⟩
    obtain ⟨q1, q2, q3, q4, q5, q6⟩ := hyy
    refine ⟨⟨i + 1, at' + 3, y', _, u', rfl, by omega, hl, by rw [hy1]; simp; omega, ⟨e1.trans q1, e2.trans q2, e3.trans q3, e4.trans q4, e5.trans q5, e6.trans q6⟩, hv', hown', ?_⟩, ?_⟩
    · rw [hloop, loop_next (ob_yes h.inr h0 h1 h2 hff), hy1, show m - (i + 1) = m - i - 1 by omega]
    · show m - (intOf (.int .i64 ((i : Int) + 1))).toNat < m - (intOf (.int .i64 (i : Int))).toNat
      simp [intOf]; omega
  · obtain rfl : i = m := by omega
    refine ob_end him (Lib.hid ?_)
    rintro a' ⟨u', rfl⟩
    refine hend.out _ _ at' ⟨_, _, rfl⟩ ⟨hat, y, by omega, hyy, hv, hown, ?_⟩
    rw [hloop, Nat.sub_self]; rfl

end Go.Proofs.Ytkicpbnphbcdaaa
