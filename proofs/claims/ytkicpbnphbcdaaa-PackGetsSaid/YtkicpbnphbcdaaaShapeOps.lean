/-
  The document's shape: a thread's calls.
  Conditions: the numbers lie in blocks that were there, and have 64 bits.
-/
import Derived.Test.YtkicpbnphbcdaaaShapeKit
import Derived.Test.YtkicpbnphbcdaaaGetList
namespace Go.Proofs.Ytkicpbnphbcdaaa
open Go.RowKit

theorem Var.on {w wr w' : World} {y : Sc} (h : Var w wr y) (hk : Kept (fun _ => False) wr w') : Var w w' y :=
  ⟨(hk.block _ (Array.getElem?_eq_some_iff.1 h.var).1 (fun f => f)).trans h.var, (hk.block _ (Array.getElem?_eq_some_iff.1 h.res).1 (fun f => f)).trans h.res, h.kept.trans hk (fun _ _ f => f)⟩

noncomputable def codeOpRow : Code := down [1,0,0,1,0] loopC

/-- What a round of a thread's calls leaves: one more in its row. -/
def OpRowDone (wr : World) (W : Nat) (cs : List Cl) (x : Cl) (v' : Value) (w' : World) : Prop := w'.ownsRow W 62 5 v' (cs.length + 1) (flat Cl.cells (cs ++ [x])) ∧ Kept (fun q => W ≤ q) wr w'

section
variable {w wr : World} {W B c a m i n0 k0 : Nat} {A : Option Addr} {l : List Int} {y : Sc} {cs : List Cl} {v6 v7 v8 v9 v10 v11 v46 : Value} {u : Nat → Value} {Q : Exit → Act → World → Prop}

set_option maxHeartbeats 8000000 in
set_option maxRecDepth 100000 in
theorem oprow_region (h : ShapeIn w B A l) (hv : Kept (fun _ => False) w wr) (hW : w.heap.size ≤ W) (hW2 : W ≤ wr.heap.size) (hown : wr.ownsRow W 62 5 v10 cs.length (flat Cl.cells cs)) (hcl : cs.length ≤ 65536) (hal : a + 5 ≤ l.length)
    {k o n t f : Int} (h0 : l[a]? = some k) (h1 : l[a + 1]? = some o) (h2 : l[a + 2]? = some n) (h3 : l[a + 3]? = some t) (h4 : l[a + 4]? = some f)
    (hnext : Hid (∀ a' w' v', (∃ u', a' = frS A l.length c w.heap.size (.int .i64 a) v6 v7 v8 v9 v' v11 v46 u') → OpRowDone wr W cs ⟨k, o, n, t, f == 1⟩ v' w' → Q .normal a' w')) :
    Code.wp Try.prog codeOpRow Q (frS A l.length c w.heap.size (.int .i64 a) v6 v7 v8 v9 v10 v11 v46 u) wr := by
  have hla := h.few
  obtain ⟨g, off, rfl, hg, _⟩ := int_at (h.at hv) h0
  have hlow := h.low
  have hke : ∀ w', Kept (fun q => W ≤ q) wr w' → Elems w' B (some ⟨g, off, none⟩) 1 iC l := fun w' hk => (h.at hv).kept hk (by have := hv.size; omega) (fun q hq e => by omega)
  have SF := Lib.hid (fun (w' : World) (hk : Kept (fun q => W ≤ q) wr w') => (⟨int_same (hke w' hk) h0, int_same (hke w' hk) h1, int_same (hke w' hk) h2, int_same (hke w' hk) h3, int_same (hke w' hk) h4⟩ :
    w'.cell? ⟨g, off + a, none⟩ = some (.int .i64 k) ∧ w'.cell? ⟨g, off + (a + 1), none⟩ = some (.int .i64 o) ∧ w'.cell? ⟨g, off + (a + 2), none⟩ = some (.int .i64 n) ∧ w'.cell? ⟨g, off + (a + 3), none⟩ = some (.int .i64 t) ∧ w'.cell? ⟨g, off + (a + 4), none⟩ = some (.int .i64 f)))
  have HOWN := Lib.hid hown
  have HCL := Lib.hid hcl
  have HW2 := Lib.hid hW2
  obtain ⟨i4, hi4, hz4, hn4, hb4⟩ := info_parts Try.infoCl
  have HI4 := Lib.hid hi4; clear hi4
  have HZ4 := Lib.hid hz4; clear hz4
  have HN4 := Lib.hid hn4; clear hn4
  have HB4 := Lib.hid hb4; clear hb4
  have e1 : IntKind.i64.wrap ((a : Int) + 1) = (a : Int) + 1 := IntWalk.i64_in _ (by omega)
  have e2 : IntKind.i64.wrap ((a : Int) + 2) = (a : Int) + 2 := IntWalk.i64_in _ (by omega)
  have e3 : IntKind.i64.wrap ((a : Int) + 3) = (a : Int) + 3 := IntWalk.i64_in _ (by omega)
  have e4 : IntKind.i64.wrap ((a : Int) + 4) = (a : Int) + 4 := IntWalk.i64_in _ (by omega)
  have t1 : ((a : Int) + 1).toNat = a + 1 := by omega
  have t2 : ((a : Int) + 2).toNat = a + 2 := by omega
  have t3 : ((a : Int) + 3).toNat = a + 3 := by omega
  have t4 : ((a : Int) + 4).toNat = a + 4 := by omega
  have o1 : (0 : Int) ≤ (a : Int) + 1 := by omega
  have o2 : (0 : Int) ≤ (a : Int) + 2 := by omega
  have o3 : (0 : Int) ≤ (a : Int) + 3 := by omega
  have o4 : (0 : Int) ≤ (a : Int) + 4 := by omega
  have b0 : (a : Int) < (l.length : Int) := by omega
  have b1 : (a : Int) + 1 < (l.length : Int) := by omega
  have b2 : (a : Int) + 2 < (l.length : Int) := by omega
  have b3 : (a : Int) + 3 < (l.length : Int) := by omega
  have b4 : (a : Int) + 4 < (l.length : Int) := by omega
  clear h0 h1 h2 h3 h4 hcl hown hke hlow hg hv hla hal h hW hW2
  unfold frS
  conv => arg 2; whnf
  go_region_held3 (fun w' => w'.cell? ⟨g, off + a, none⟩ = some (.int .i64 k) ∧ w'.cell? ⟨g, off + (a + 1), none⟩ = some (.int .i64 o) ∧ w'.cell? ⟨g, off + (a + 2), none⟩ = some (.int .i64 n) ∧ w'.cell? ⟨g, off + (a + 3), none⟩ = some (.int .i64 t) ∧ w'.cell? ⟨g, off + (a + 4), none⟩ = some (.int .i64 f))
    (first | exact SF.out _ (Kept.refl _ _) | exact SF.out _ (Kept.refl _ _).drew | exact SF.out _ ((Kept.refl _ _).drew.alloc _) | exact SF.out _ HK6)
    ((refine step_append_elems (ys := [⟨k, o, n, t, f == 1⟩]) _ (by rfl) _ _ _ (by rfl) W 62 i4 (.agg #[.int .i64 0, .int .i64 0, .int .i64 0, .int .i64 0, .bool false]) 5 40 Try.underlying49 HI4.out HZ4.out HN4.out HB4.out rfl (by decide) Cl.five (one_cl _) v10 cs.length (flat Cl.cells cs) (by rfl) (own_kept HOWN.out ((Kept.refl _ _).drew.alloc _) (fun _ _ f => f)) _ _ 1 (by rfl) (Elems.block Cl.five (heap_alloc_new _ _) rfl (by show 1 ≤ maxLen; decide)) (by have := HCL.out; show cs.length + 1 ≤ maxLen; unfold maxLen; omega) (by have := HCL.out; show (cs.length + 1) * 40 ≤ _; omega) (by have := HW2.out; simp; omega) ?_; intro v' w3 h1 h2 h3; have HK6 : Kept (fun q => W ≤ q) wr w3 := ((Kept.refl (fun q => W ≤ q) wr).drew.alloc _).grown h2 (fun g hg e => (World.ownsRow.lt HOWN.out g e).1); have H1 := Lib.hid h1; clear h1 h2 h3))
  refine hnext.out _ _ v' (frS_of (by kernel_rfl)) ⟨?_, HK6⟩
  rw [flat_append]
  exact H1.out

set_option maxHeartbeats 4000000 in
set_option maxRecDepth 100000 in
theorem op_short (h : ShapeIn w B A l) (hv : Var w wr y) (hi : i < m) (ha : a ≤ l.length) (hl : ¬ a + 5 ≤ l.length) (hn : (scP intTok (some l)).2 = none) (hret : Hid (RetTo w A c l Q)) :
    Code.wp Try.prog loopC Q (frS A l.length c w.heap.size (.int .i64 a) v6 v7 v8 (.int .i64 m) v10 (.int .i64 i) v46 u) wr := by
  have hla := h.few
  have h3' : (l.length : Int) < (a : Int) + 5 := by omega
  obtain ⟨⟨f0, f1, f2⟩, ⟨r0, r1, r2⟩, ⟨t0, t1, t2⟩, hfin⟩ := hv.bad hn
  have HF := Lib.hid hfin
  clear hfin hn hl
  unfold frS
  conv => arg 2; whnf
  go_wp2_with fail
  exact hret.out _ _ (frR_of (by kernel_rfl)) HF.out

set_option maxHeartbeats 4000000 in
set_option maxRecDepth 100000 in
theorem op_flag (h : ShapeIn w B A l) (hv : Var w wr y) (hi : i < m) (hl : a + 5 ≤ l.length) {f : Int} (h1 : l[a + 4]? = some f) (hf0 : f ≠ 0) (hf1 : f ≠ 1) (hn : (scP intTok (some l)).2 = none) (hret : Hid (RetTo w A c l Q)) :
    Code.wp Try.prog loopC Q (frS A l.length c w.heap.size (.int .i64 a) v6 v7 v8 (.int .i64 m) v10 (.int .i64 i) v46 u) wr := by
  have hla := h.few
  have h3' : ¬ ((l.length : Int) < (a : Int) + 5) := by omega
  obtain ⟨g, off, rfl, hg, c1⟩ := int_at (h.at hv.kept) h1
  have g2 : (f != 0) = true := by rw [bne_iff_ne]; exact hf0
  have g3 : (f != 1) = true := by rw [bne_iff_ne]; exact hf1
  obtain ⟨⟨f0, f1, f2⟩, ⟨r0, r1, r2⟩, ⟨t0, t1, t2⟩, hfin⟩ := hv.bad hn
  have HF := Lib.hid hfin
  clear hfin hn h1
  unfold frS
  conv => arg 2; whnf
  go_wp2_with fail
  exact hret.out _ _ (frR_of (by kernel_rfl)) HF.out

set_option maxHeartbeats 4000000 in
set_option maxRecDepth 100000 in
theorem op_end (him : ¬ i < m) (hend : Hid (∀ a', (∃ u', a' = frS A l.length c w.heap.size (.int .i64 a) v6 v7 v8 (.int .i64 m) v10 (.int .i64 i) v46 u') → Q (.exit 5) a' wr)) :
    Code.wp Try.prog loopC Q (frS A l.length c w.heap.size (.int .i64 a) v6 v7 v8 (.int .i64 m) v10 (.int .i64 i) v46 u) wr := by
  unfold frS
  conv => arg 2; whnf
  go_wp2_with fail
  exact hend.out _ (frS_of (by kernel_rfl))

set_option maxHeartbeats 4000000 in
set_option maxRecDepth 100000 in
theorem op_good (h : ShapeIn w B A l) (hv : Kept (fun _ => False) w wr) (hW : w.heap.size ≤ W) (hW2 : W ≤ wr.heap.size) (hown : wr.ownsRow W 62 5 v10 cs.length (flat Cl.cells cs)) (hi : i < m) (hm : m ≤ 65536) (hcl : cs.length ≤ 65536) (hl : a + 5 ≤ l.length)
    {k o n t f : Int} (h0 : l[a]? = some k) (h1 : l[a + 1]? = some o) (h2 : l[a + 2]? = some n) (h3 : l[a + 3]? = some t) (h4 : l[a + 4]? = some f) (hff : f = 0 ∨ f = 1)
    (hnext : Hid (∀ a' w' v', (∃ u', a' = frS A l.length c w.heap.size (.int .i64 ((a : Int) + 5)) v6 v7 v8 (.int .i64 m) v' (.int .i64 ((i : Int) + 1)) v46 u') → OpRowDone wr W cs ⟨k, o, n, t, f == 1⟩ v' w' → Q .normal a' w')) :
    Code.wp Try.prog loopC Q (frS A l.length c w.heap.size (.int .i64 a) v6 v7 v8 (.int .i64 m) v10 (.int .i64 i) v46 u) wr := by
  have hla := h.few
  have HR := Lib.hid (fun (Q' : Exit → Act → World → Prop) (act : Act) (he : ∃ u', act = frS A l.length c w.heap.size (.int .i64 a) v6 v7 v8 (.int .i64 m) v10 (.int .i64 i) v46 u')
    (hq : ∀ a' w' v', (∃ u', a' = frS A l.length c w.heap.size (.int .i64 a) v6 v7 v8 (.int .i64 m) v' (.int .i64 i) v46 u') → OpRowDone wr W cs ⟨k, o, n, t, f == 1⟩ v' w' → Q' .normal a' w') => (by
      obtain ⟨u', rfl⟩ := he
      exact oprow_region h hv hW hW2 hown hcl hl h0 h1 h2 h3 h4 (Lib.hid hq) : Code.wp Try.prog codeOpRow Q' act wr))
  obtain ⟨g, off, rfl, hg, c1⟩ := int_at (h.at hv) h4
  have h3' : ¬ ((l.length : Int) < (a : Int) + 5) := by omega
  clear h0 h1 h2 h3 h4 hv hown h hW hW2 hcl
  rcases hff with rfl | rfl
  all_goals
    unfold frS
    conv => arg 2; whnf
    go_wp2_with fail
    refine HR.out _ _ (frS_of (by kernel_rfl)) ?_
    rintro a' w' v' ⟨u', rfl⟩ hdone
    have HD := Lib.hid hdone
    clear hdone HR c1
    unfold frS
    go_wp2_with fail
    exact hnext.out _ _ v' (frS_of (by kernel_rfl)) HD.out
end

/-- What the loop over a thread's calls leaves. -/
def OpsDone (wr : World) (l : List Int) (m a0 : Nat) (at' : Nat) (v' : Value) (w' : World) : Prop :=
  at' ≤ l.length ∧ ∃ cs : List Cl, cs.length ≤ 65536 ∧ w'.ownsRow wr.heap.size 62 5 v' cs.length (flat Cl.cells cs) ∧ Kept (fun _ => False) wr w' ∧
    loopP (clP intTok) m [] (some (l.drop a0)) = (cs, some (l.drop at'))

theorem ops_loop {w wr : World} {B c a0 m : Nat} {A : Option Addr} {l : List Int} {v6 v7 v8 v46 : Value} {u : Nat → Value} {Q : Exit → Act → World → Prop} {y : Sc}
    (h : ShapeIn w B A l) (hm : m ≤ 65536) (ha : a0 ≤ l.length) (hv : Var w wr y)
    (hnone : loopP (clP intTok) m [] (some (l.drop a0)) = ([], none) → (scP intTok (some l)).2 = none) (hret : Hid (RetTo w A c l Q))
    (hend : Hid (∀ a' w' at' v', (∃ v11 u', a' = frS A l.length c w.heap.size (.int .i64 ((at' : Nat) : Int)) v6 v7 v8 (.int .i64 m) v' v11 v46 u') → OpsDone wr l m a0 at' v' w' → Q (.exit 5) a' w')) :
    Code.wp Try.prog (Code.loop loopC) Q (frS A l.length c w.heap.size (.int .i64 a0) v6 v7 v8 (.int .i64 m) (.slice none 0 0) (.int .i64 ((0 : Nat) : Int)) v46 u) wr := by
  refine wp_loop (fun a' w' => ∃ (i at' : Nat) (cs : List Cl) (v10 : Value) (u : Nat → Value), a' = frS A l.length c w.heap.size (.int .i64 at') v6 v7 v8 (.int .i64 m) v10 (.int .i64 i) v46 u ∧ i ≤ m ∧ at' ≤ l.length ∧ cs.length = i ∧
      w'.ownsRow wr.heap.size 62 5 v10 cs.length (flat Cl.cells cs) ∧ Kept (fun _ => False) wr w' ∧
      loopP (clP intTok) m [] (some (l.drop a0)) = loopP (clP intTok) (m - i) cs (some (l.drop at')))
    (fun a' _ => m - (intOf (a'.tmps.getD 11 undef)).toNat) ?_ ?_
  · exact ⟨0, a0, [], _, u, rfl, by omega, ha, rfl, World.ownsRow_nil _ _ _ _, Kept.refl _ _, rfl⟩
  rintro _ w1 ⟨i, at', cs, v10, u, rfl, hi, hat, hcl, hown, hk, hloop⟩
  clear ha
  have hv1 := hv.on hk
  by_cases him : i < m
  · have hs : m - i = (m - i - 1) + 1 := by omega
    rw [hs] at hloop
    by_cases hl : at' + 5 ≤ l.length
    case neg => exact op_short h hv1 him hat hl (hnone (by rw [hloop]; exact loop_fail (cl_no (.inl hl)))) (Lib.hid (fun a' w' he hr => hret.out a' w' he hr))
    obtain ⟨k, h0⟩ : ∃ n, l[at']? = some n := ⟨_, List.getElem?_eq_getElem (by omega)⟩
    obtain ⟨o, h1⟩ : ∃ n, l[at' + 1]? = some n := ⟨_, List.getElem?_eq_getElem (by omega)⟩
    obtain ⟨n, h2⟩ : ∃ n, l[at' + 2]? = some n := ⟨_, List.getElem?_eq_getElem (by omega)⟩
    obtain ⟨t, h3⟩ : ∃ n, l[at' + 3]? = some n := ⟨_, List.getElem?_eq_getElem (by omega)⟩
    obtain ⟨f, h4⟩ : ∃ n, l[at' + 4]? = some n := ⟨_, List.getElem?_eq_getElem (by omega)⟩
    by_cases hff : f = 0 ∨ f = 1
    case neg => exact op_flag h hv1 him hl h4 (fun e => hff (.inl e)) (fun e => hff (.inr e)) (hnone (by rw [hloop]; exact loop_fail (cl_no (.inr ⟨f, h4, fun e => hff (.inl e), fun e => hff (.inr e)⟩)))) (Lib.hid (fun a' w' he hr => hret.out a' w' he hr))
    refine op_good h hv1.kept hv.kept.size hk.size hown him hm (by omega) hl h0 h1 h2 h3 h4 hff (Lib.hid ?_)
    rintro a' w' v' ⟨u', rfl⟩ ⟨hown', hk'⟩
    refine ⟨⟨i + 1, at' + 5, cs ++ [⟨k, o, n, t, f == 1⟩], v', u', rfl, by omega, hl, by simp; omega, by rw [List.length_append]; exact hown', hk.trans hk' (fun q hq e => by omega), ?_⟩, ?_⟩
    · rw [hloop, loop_next (cl_yes h.inr h0 h1 h2 h3 h4 hff), show m - (i + 1) = m - i - 1 by omega]
    · show m - (intOf (.int .i64 ((i : Int) + 1))).toNat < m - (intOf (.int .i64 (i : Int))).toNat
      simp [intOf]; omega
  · obtain rfl : i = m := by omega
    refine op_end him (Lib.hid ?_)
    rintro a' ⟨u', rfl⟩
    refine hend.out _ _ at' v10 ⟨_, _, rfl⟩ ⟨hat, cs, by omega, hown, hk, ?_⟩
    rw [hloop, Nat.sub_self]; rfl

end Go.Proofs.Ytkicpbnphbcdaaa
