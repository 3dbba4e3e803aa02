/-
  The document's shape: the picks.
  Conditions: the numbers lie in blocks that were there, and have 64 bits.
-/
import Derived.Test.YtkicpbnphbcdaaaPiRow
namespace Go.Proofs.Ytkicpbnphbcdaaa
open Go.RowKit

theorem Owned.step {W : Nat} {R R' S : Nat → Prop} {w w' : World} {y : Sc} (h : Owned W R w y) (hk : Kept S w w') (hS : ∀ g, S g → R g) (hR : ∀ g, g < w.heap.size → ¬ R g → ¬ R' g) : Owned W R' w' y where
  obs := h.obs.step hk (fun g hg => .inl (hS g hg)) (fun g hg hn hq => hq.elim (hR g hg (fun r => hn (.inl r))) (fun e => hn (.inr e)))
  pis := h.pis.step hk (fun g hg => .inl (hS g hg)) (fun g hg hn hq => hq.elim (hR g hg (fun r => hn (.inl r))) (fun e => hn (.inr e)))
  ops := fun p hp => (h.ops p hp).step hk (fun g hg => .inl (hS g hg)) (fun g hg hn hq => hq.elim (hR g hg (fun r => hn (.inl r))) (fun e => hn (.inr e)))
  own := own_kept h.own hk (fun g hg hs => h.off g hg (hS g hs))
  off := fun g hg => hR g (World.ownsRow.lt h.own g hg).2 (h.off g hg)
  few := h.few

/-- A script without its picks. -/
def Sc.half (y : Sc) : Sc := ⟨y.os, y.oc, y.obs, y.ps, y.pc, y.prs, none, 0, []⟩

section
variable {w wr : World} {B c a m i : Nat} {A : Option Addr} {l : List Int} {y : Sc} {v9 v10 v11 v46 : Value} {u : Nat → Value} {Q : Exit → Act → World → Prop}

set_option maxHeartbeats 4000000 in
set_option maxRecDepth 100000 in
theorem pi_short (h : ShapeIn w B A l) (hv : Var w wr y) (hi : i < m) (ha : a ≤ l.length) (hl : ¬ a + 2 ≤ l.length) (hn : (scP intTok (some l)).2 = none) (hret : Hid (RetTo w A c l Q)) :
    Code.wp Try.prog loopB Q (frS A l.length c w.heap.size (.int .i64 a) (.int .i64 2) (.int .i64 m) (.int .i64 i) v9 v10 v11 v46 u) wr := by
  have hla := h.few
  have h3' : (l.length : Int) < (a : Int) + 2 := by omega
  obtain ⟨⟨f0, f1, f2⟩, ⟨r0, r1, r2⟩, ⟨t0, t1, t2⟩, hfin⟩ := hv.bad hn
  have HF := Lib.hid hfin
  clear hfin hn hl
  unfold frS
  conv => arg 2; whnf
  go_wp2_with fail
  exact hret.out _ _ (frR_of (by kernel_rfl)) HF.out

set_option maxHeartbeats 4000000 in
set_option maxRecDepth 100000 in
theorem pi_end (him : ¬ i < m) (hend : Hid (∀ a', (∃ u', a' = frS A l.length c w.heap.size (.int .i64 a) (.int .i64 2) (.int .i64 m) (.int .i64 i) v9 v10 v11 v46 u') → Q (.exit 2) a' wr)) :
    Code.wp Try.prog loopB Q (frS A l.length c w.heap.size (.int .i64 a) (.int .i64 2) (.int .i64 m) (.int .i64 i) v9 v10 v11 v46 u) wr := by
  unfold frS
  conv => arg 2; whnf
  go_wp2_with fail
  exact hend.out _ (frS_of (by kernel_rfl))

set_option maxHeartbeats 4000000 in
set_option maxRecDepth 100000 in
theorem pi_good (h : ShapeIn w B A l) (hv : Var w wr y) (hown : wr.ownsRow (w.heap.size + 1 + 1) 57 2 (.slice y.ks y.pis.length y.kc) y.pis.length (flat Pi.cells y.pis)) (hi : i < m) (hm : m ≤ 65536) (hyl : y.pis.length ≤ 65536) (hl : a + 2 ≤ l.length)
    {k n : Int} (h0 : l[a]? = some k) (h1 : l[a + 1]? = some n)
    (hnext : Hid (∀ a' w', (∃ u', a' = frS A l.length c w.heap.size (.int .i64 ((a : Int) + 2)) (.int .i64 2) (.int .i64 m) (.int .i64 ((i : Int) + 1)) v9 v10 v11 (.int .i64 2) u') → PiRowDone w wr y ⟨k, n⟩ w' → Q .normal a' w')) :
    Code.wp Try.prog loopB Q (frS A l.length c w.heap.size (.int .i64 a) (.int .i64 2) (.int .i64 m) (.int .i64 i) v9 v10 v11 v46 u) wr := by
  have hla := h.few
  have HR := Lib.hid (fun (Q' : Exit → Act → World → Prop) (act : Act) (he : ∃ u', act = frS A l.length c w.heap.size (.int .i64 a) (.int .i64 2) (.int .i64 m) (.int .i64 i) v9 v10 v11 (.int .i64 2) u')
    (hq : ∀ a' w', (∃ u', a' = frS A l.length c w.heap.size (.int .i64 a) (.int .i64 2) (.int .i64 m) (.int .i64 i) v9 v10 v11 (.int .i64 2) u') → PiRowDone w wr y ⟨k, n⟩ w' → Q' .normal a' w') => (by
      obtain ⟨u', rfl⟩ := he
      exact pirow_region h hv hown hyl hl h0 h1 (Lib.hid hq) : Code.wp Try.prog codePiRow Q' act wr))
  have h3' : ¬ ((l.length : Int) < (a : Int) + 2) := by omega
  clear h0 h1 hv hown hyl h
  unfold frS
  conv => arg 2; whnf
  go_wp2_with fail
  refine HR.out _ _ (frS_of (by kernel_rfl)) ?_
  rintro a' w' ⟨u', rfl⟩ hdone
  have HD := Lib.hid hdone
  clear hdone HR
  unfold frS
  go_wp2_with fail
  exact hnext.out _ _ (frS_of (by kernel_rfl)) HD.out
end

/-- What the picks' loop leaves. -/
def PisDone (w : World) (l : List Int) (m a0 : Nat) (y0 : Sc) (at' : Nat) (w' : World) : Prop :=
  at' ≤ l.length ∧ ∃ y : Sc, y.half = y0 ∧ Var w w' y ∧ (∀ w2, Kept (fun g => g < w.heap.size + 1 + 1) w' w2 → Lies w2 w2.heap.size y) ∧ loopP (piP intTok) m [] (some (l.drop a0)) = (y.pis, some (l.drop at'))

theorem pis_loop {w wr : World} {B c a0 m : Nat} {A : Option Addr} {l : List Int} {v9 v10 v11 v46 : Value} {u : Nat → Value} {Q : Exit → Act → World → Prop} {y0 : Sc}
    (h : ShapeIn w B A l) (hm : m ≤ 65536) (ha : a0 ≤ l.length) (hv : Var w wr y0) (hy : y0.half = y0) (how : Owned (w.heap.size + 1 + 1) (fun g => g = w.heap.size + 1) wr y0)
    (hnone : loopP (piP intTok) m [] (some (l.drop a0)) = ([], none) → (scP intTok (some l)).2 = none) (hret : Hid (RetTo w A c l Q))
    (hend : Hid (∀ a' w' at', (∃ v46 u', a' = frS A l.length c w.heap.size (.int .i64 ((at' : Nat) : Int)) (.int .i64 2) (.int .i64 m) (.int .i64 m) v9 v10 v11 v46 u') → PisDone w l m a0 y0 at' w' → Q (.exit 2) a' w')) :
    Code.wp Try.prog (Code.loop loopB) Q (frS A l.length c w.heap.size (.int .i64 a0) (.int .i64 2) (.int .i64 m) (.int .i64 ((0 : Nat) : Int)) v9 v10 v11 v46 u) wr := by
  refine wp_loop (fun a' w' => ∃ (i at' : Nat) (y : Sc) (v46 : Value) (u : Nat → Value), a' = frS A l.length c w.heap.size (.int .i64 at') (.int .i64 2) (.int .i64 m) (.int .i64 i) v9 v10 v11 v46 u ∧ i ≤ m ∧ at' ≤ l.length ∧ y.pis.length = i ∧
      y.half = y0 ∧ Var w w' y ∧ Owned (w.heap.size + 1 + 1) (fun g => g = w.heap.size + 1 ∨ (Value.slice y.ks y.pis.length y.kc).ownBlock = some g) w' y0 ∧ w'.ownsRow (w.heap.size + 1 + 1) 57 2 (.slice y.ks y.pis.length y.kc) y.pis.length (flat Pi.cells y.pis) ∧
      loopP (piP intTok) m [] (some (l.drop a0)) = loopP (piP intTok) (m - i) y.pis (some (l.drop at')))
    (fun a' _ => m - (intOf (a'.tmps.getD 8 undef)).toNat) ?_ ?_
  · have e1 : y0.ks = none := by rw [← hy]; rfl
    have e2 : y0.kc = 0 := by rw [← hy]; rfl
    have e3 : y0.pis = [] := by rw [← hy]; rfl
    refine ⟨0, a0, y0, v46, u, rfl, by omega, ha, by rw [e3]; rfl, hy, hv, how.step (Kept.refl (fun _ => False) _) (fun _ f => f.elim) (fun g _ hn hq => ?_), ?_, by rw [e3]; rfl⟩
    · rcases hq with hq | hq
      · exact hn hq
      · rw [e1] at hq; simp [Value.ownBlock] at hq
    · rw [e1, e2, e3]; exact World.ownsRow_nil _ _ _ _
  rintro _ w1 ⟨i, at', y, v46, u, rfl, hi, hat, hyl, hyy, hv, how, hown, hloop⟩
  clear hy ha
  by_cases him : i < m
  · have hs : m - i = (m - i - 1) + 1 := by omega
    rw [hs] at hloop
    by_cases hl : at' + 2 ≤ l.length
    case neg => exact pi_short h hv him hat hl (hnone (by rw [hloop]; exact loop_fail (pi_no hl))) (Lib.hid (fun a' w' he hr => hret.out a' w' he hr))
    obtain ⟨k, h0⟩ : ∃ n, l[at']? = some n := ⟨_, List.getElem?_eq_getElem (by omega)⟩
    obtain ⟨n, h1⟩ : ∃ n, l[at' + 1]? = some n := ⟨_, List.getElem?_eq_getElem (by omega)⟩
    refine pi_good h hv hown him hm (by omega) hl h0 h1 (Lib.hid ?_)
    rintro a' w' ⟨u', rfl⟩ ⟨y', hy1, ⟨e1, e2, e3, e4, e5, e6⟩, hv', hown', hk', hoff'⟩
    refine ⟨⟨i + 1, at' + 2, y', _, u', rfl, by omega, hl, by rw [hy1]; simp; omega, ?_, hv', ?_, hown', ?_⟩, ?_⟩
    · rw [← hyy]; unfold Sc.half; rw [e1, e2, e3, e4, e5, e6]
    · refine how.step hk' (fun g hg => hg) (fun g hg hn hq => ?_)
      rcases hq with hq | hq
      · exact hn (.inl hq)
      · rcases hoff' with ho | ⟨g', ho, hg'⟩
        · exact hn (.inr (ho.symm.trans hq))
        · have := ho.symm.trans hq
          simp only [Option.some.injEq] at this
          omega
    · rw [hloop, loop_next (pi_yes h.inr h0 h1), hy1, show m - (i + 1) = m - i - 1 by omega]
    · show m - (intOf (.int .i64 ((i : Int) + 1))).toNat < m - (intOf (.int .i64 (i : Int))).toNat
      simp [intOf]; omega
  · obtain rfl : i = m := by omega
    refine pi_end him (Lib.hid ?_)
    rintro a' ⟨u', rfl⟩
    refine hend.out _ _ at' ⟨_, _, rfl⟩ ⟨hat, y, hyy, hv, ?_, ?_⟩
    · intro w2 hk2
      have hli := (how.far hk2 (fun g hg hl => by omega)).lies
      rw [← hyy] at hli
      obtain ⟨s, c', e, hM⟩ := Made.of_own Pi.two (own_kept hown hk2 (fun g hg hl => by have := (World.ownsRow.lt hown g hg).1; omega)) rfl (by rw [hyl]; unfold maxLen; omega)
      simp only [Value.slice.injEq] at e
      obtain ⟨rfl, _, rfl⟩ := e
      exact ⟨hli.obs, hli.prs, hM.elems⟩
    · rw [hloop, Nat.sub_self]; rfl

end Go.Proofs.Ytkicpbnphbcdaaa
