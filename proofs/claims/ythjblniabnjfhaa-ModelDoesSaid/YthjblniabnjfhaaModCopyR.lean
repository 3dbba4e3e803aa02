/-
  The document's Copy of a thing.
  Conditions: the waiters lie in memory, 200 at most.
-/
import Derived.Test.YthjblniabnjfhaaModDo
namespace Go.Proofs.Ythjblniabnjfhaa
open Go.RowKit
set_option linter.unusedSimpArgs false
set_option linter.unusedVariables false

/-- A thing in new memory. -/
def Copied (w : World) (x : Th) (e : Ending) (w' : World) : Prop := ∃ s' c', e = .returned (x.agg s' c') ∧ NewW w.heap.size w' s' c' x.ws ∧ Kept (fun _ => False) w w'

set_option maxHeartbeats 4000000 in
set_option maxRecDepth 100000 in
theorem copyR_any (x : Th) (s : Option Addr) (c : Nat) (w : World) (hl : x.ws.length ≤ 200) (hE : InW w x s) :
    Calls Try.prog 16 #[x.agg s c] w (Copied w x) := by
  obtain ⟨i2, hi2, hz2, hn2, hb2⟩ := info_parts info_wt
  have HI := Lib.hid hi2; clear hi2
  have HZ := Lib.hid hz2; clear hz2
  have HN2 := Lib.hid hn2; clear hn2
  have HBY := Lib.hid hb2; clear hb2
  have k1 : Kept (fun _ => False) w (w.alloc (.cells (x.box s c) 27)) := (Kept.refl _ w).alloc _
  obtain ⟨W1, hW1⟩ : ∃ W1, w.alloc (.cells (x.box s c) 27) = W1 := ⟨_, rfl⟩
  have s1 : W1.heap.size = w.heap.size + 1 := by rw [← hW1]; simp
  have b1 := BoxT.new w x s c
  rw [hW1] at k1 b1
  have k2 : Kept (fun _ => False) W1 (W1.alloc (.cells #[.int .i64 0, .int .i64 0, .int .i64 0, .int .i64 0, .int .i64 0, .int .i64 0, .int .i64 0, .int .i64 0, .int .i64 0, .int .i64 0, .int .i64 0, .int .i64 0, .slice none 0 0, .int .i64 0, .int .i64 0] 27)) := (Kept.refl _ _).alloc _
  have b2 := BoxT.new W1 zeroTh none 0
  obtain ⟨W2, hW2⟩ : ∃ W2, W1.alloc (.cells #[.int .i64 0, .int .i64 0, .int .i64 0, .int .i64 0, .int .i64 0, .int .i64 0, .int .i64 0, .int .i64 0, .int .i64 0, .int .i64 0, .int .i64 0, .int .i64 0, .slice none 0 0, .int .i64 0, .int .i64 0] 27) = W2 := ⟨_, rfl⟩
  have s2 : W2.heap.size = w.heap.size + 1 + 1 := by rw [← hW2]; simp [s1]
  replace b2 : BoxT W2 (w.heap.size + 1) zeroTh none 0 := by rw [← s1, ← hW2]; exact b2
  rw [hW2] at k2
  have hT := b1.kept0 k2
  have hk := k1.tr0 k2
  have hE2 := hE.kept0 hk
  have k3 : Kept (fun _ => False) W2 (W2.alloc (.cells #[] 44)) := (Kept.refl _ _).alloc _
  have hE3 := hE2.kept0 k3
  have c12 := hT.cells.c12
  have hlt := hT.lt
  have HR3 : Hid (∀ v' w4, w4.ownsRow W2.heap.size 44 2 v' x.ws.length (flat Wt.cells x.ws) → (W2.alloc (.cells #[] 44)).grownBy w4 (Value.slice (some ⟨W2.heap.size, 0, none⟩) 0 0).ownBlock → ∃ s' c', v' = .slice s' x.ws.length c' ∧ NewW w.heap.size w4 s' c' x.ws ∧ (∀ g, s' = some ⟨g, 0, none⟩ → x.ws ≠ [] → W2.heap.size ≤ g) ∧ BoxT w4 w.heap.size x s c ∧ BoxT w4 (w.heap.size + 1) zeroTh none 0 ∧ Kept (fun _ => False) w w4) := Lib.hid (fun v' w4 g1 g2 => by
    have hk4 : Kept (fun _ => False) W2 w4 := k3.grown g2 (fun k hk e => by simp [Value.ownBlock] at e; omega)
    obtain ⟨s', c', rfl, _⟩ := Made.of_own Wt.two g1 rfl (by unfold maxLen; omega)
    have hN : NewW W2.heap.size w4 s' c' x.ws := OwnW.new2 g1 hl
    refine ⟨s', c', rfl, hN.since (by omega), fun g e hne => ?_, hT.kept0 hk4, b2.kept0 hk4, hk.tr0 hk4⟩
    obtain ⟨g', e', h1, _⟩ := hN.nw hne
    rw [e] at e'
    simp only [Option.some.injEq, Addr.mk.injEq, and_true] at e'
    omega)
  have HEL := Lib.hid hE3
  have hW : W2.heap.size ≤ (W2.alloc (.cells #[] 44)).heap.size := by simp
  have HW := Lib.hid hW
  have HS2 : Hid (w.heap.size + 2 ≤ W2.heap.size) := Lib.hid (by omega)
  clear k1 b1 k2 b2 hT hk hE hE2 k3 hE3 hW s2
  go_enter Try.func16, Try.ntmps16
  go_wp2_with (at_builtin; refine wpList_append_elems _ (by rfl) _ _ 25 (by rfl) W2.heap.size 44 i2 (.agg #[.int .i64 0, .int .i64 0]) 2 16 Try.underlying25 HI.out HZ.out HN2.out HBY.out rfl (by decide) Wt.two (wt_cell _) _ 0 [] rfl (World.ownsRow_made W2 #[] 0 (Nat.le_refl _) (Nat.zero_le _) rfl) _ _ c rfl HEL.out (by show 0 + x.ws.length ≤ maxLen; unfold maxLen; omega) (by omega) HW.out ?_)
  intro v' w4 g1 g2 _
  obtain ⟨s', c', rfl, hN4, hg4, hB4, hZ4, hk4⟩ := HR3.out v' w4 g1 g2
  obtain ⟨_, _, _, _, _, _, _, _, _, _, _, _, _, _, _⟩ := hB4.cells
  have f12 := hB4.free 12
  obtain ⟨w5, hw5⟩ : ∃ w5, w4.setCell ⟨w.heap.size, 12, none⟩ (.slice s' x.ws.length c') = w5 := ⟨_, rfl⟩
  have hk5 : Kept (fun k => k = w.heap.size) w4 w5 := by rw [← hw5]; exact (Kept.one _ w4).sB _ _
  have hB5 : BoxT w5 w.heap.size x s' c' := by rw [← hw5]; exact hB4.setWs s' c' x.ws
  have hZ5 := hZ4.kept hk5 (by omega)
  obtain ⟨_, _, _, _, _, _, _, _, _, _, _, _, _, _, _⟩ := hB5.cells
  obtain ⟨_, _, _, _, _, _, _, _, _, _, _, _, _, _, _⟩ := hZ5.cells
  obtain ⟨_, _, _, _, _, _, _, _, _, _, _, _, _, _, _⟩ := hZ5.frees
  obtain ⟨W6, hW6, hB6, hk6⟩ := hZ5.put x s' c'
  obtain ⟨e0, e1, e2, e3, e4, e5, e6, e7, e8, e9, e10, e11, e12, e13, e14⟩ := hB6.cells
  have hX : Copied w x (.returned (x.agg s' c')) W6 := by
    have h56 : Kept (fun k => k = w.heap.size ∨ k = w.heap.size + 1) w4 W6 := (hk5.mono (fun _ _ e => .inl e)).trans hk6 (fun _ _ e => .inr e)
    have h7 : Kept (fun k => k = w.heap.size ∨ k = w.heap.size + 1) w W6 := (hk4.mono (fun _ _ f => f.elim)).trans h56 (fun _ _ e => e)
    refine ⟨s', c', rfl, ?_, ⟨h7.os, h7.tape, h7.output, h7.size, fun k hk _ => h7.block k hk (by omega)⟩⟩
    have hN5 : NewW (w.heap.size + 2) w4 s' c' x.ws := ⟨hN4.el, fun hne => by
      obtain ⟨g, hs, h1, h2, h3⟩ := hN4.nw hne
      exact ⟨g, hs, by have := hg4 g hs hne; have := HS2.out; omega, h2, h3⟩⟩
    exact (hN5.kept h56 (fun g hg e => by omega)).since (by omega)
  have HX := Lib.hid hX
  clear g1 g2 hN4 hg4 hB4 hZ4 hk4 hk5 hB5 hZ5 hB6 hk6 hX
  go_wp2_with fail
  exact bodyPost_ret (v := x.agg s' c') (by simp [results, Try.results16, go_sem, e0, e1, e2, e3, e4, e5, e6, e7, e8, e9, e10, e11, e12, e13, e14]) rfl HX.out

end Go.Proofs.Ythjblniabnjfhaa
