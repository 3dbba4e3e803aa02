/-
  What package model's heldDoes leaves at the marks of waiters: one waits, one is told, one gives up.
  Conditions: the thing lies in a block, its waiters in a row of the call's own, 200 at most.
-/
import Derived.Test.YthjblniabnjfhaaModHeld
import Derived.Deep.RegionWith
namespace Go.Proofs.Ythjblniabnjfhaa
open Go.RowKit
set_option linter.unusedSimpArgs false
set_option linter.unusedVariables false

section
variable {W : Nat} {w : World} {b c : Nat} {x : Th} {s : Option Addr}

set_option maxHeartbeats 1000000 in
theorem held_11 (h : BoxT w b x s c) (hO : OwnW W w s c x.ws) (hb : b < W) (hl : x.ws.length ≤ 200) (hne : x.ws ≠ []) (t v : Int) :
    Calls Try.prog 33 #[.pointer (some ⟨b, 0, none⟩), .int .i64 t, .agg #[.int .i64 11, .int .i64 v]] w (Done W w b { x with ws := x.ws.tail }) := by
  obtain ⟨W1, W2, hW1, hW2, hs, hT, hN, ht, hk, hs2⟩ := two_box h t 11 v
  obtain ⟨d0, d1⟩ := hN.cells
  obtain ⟨g, rfl, hg1, hg2, hg3, hR⟩ := (hO.kept hk (fun _ _ f => f)).row hne
  obtain ⟨q, l, hws⟩ : ∃ q l, x.ws = q :: l := by
    cases hx : x.ws with
    | nil => exact absurd hx hne
    | cons q l => exact ⟨q, l, rfl⟩
  have hlen : x.ws.length = l.length + 1 := by rw [hws]; rfl
  have c12 := hT.cells.c12
  have HX : Hid (∀ w', Kept (fun k => k = g) W2 w' → w'.cell? ⟨b, 12, none⟩ = some (.slice (some ⟨g, 0, none⟩) (l.length + 1) c) ∧ w'.frozen? ⟨b, 12, none⟩ = false ∧ BoxT w' b x (some ⟨g, 0, none⟩) c) := Lib.hid (fun w' hk' => by
    have hB := hT.kept hk' (by omega)
    have := hB.cells.c12
    rw [hlen] at this
    exact ⟨this, hB.free 12, hB⟩)
  have HC := Lib.hid (delete_any q l l.length rfl (by omega) g c W2 (by omega) (hws ▸ hR))
  rw [hlen] at c12
  have f12 := hT.free 12
  have HK := Lib.hid hk
  have HT2 : Hid (({ x with ws := x.ws.tail } : Th) = { x with ws := l }) := Lib.hid (by rw [hws]; rfl)
  clear h hO hT hN hk hs2 hR hws hlen hne
  rw [HT2.out]
  go_enter Try.func33, Try.ntmps33
  go_wp2_with fail
  refine HC.out.mono ?_
  rintro e w3 ⟨rfl, hE, hF, hk3⟩
  obtain ⟨x0, x1, hB⟩ := HX.out w3 hk3
  have HD : Hid (Done W w b { x with ws := l } (.returned (.tuple #[])) (w3.setCell ⟨b, 12, none⟩ (.slice (some ⟨g, 0, none⟩) l.length c))) :=
    Lib.hid ⟨rfl, some ⟨g, 0, none⟩, c, hB.setWs _ _ _, (NewW.mk hE (fun _ => ⟨g, rfl, hg1, by have := hk3.size; omega, hF⟩) : NewW W w3 (some ⟨g, 0, none⟩) c l).kept ((Kept.one b w3).sB _ _) (fun g hg e => by omega),
      ((HK.out.mono (fun _ _ f => f.elim)).trans (hk3.mono (fun k _ e => .inr (by omega))) (fun _ _ e => e)).setCell _ _ (fun _ => .inl rfl)⟩
  clear hE hF hk3 hB
  go_wp2_with fail
  go_end0
  exact HD.out

set_option maxHeartbeats 1000000 in
theorem held_13 (h : BoxT w b x s c) (hO : OwnW W w s c x.ws) (hb : b < W) (hl : x.ws.length ≤ 200) (t v : Int) (hne : waitsM x.ws t = true) :
    Calls Try.prog 33 #[.pointer (some ⟨b, 0, none⟩), .int .i64 t, .agg #[.int .i64 13, .int .i64 v]] w (Done W w b { x with ws := others t x.ws }) := by
  obtain ⟨W1, W2, hW1, hW2, hs, hT, hN, ht, hk, hs2⟩ := two_box h t 13 v
  obtain ⟨d0, d1⟩ := hN.cells
  obtain ⟨g, rfl, hg1, hg2, hg3, hR⟩ := (hO.kept hk (fun _ _ f => f)).row (fun e => by rw [e] at hne; cases hne)
  have hg0 : g < w.heap.size := by
    obtain ⟨g', e, _, h4, _⟩ := hO.row (fun e => by rw [e] at hne; cases hne)
    simp only [Option.some.injEq, Addr.mk.injEq, and_true] at e
    omega
  have c12 := hT.cells.c12
  have f12 := hT.free 12
  have HX : Hid (∀ w', Kept (fun k => k = g) W2 w' → w'.cell? ⟨b, 12, none⟩ = some (.slice (some ⟨g, 0, none⟩) x.ws.length c) ∧ w'.frozen? ⟨b, 12, none⟩ = false ∧ BoxT w' b x (some ⟨g, 0, none⟩) c) := Lib.hid (fun w' hk' => by
    have hB := hT.kept hk' (by omega)
    exact ⟨hB.cells.c12, hB.free 12, hB⟩)
  have HC := Lib.hid (strike_any x.ws x.ws.length rfl hl t w.heap.size g c W2 ht (by omega) hg3 hR hne)
  have HK := Lib.hid hk
  clear h hO hT hN hk hs2 hR hne
  go_enter Try.func33, Try.ntmps33
  go_wp2_with fail
  refine HC.out.mono ?_
  rintro e w3 ⟨rfl, hE, hF, hk3⟩
  obtain ⟨x0, x1, hB⟩ := HX.out w3 hk3
  have HD : Hid (Done W w b { x with ws := others t x.ws } (.returned (.tuple #[])) (w3.setCell ⟨b, 12, none⟩ (.slice (some ⟨g, 0, none⟩) (others t x.ws).length c))) :=
    Lib.hid ⟨rfl, some ⟨g, 0, none⟩, c, hB.setWs _ _ _, (NewW.mk hE (fun _ => ⟨g, rfl, hg1, by have := hk3.size; omega, hF⟩) : NewW W w3 (some ⟨g, 0, none⟩) c (others t x.ws)).kept ((Kept.one b w3).sB _ _) (fun g hg e => by omega),
      ((HK.out.mono (fun _ _ f => f.elim)).trans (hk3.mono (fun k _ e => .inr (by omega))) (fun _ _ e => e)).setCell _ _ (fun _ => .inl rfl)⟩
  clear hE hF hk3 hB
  go_wp2_with fail
  go_end0
  exact HD.out

set_option maxRecDepth 100000 in
set_option maxHeartbeats 2000000 in
theorem held_10 (h : BoxT w b x s c) (hO : OwnW W w s c x.ws) (hb : b < W) (hW : W ≤ w.heap.size) (hl : x.ws.length ≤ 200) (t v : Int) :
    Calls Try.prog 33 #[.pointer (some ⟨b, 0, none⟩), .int .i64 t, .agg #[.int .i64 10, .int .i64 v]] w (Done W w b { x with ws := x.ws ++ [⟨t, x.holds⟩], owner := -1, holds := 0 }) := by
  obtain ⟨i2, hi2, hz2, hn2, hb2⟩ := info_parts info_wt
  have HI := Lib.hid hi2; clear hi2
  have HZ := Lib.hid hz2; clear hz2
  have HN2 := Lib.hid hn2; clear hn2
  have HBY := Lib.hid hb2; clear hb2
  obtain ⟨W1, W2, hW1, hW2, hs, hT, hN, ht, hk, hs2⟩ := two_box h t 10 v
  obtain ⟨d0, d1⟩ := hN.cells
  have c3 := hT.cells.c3
  have c12 := hT.cells.c12
  have f12 := hT.free 12
  have hlt := hT.lt
  have HOWN : Hid (W2.ownsRow W 44 2 (.slice s x.ws.length c) x.ws.length (flat Wt.cells x.ws)) := Lib.hid (hO.kept hk (fun _ _ f => f))
  have HEL : Hid (Elems (W2.alloc (.cells #[.int .i64 t, .int .i64 x.holds] 44)).drew (W2.heap.size + 1) (some ⟨W2.heap.size, 0, none⟩) 2 Wt.cells [⟨t, x.holds⟩]) :=
    Lib.hid (Elems.block (f := Wt.cells) (xs := [⟨t, x.holds⟩]) Wt.two (heap_new1 W2 (.cells #[.int .i64 t, .int .i64 x.holds] 44)) rfl (by show 1 ≤ maxLen; decide))
  have hrow : ∀ g, (Value.slice s x.ws.length c).ownBlock = some g → W ≤ g ∧ g < w.heap.size := fun g e => World.ownsRow.lt hO g e
  have HB3 : Hid (∀ w1 w3, Kept (fun _ => False) W2 w1 → w1.grownBy w3 (Value.slice s x.ws.length c).ownBlock → BoxT w3 b x s c) := Lib.hid (fun w1 w3 hk1 hg => by
    have hk3 : Kept (fun g => (Value.slice s x.ws.length c).ownBlock = some g) W2 w3 := (hk1.mono (fun _ _ f => f.elim)).grown hg (fun g _ e => e)
    exact hT.kept hk3 (fun e => by have := hrow b e; omega))
  have HSL : Hid (∀ w1 w3, Kept (fun _ => False) W2 w1 → w1.grownBy w3 (Value.slice s x.ws.length c).ownBlock → w3.frozen? ⟨b, 12, none⟩ = false ∧ w3.cell? ⟨b, 12, none⟩ = some (.slice s x.ws.length c) ∧ w3.frozen? ⟨b, 2, none⟩ = false ∧ w3.cell? ⟨b, 2, none⟩ = some (.int .i64 x.owner) ∧ w3.frozen? ⟨b, 3, none⟩ = false ∧ w3.cell? ⟨b, 3, none⟩ = some (.int .i64 x.holds)) := Lib.hid (fun w1 w3 hk1 hg => by
    have hB := HB3.out w1 w3 hk1 hg
    exact ⟨hB.free 12, hB.cells.c12, hB.free 2, hB.cells.c2, hB.free 3, hB.cells.c3⟩)
  have MO : Hid (∀ w1 w3 v', Kept (fun _ => False) W2 w1 → w3.ownsRow W 44 2 v' (x.ws.length + 1) (flat Wt.cells x.ws ++ flat Wt.cells [⟨t, x.holds⟩]) → w1.grownBy w3 (Value.slice s x.ws.length c).ownBlock → ∃ s' c', v' = .slice s' (x.ws.length + 1) c' ∧
      Done W w b { x with ws := x.ws ++ [⟨t, x.holds⟩], owner := -1, holds := 0 } (.returned (.tuple #[])) (((w3.setCell ⟨b, 12, none⟩ v').setCell ⟨b, 2, none⟩ (.int .i64 (-1))).setCell ⟨b, 3, none⟩ (.int .i64 0))) := Lib.hid (fun w1 w3 v' hk1 g1 g2 => by
    have hB := HB3.out w1 w3 hk1 g2
    have hl2 : (x.ws ++ [(⟨t, x.holds⟩ : Wt)]).length = x.ws.length + 1 := by simp
    rw [show flat Wt.cells x.ws ++ flat Wt.cells [⟨t, x.holds⟩] = flat Wt.cells (x.ws ++ [⟨t, x.holds⟩]) from by simp [flat]] at g1
    obtain ⟨s', c', rfl, _⟩ := Made.of_own Wt.two g1 hl2.symm (by rw [hl2]; unfold maxLen; omega)
    rw [hl2] at g1 ⊢
    have hO3 : OwnW W w3 s' c' (x.ws ++ [⟨t, x.holds⟩]) := by unfold OwnW; rw [hl2]; exact g1
    have hB4 := hB.setWs s' c' (x.ws ++ [⟨t, x.holds⟩])
    rw [hl2] at hB4
    have hk4 : Kept (fun k => k = b) w3 (((w3.setCell ⟨b, 12, none⟩ (.slice s' (x.ws.length + 1) c')).setCell ⟨b, 2, none⟩ (.int .i64 (-1))).setCell ⟨b, 3, none⟩ (.int .i64 0)) := (((Kept.one b w3).sB _ _).sB _ _).sB _ _
    have hk3 : Kept (fun k => k = b ∨ W ≤ k) W2 w3 := (hk1.mono (fun _ _ f => f.elim)).grown g2 (fun g _ e => .inr (hrow g e).1)
    exact ⟨s', c', rfl, rfl, s', c', (hB4.setOwner (-1)).setHolds 0, (hO3.new (by rw [hl2]; unfold maxLen; omega)).kept hk4 (fun g hg e => by omega), ((hk.mono (fun _ _ f => f.elim)).trans hk3 (fun _ _ e => e)).trans hk4 (fun _ _ e => .inl e)⟩)
  have hn1 : x.ws.length + 1 ≤ 201 := by omega
  have hWs : W ≤ W2.heap.size := by omega
  clear h hO hT hN hk hrow HB3 hs2
  go_enter Try.func33, Try.ntmps33
  go_wp2_with fail
  go_region_law (refine step_append_elems (ys := [⟨t, x.holds⟩]) _ (by rfl) _ _ _ (by rfl) W 44 i2 (.agg #[.int .i64 0, .int .i64 0]) 2 16 Try.underlying25 HI.out HZ.out HN2.out HBY.out rfl (by decide) Wt.two (wt_cell _) (.slice s x.ws.length c) x.ws.length (flat Wt.cells x.ws) (by rfl) (by exact (HOWN.out.drew).alloc _) (W2.heap.size + 1) _ 1 (by rfl) (by exact HEL.out) (by show x.ws.length + 1 ≤ maxLen; unfold maxLen; omega) (by show (x.ws.length + 1) * 16 ≤ _; omega) (by simp; omega) ?_; intro v' w3 g1 g2 g3; obtain ⟨f53, c53, f2, c2, f3, c3'⟩ := HSL.out _ _ (((Kept.refl _ _).alloc _).drew) g2; obtain ⟨s', c', rfl, hd⟩ := MO.out _ _ _ (((Kept.refl _ _).alloc _).drew) g1 g2; have HD := Lib.hid hd; clear hd)
  all_goals
    clear g1 g2 g3
    go_wp2_with fail
    go_end0
    exact HD.out

end
end Go.Proofs.Ythjblniabnjfhaa
