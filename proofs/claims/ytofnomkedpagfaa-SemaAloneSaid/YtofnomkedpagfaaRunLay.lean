/-
  What the document's New, Cells and Lay of layer 12 come to.
  Conditions: few cells.
-/
import Derived.Test.YtofnomkedpagfaaMachW
import Derived.Test.YtofnomkedpagfaaZeros
import Derived.LoopTactic
import Derived.RegionTactic
import Derived.Deep.CutBlock
namespace Go.Proofs.Ytofnomkedpagfaa
open Go.RowKit
set_option linter.unusedVariables false
set_option linter.unusedSimpArgs false

theorem info_i64 : (Try.prog.info? 2).map (fun i => (i.zero, i.size, i.bytes)) = some (some (.int .i64 0), 1, 8) := by kernel_rfl
theorem flat_i64 (zs : List Int) : flat intC zs = zs.map (Value.int .i64) := by
  induction zs with
  | nil => rfl
  | cons z zs ih => simp only [flat, List.flatMap_cons, List.map_cons] at ih ⊢; rw [ih]; rfl
/-- A world whose cells are the slice v. -/
structure RWv (P : Wp) (v : Value) (zs : List Int) (ps : List Pk) (w : World) : Prop where
  box : w.heap[P.wb]? = some (.cells #[v, .int .i64 P.most, .pointer (some ⟨P.tb, 0, none⟩)] 66 (0, 0))
  row : w.ownsRow 0 2 1 v zs.length (flat intC zs)
  tab : Ref w P.tb P.tg P.tc P.now ps
  own : ∀ g, v.ownBlock = some g → g ≠ P.wb ∧ g ≠ P.tb ∧ g ≠ P.tg
  ne : P.wb ≠ P.tb ∧ P.wb ≠ P.tg
  most : (zs.length : Int) ≤ P.most ∧ P.most ≤ 4096
section
variable {P : Wp} {v : Value} {zs : List Int} {ps : List Pk} {w w' : World}
theorem RWv.c0 (h : RWv P v zs ps w) : w.cell? ⟨P.wb, 0, none⟩ = some v := by rw [cell_at w P.wb 0 _ _ h.box]; rfl
theorem RWv.f0 (h : RWv P v zs ps w) (o : Nat) : w.frozen? ⟨P.wb, o, none⟩ = false := frozen_at w P.wb o _ _ h.box
theorem RWv.form (h : RWv P v zs ps w) : ∃ ao cap, v = .slice ao zs.length cap := by
  rcases h.row.2 with ⟨rfl, h0⟩ | ⟨g, cap, cur, h3, _⟩
  · exact ⟨none, 0, by rw [h0]⟩
  · exact ⟨_, cap, h3⟩
theorem RWv.rw {g cap : Nat} (h : RWv P (.slice (some ⟨g, 0, none⟩) zs.length cap) zs ps w) : RW P g cap zs ps w :=
  ⟨h.box, h.row, h.tab, ⟨(h.own g rfl).1, (h.own g rfl).2.1, (h.own g rfl).2.2, h.ne.1, h.ne.2⟩, h.most⟩

set_option maxHeartbeats 2000000 in
set_option maxRecDepth 100000 in
theorem cells_any (h : RWv P v zs ps w) (m : Nat) (h1 : 1 ≤ m) (h2 : (m : Int) ≤ P.most - zs.length) :
    Calls Try.prog 23 #[.pointer (some ⟨P.wb, 0, none⟩), .int .i64 m] w fun e w' => e = .returned (.int .i64 (zs.length + 1)) ∧ ∃ g cap, RWv P (.slice (some ⟨g, 0, none⟩) (zs.length + m) cap) (zs ++ List.replicate m 0) ps w' ∧ Kept (fun k => k = P.wb ∨ v.ownBlock = some k) w w' ∧ (v.ownBlock = some g ∨ w.heap.size ≤ g) := by
  obtain ⟨ao, cap, rfl⟩ := h.form
  have hmost := h.most
  have c0 := h.c0
  have f0 := h.f0 0
  obtain ⟨i0, hi, hz0, hz1, hz2⟩ := info_parts info_i64
  have HI := Lib.hid hi; clear hi
  have HZ0 := Lib.hid hz0; clear hz0
  have HZ1 := Lib.hid hz1; clear hz1
  have HZ2 := Lib.hid hz2; clear hz2
  have HH := Lib.hid h; clear h
  have hl4 : (zs.length : Int) ≤ 4096 := by omega
  go_enter Try.func23, Try.ntmps23
  go_wp2_with (at_builtin; refine wpList_append_own_zeros _ rfl (.tmp 16) (.tmp 17) 54 3 rfl 0 2 i0 (.int .i64 0) .i64 .i64 1 8 Try.underlying54 Try.underlying3 HI.out HZ0.out HZ1.out HZ2.out rfl (by decide) (.slice ao zs.length cap) zs.length (flat intC zs) rfl HH.out.row m rfl ?d2 ?d3 ?d4 ?d5 ?d6 ?_)
  case d2 => exact h1
  case d3 => intro u hu; rw [zeroCells_int] at hu; rw [List.eq_of_mem_replicate hu]; rfl
  case d4 => unfold maxLen; omega
  case d5 => omega
  case d6 => exact Nat.zero_le _
  intro v2 w2 hown2 hgrow2 hv2
  obtain ⟨g, cap2, rfl⟩ : ∃ g cap, v2 = .slice (some ⟨g, 0, none⟩) (zs.length + m) cap := by
    rcases hown2.2 with ⟨_, h0⟩ | ⟨g, cap, _, h0, _⟩
    · omega
    · exact ⟨g, cap, h0⟩
  have hgv : (Value.slice ao zs.length cap).ownBlock = some g ∨ g = w.heap.size := by
    rcases hv2 with e | e
    · exact .inl (by rw [← e]; rfl)
    · exact .inr (Option.some.inj e)
  have hk2 : Kept (fun k => (Value.slice ao zs.length cap).ownBlock = some k) w w2 := (Kept.refl _ w).grown hgrow2 (fun k hk e => e)
  have hwb : ¬ ((Value.slice ao zs.length cap).ownBlock = some P.wb) := fun e => (HH.out.own _ e).1 rfl
  have hbl : P.wb < w.heap.size := (Array.getElem?_eq_some_iff.1 HH.out.box).1
  have hb2 := hk2.at_ HH.out.box hwb
  have HF := Lib.hid (show RWv P (.slice (some ⟨g, 0, none⟩) (zs.length + m) cap2) (zs ++ List.replicate m 0) ps (w2.setCell ⟨P.wb, 0, none⟩ (.slice (some ⟨g, 0, none⟩) (zs.length + m) cap2)) ∧ Kept (fun k => k = P.wb ∨ (Value.slice ao zs.length cap).ownBlock = some k) w (w2.setCell ⟨P.wb, 0, none⟩ (.slice (some ⟨g, 0, none⟩) (zs.length + m) cap2)) ∧ ((Value.slice ao zs.length cap).ownBlock = some g ∨ w.heap.size ≤ g) by
    have hk : Kept (fun k => k = P.wb) w2 (w2.setCell ⟨P.wb, 0, none⟩ (.slice (some ⟨g, 0, none⟩) (zs.length + m) cap2)) := (Kept.refl _ w2).setCell _ _ (fun _ => rfl)
    have hgb : g ≠ P.wb ∧ g ≠ P.tb ∧ g ≠ P.tg := by
      rcases hgv with e | e
      · exact HH.out.own g e
      · have := HH.out.tab.lt; omega
    have htab := (HH.out.tab.kept hk2 (fun e => (HH.out.own _ e).2.1 rfl) (fun e => (HH.out.own _ e).2.2 rfl)).kept hk (Ne.symm HH.out.ne.1) (Ne.symm HH.out.ne.2)
    refine ⟨⟨set_cellM hb2, ?_, htab, fun q hq => ?_, HH.out.ne, by rw [List.length_append, List.length_replicate]; omega⟩, (hk2.mono (fun _ _ e => .inr e)).trans hk (fun _ _ e => .inl e), hgv.imp id (fun e => by omega)⟩
    · have e0 : (Builtin.zeroCells #[Value.int .i64 0] m).toList = List.replicate m (Value.int .i64 0) := zeroCells_int m
      rw [e0] at hown2
      rw [List.length_append, List.length_replicate, flat_i64, List.map_append, List.map_replicate, ← flat_i64]
      refine ⟨hown2.1, ?_⟩
      rcases hown2.2 with hn | ⟨g', cap', cur, e, hb, hgg, hrest⟩
      · exact .inl hn
      · simp only [Value.slice.injEq, Option.some.injEq, Addr.mk.injEq, and_true, true_and] at e
        obtain ⟨rfl, rfl⟩ := e
        exact .inr ⟨g, cap2, cur, rfl, Nat.zero_le _, hk.at_ hgg hgb.1, hrest⟩
    · obtain rfl : q = g := by simpa [Value.ownBlock] using hq.symm
      exact hgb)
  have c0' : w2.cell? ⟨P.wb, 0, none⟩ = some (.slice ao zs.length cap) := by rw [cell_at w2 P.wb 0 _ _ hb2]; rfl
  have f0' : w2.frozen? ⟨P.wb, 0, none⟩ = false := frozen_at w2 P.wb 0 _ _ hb2
  clear hown2 hgrow2 hv2 hk2 hb2 hgv c0 f0
  go_wp2_with fail
  go_ret
  exact ⟨rfl, _, _, HF.out⟩
end

theorem info_pk : (Try.prog.info? 112).map (fun i => (i.zero, i.size, i.bytes)) = some (some (.agg #[.bool false, .bool false, .bool false, .int .i64 0]), 4, 16) := by kernel_rfl
/-- Parks at first. -/
theorem parks_made (n : Nat) : (madeCells #[.bool false, .bool false, .bool false, .int .i64 0] (n * 4)).toList = flat Pk.cells (List.replicate n Pk.zero) := by
  apply List.ext_getElem?
  intro k
  have hl := flat_len Pk.four (List.replicate n Pk.zero)
  rw [List.length_replicate] at hl
  by_cases hk : k < n * 4
  · have h1 : (List.replicate n Pk.zero)[k / 4]? = some Pk.zero := by rw [List.getElem?_replicate]; rw [if_pos (by omega)]
    have h2 := flat_at Pk.four (List.replicate n Pk.zero) (k / 4) (k % 4) Pk.zero h1 (by omega)
    rw [show k / 4 * 4 + k % 4 = k from by omega] at h2
    rw [h2]
    have h3 : k % 4 < 4 := by omega
    simp only [madeCells]
    simp [hk]
    generalize k % 4 = j at *
    match j, h3 with
    | 0, _ => rfl
    | 1, _ => rfl
    | 2, _ => rfl
    | 3, _ => rfl
  · rw [List.getElem?_eq_none (by simp [size_madeCells]; omega), List.getElem?_eq_none (by omega)]

set_option maxHeartbeats 2000000 in
set_option maxRecDepth 100000 in
theorem new8 (w : World) : Calls Try.prog 9 #[.int .i64 8] w fun e w' => ∃ wb tb tg, e = .returned (.pointer (some ⟨wb, 0, none⟩)) ∧ RWv ⟨wb, tb, tg, 8, 4096, 0⟩ (.slice none 0 0) [] (List.replicate 8 Pk.zero) w' ∧ Kept (fun _ => False) w w' ∧ w.heap.size ≤ wb ∧ w.heap.size ≤ tb ∧ w.heap.size ≤ tg := by
  obtain ⟨i0, hi, hz0, hz1, hz2⟩ := info_parts info_pk
  have HI := Lib.hid hi; clear hi
  have HZ0 := Lib.hid hz0; clear hz0
  have HZ1 := Lib.hid hz1; clear hz1
  have HZ2 := Lib.hid hz2; clear hz2
  go_enter Try.func9, Try.ntmps9
  go_wp2_with (at_make; refine wpList_make_full _ rfl (.tmp 3) (.tmp 3) 62 rfl 0 112 i0 (.agg #[.bool false, .bool false, .bool false, .int .i64 0]) 4 Try.underlying62 HI.out HZ0.out HZ1.out .i64 .i64 8 8 8 rfl rfl rfl rfl ?c1 ?c2 (Nat.zero_le _) ?_)
  case c1 => rw [HZ2.out]; omega
  case c2 => unfold maxLen; omega
  intro w1 hown hgrow
  have e32 := parks_made 8
  rw [show 8 * 4 = 32 from rfl] at e32
  rw [e32] at hown
  clear e32
  have hR : Row w1 w.heap.size 8 112 4 Pk.cells (List.replicate 8 Pk.zero) := Row.made (by simp) hown
  have hk : Kept (fun _ => False) w w1 := (Kept.refl _ w).grown hgrow (fun _ _ e => by simp at e)
  have hs := hR.lt
  have HF := Lib.hid (show ∀ W, (w1.alloc (.cells #[.slice (some ⟨w.heap.size, 0, none⟩) 8 8, .int .i64 0] 64)).alloc (.cells #[.slice none 0 0, .int .i64 4096, .pointer (some ⟨w1.heap.size, 0, none⟩)] 66) = W →
      RWv ⟨w1.heap.size + 1, w1.heap.size, w.heap.size, 8, 4096, 0⟩ (.slice none 0 0) [] (List.replicate 8 Pk.zero) W ∧ Kept (fun _ => False) w W ∧ w.heap.size ≤ w1.heap.size + 1 ∧ w.heap.size ≤ w1.heap.size ∧ w.heap.size ≤ w.heap.size from fun W hW => by
    have hk2 : Kept (fun _ => False) w1 W := by rw [← hW]; exact ((Kept.refl _ w1).alloc _).alloc _
    have hz := hk.size
    have e1 : (w1.alloc (.cells #[.slice (some ⟨w.heap.size, 0, none⟩) 8 8, .int .i64 0] 64)).heap.size = w1.heap.size + 1 := by simp
    refine ⟨⟨?_, World.ownsRow_nil _ _ _ _, ⟨?_, hR.kept hk2 (fun f => f), by show w.heap.size ≠ w1.heap.size; omega, by simp⟩, fun g e => by simp [Value.ownBlock] at e, ⟨by show w1.heap.size + 1 ≠ w1.heap.size; omega, by show w1.heap.size + 1 ≠ w.heap.size; omega⟩, by simp⟩, hk.tr0 hk2, by omega, hz, Nat.le_refl _⟩
    · show W.heap[w1.heap.size + 1]? = _
      rw [← hW, ← e1]
      exact heap_new1 _ _
    · show W.heap[w1.heap.size]? = _
      rw [← hW]
      exact ((Kept.refl (fun _ => False) _).alloc _).at0 (heap_new1 w1 _))
  clear hown hgrow hR hk hs
  go_wp2_with fail
  go_ret
  exact ⟨_, _, _, rfl, HF.out _ rfl⟩

/-- An object's cells, its queue of nobody behind it. -/
def laidZ (kind n : Int) (fair : Bool) : List Int := [17, 17, n, 0, kind, bitI fair] ++ List.replicate 16 0
section
variable {P : Wp} {ps : List Pk} {w : World}
set_option maxHeartbeats 2000000 in
set_option maxRecDepth 100000 in
theorem lay_any (h : RWv P (.slice none 0 0) [] ps w) (hm : P.most = 4096) (kind n : Int) (fair : Bool) : Calls Try.prog 10 #[.pointer (some ⟨P.wb, 0, none⟩), .agg #[.int .i64 kind, .bool fair, .int .i64 n]] w fun e w' =>
    e = .returned (.int .i64 1) ∧ ∃ g cap, RW P g cap (laidZ kind n fair) ps w' ∧ Kept (fun k => k = P.wb) w w' ∧ w.heap.size ≤ g := by
  have HC1 : Hid (∀ w', Kept (fun _ => False) w w' → Calls Try.prog 23 #[.pointer (some ⟨P.wb, 0, none⟩), .int .i64 16] w' fun e w'' => e = .returned (.int .i64 1) ∧ ∃ g cap, RWv P (.slice (some ⟨g, 0, none⟩) 16 cap) (List.replicate 16 0) ps w'' ∧ Kept (fun k => k = P.wb) w' w'' ∧ w'.heap.size ≤ g) := Lib.hid (fun w' hk =>
    (cells_any (P := P) (v := .slice none 0 0) (zs := []) (ps := ps) (w := w') ⟨hk.at0 h.box, World.ownsRow_nil _ _ _ _, h.tab.kept hk (fun f => f) (fun f => f), h.own, h.ne, h.most⟩ 16 (by decide) (by rw [hm]; simp)).mono (fun e w'' ⟨e1, g, cap, h1, h2, h3⟩ =>
      ⟨e1, g, cap, h1, h2.mono (fun q _ e => e.elim id (fun e => by simp [Value.ownBlock] at e)), h3.elim (fun e => by simp [Value.ownBlock] at e) id⟩))
  have HC2 : Hid (∀ w' g cap, RWv P (.slice (some ⟨g, 0, none⟩) 16 cap) (List.replicate 16 0) ps w' → Calls Try.prog 23 #[.pointer (some ⟨P.wb, 0, none⟩), .int .i64 6] w' fun e w'' => e = .returned (.int .i64 17) ∧ ∃ g2 cap2, RW P g2 cap2 (List.replicate 22 0) ps w'' ∧ Kept (fun k => k = P.wb ∨ k = g) w' w'' ∧ (g2 = g ∨ w'.heap.size ≤ g2)) := Lib.hid (fun w' g cap hr =>
    (cells_any (P := P) (ps := ps) (w := w') hr 6 (by decide) (by rw [hm]; simp)).mono (fun e w'' ⟨e1, g2, cap2, h1, h2, h3⟩ =>
      ⟨e1, g2, cap2, RWv.rw (zs := List.replicate 22 0) h1, h2.mono (fun q _ e => e.imp id (fun e => by simpa [Value.ownBlock] using e.symm)), h3.imp (fun e => by simpa [Value.ownBlock] using e.symm) id⟩))
  have hwbl : P.wb < w.heap.size := (Array.getElem?_eq_some_iff.1 h.box).1
  clear h
  go_enter Try.func10, Try.ntmps10
  go_wp2_with fail
  refine (HC1.out _ ((Kept.refl _ w).alloc _)).mono ?_
  rintro e w1 ⟨rfl, g, cap, hr, hk, hg⟩
  obtain ⟨b, hb⟩ : ∃ b, w.heap.size = b := ⟨_, rfl⟩
  have hbw : b ≠ P.wb := by omega
  have hbo := hk.at_ (heap_new1 w (.cells #[.int .i64 kind, .bool fair, .int .i64 n] 23)) (by show ¬ w.heap.size = P.wb; omega)
  have HK1 := Lib.hid ((((Kept.refl (fun _ => False) w).alloc (.cells #[.int .i64 kind, .bool fair, .int .i64 n] 23)).mono (T := fun k => k = P.wb) (fun _ _ f => f.elim)).trans hk (fun _ _ e => e))
  have HR1 := Lib.hid hr
  have hgb : b < g := by simp at hg; omega
  rw [hb] at hbo ⊢
  clear hr hk hg HC1
  go_wp2_with fail
  refine (HC2.out w1 g cap HR1.out).mono ?_
  rintro e w2 ⟨rfl, g2, cap2, hr2, hk2, hg2⟩
  have hg2b : b < g2 := by
    have := (Array.getElem?_eq_some_iff.1 hbo).1
    rcases hg2 with rfl | h
    · exact hgb
    · omega
  have hbo2 := hk2.at_ hbo (fun e => e.elim hbw (fun e => by omega))
  obtain ⟨o0, o1, o2⟩ := cells3 hbo2
  have HK2 := Lib.hid (show Kept (fun k => k = P.wb) w w2 from (HK1.out.trans hk2 (fun i hi e => e.elim id (fun e => by omega))))
  have HR2 := Lib.hid hr2
  have hn1 : g2 ≠ P.wb := hr2.ne.1
  have hn2 : P.wb ≠ g2 := Ne.symm hn1
  have hn3 : b ≠ g2 := by omega
  have HG : Hid (w.heap.size ≤ g2) := Lib.hid (by omega)
  have c0 : w2.cell? ⟨P.wb, 0, none⟩ = some (.slice (some ⟨g2, 0, none⟩) 22 cap2) := hr2.c0
  have x0 : w2.cell? ⟨g2, 0, none⟩ = some (.int .i64 0) := hr2.at (i := 0) (by decide)
  have x1 : w2.cell? ⟨g2, 1, none⟩ = some (.int .i64 0) := hr2.at (i := 1) (by decide)
  have f0 := hr2.free 0
  have f1 := hr2.free 1
  clear hr2 hk2 hg2 HC2 HR1 HK1 hbo hb hgb
  go_upto_region 6 with fail
  generalize hW : World.setCell (World.setCell w2 _ _) _ _ = W
  have hs : RW P g2 cap2 (((List.replicate 22 (0 : Int)).set 0 17).set 1 17) ps W ∧ Kept (fun k => k = g2) w2 W := by
    obtain ⟨p1, p2⟩ := HR2.out.set (i := 0) (by decide) 17
    obtain ⟨p3, p4⟩ := p1.set (i := 1) (by decide) 17
    rw [hW] at p3 p4
    exact ⟨p3, p2.trans p4 (fun _ _ e => e)⟩
  have HS := Lib.hid hs
  clear hW c0 x0 x1 f0 f1 o0 o1 o2 HR2
  obtain ⟨o0, o1, o2⟩ := cells3 (hs.2.at_ hbo2 hn3)
  have c0 : W.cell? ⟨P.wb, 0, none⟩ = some (.slice (some ⟨g2, 0, none⟩) 22 cap2) := hs.1.c0
  have x2 : W.cell? ⟨g2, 2, none⟩ = some (.int .i64 0) := hs.1.at (i := 2) (by decide)
  have f2 := hs.1.free 2
  clear hs
  go_region
  generalize hW : (World.setCell W _ _).drew = W4
  have hs : RW P g2 cap2 ((((List.replicate 22 (0 : Int)).set 0 17).set 1 17).set 2 n) ps W4 ∧ Kept (fun k => k = g2) w2 W4 := by
    obtain ⟨p1, p2⟩ := HS.out.1.set (i := 2) (by decide) n
    rw [← hW]
    exact ⟨p1.kept0 (Kept.refl _ _).drew, HS.out.2.trans p2.drew (fun _ _ e => e)⟩
  clear HS
  have HS := Lib.hid hs
  clear hW c0 x2 f2 o0 o1 o2
  obtain ⟨o0, o1, o2⟩ := cells3 (hs.2.at_ hbo2 hn3)
  have c0 : W4.cell? ⟨P.wb, 0, none⟩ = some (.slice (some ⟨g2, 0, none⟩) 22 cap2) := hs.1.c0
  have x4 : W4.cell? ⟨g2, 4, none⟩ = some (.int .i64 0) := hs.1.at (i := 4) (by simp)
  have f4 := hs.1.free 4
  clear hs
  go_wp2_with fail
  go_region
  generalize hW : (World.setCell W4 _ _).drew = W5
  have hs : RW P g2 cap2 (((((List.replicate 22 (0 : Int)).set 0 17).set 1 17).set 2 n).set 4 kind) ps W5 ∧ Kept (fun k => k = g2) w2 W5 := by
    obtain ⟨p1, p2⟩ := HS.out.1.set (i := 4) (by simp) kind
    rw [← hW]
    exact ⟨p1.kept0 (Kept.refl _ _).drew, HS.out.2.trans p2.drew (fun _ _ e => e)⟩
  clear HS
  have HS := Lib.hid hs
  clear hW c0 x4 f4 o0 o1 o2
  obtain ⟨o0, o1, o2⟩ := cells3 (hs.2.at_ hbo2 hn3)
  have c0 : W5.cell? ⟨P.wb, 0, none⟩ = some (.slice (some ⟨g2, 0, none⟩) 22 cap2) := hs.1.c0
  have x5 : W5.cell? ⟨g2, 5, none⟩ = some (.int .i64 0) := hs.1.at (i := 5) (by simp)
  have f5 := hs.1.free 5
  clear hs
  have HKF : Hid (∀ W6, Kept (fun k => k = g2) w2 W6 → Kept (fun k => k = P.wb) w W6) := Lib.hid (fun W6 hk => HK2.out.trans hk (fun i hi e => by have := HG.out; omega))
  cases fair with
  | false =>
    have HF := Lib.hid (show RW P g2 cap2 (laidZ kind n false) ps W5 ∧ Kept (fun k => k = P.wb) w W5 ∧ w.heap.size ≤ g2 from ⟨HS.out.1, HKF.out _ HS.out.2, HG.out⟩)
    go_wp2_with fail
    go_ret
    exact ⟨rfl, _, _, HF.out⟩
  | true =>
    have HF : Hid (RW P g2 cap2 (laidZ kind n true) ps (W5.setCell ⟨g2, 5, none⟩ (.int .i64 1)) ∧ Kept (fun k => k = P.wb) w (W5.setCell ⟨g2, 5, none⟩ (.int .i64 1)) ∧ w.heap.size ≤ g2) := Lib.hid (by
      obtain ⟨p1, p2⟩ := HS.out.1.set (i := 5) (by simp) 1
      exact ⟨p1, HKF.out _ (HS.out.2.trans p2 (fun _ _ e => e)), HG.out⟩)
    go_wp2_with fail
    go_ret
    exact ⟨rfl, _, _, HF.out⟩
end

end Go.Proofs.Ytofnomkedpagfaa
