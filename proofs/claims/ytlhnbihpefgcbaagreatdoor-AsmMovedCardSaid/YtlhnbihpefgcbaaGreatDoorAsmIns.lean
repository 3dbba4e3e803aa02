/-
  What the program's addIns comes to.
  Conditions: the builder's bounds; the line's names are of at most 24 bytes.
-/
import Derived.Test.YtlhnbihpefgcbaaGreatDoorAsmLab
import Derived.Test.YtlhnbihpefgcbaaGreatDoorLineEq
import Derived.Test.YtlhnbihpefgcbaaGreatDoorDown
import Derived.Deep.RegionHeld3
import Derived.Deep.RegionWith
import Derived.Deep.RegionLaw
import Derived.Lib.Strings
namespace Go.Proofs.YtlhnbihpefgcbaaGreatDoor
open Go.RowKit

theorem byte_no {s : ByteArray} (h : 0 < s.size) : s.toList.isEmpty = false ∧ ¬ s.toList = [] := by
  have e : ¬ s.toList = [] := by
    intro e
    rw [Lib.toList_data] at e
    have := Lib.size_eq s
    rw [e, List.length_nil] at this
    omega
  exact ⟨by rw [List.isEmpty_eq_false_iff]; exact e, e⟩
theorem byte_yes {s : ByteArray} (h : s.size = 0) : s.toList.isEmpty = true ∧ s.toList = [] := by
  have e : s.toList = [] := by
    rw [Lib.toList_data]
    exact List.eq_nil_of_length_eq_zero (by rw [← Lib.size_eq]; exact h)
  exact ⟨by rw [e]; rfl, e⟩
theorem info_jmp : (Tryz.prog.info? 76).map (fun i => (i.zero, i.size, i.bytes)) = some (some (.agg #[.int .i64 0, .int .i64 0, .string { data := #[] }]), 3, 32) := by kernel_rfl
theorem info_ins2 : (Tryz.prog.info? 43).map (fun i => (i.zero, i.size, i.bytes)) = some (some (.agg #[.int .i64 0, .int .i64 0, .int .i64 0, .int .i64 0, .int .i64 0]), 5, 40) := by kernel_rfl

/-- Behind the store of the longer code. -/
theorem code_end {B b m : Nat} {W w3 : World} {s : Bst} {v u q v' : Value} {x : Ln} {W1 : World} (h : Bld B b m W s v u q) (hk1 : Kept (fun _ => False) W W1)
    (h1 : w3.ownsRow B 43 5 v' (s.code.length + 1) (flat insC s.code ++ flat insC [x])) (h2 : W1.grownBy w3 v.ownBlock) (h3 : v'.ownBlock = v.ownBlock ∨ v'.ownBlock = some W1.heap.size) :
    Kept (fun k => v.ownBlock = some k) W w3 ∧ BldTo B b m W v u q (.ok ⟨s.code ++ [x], s.labs, s.jmps, s.line⟩) (.returned .nilIface) (w3.setCell ⟨b, 0, none⟩ v') := by
  obtain ⟨a1, a2, a3, a4, a5, a6, a7, a8, a9⟩ := h.apart
  have k3 : Kept (fun k => v.ownBlock = some k) W w3 := (hk1.mono (fun _ _ f => f.elim)).grown h2 (fun k _ e => e)
  have k34 : Kept (fun k => k = b) w3 (w3.setCell ⟨b, 0, none⟩ v') := (Kept.refl _ w3).setCell _ _ (fun _ => rfl)
  have hbox := k3.at_ h.box a2
  have k4 : Kept (fun k => v.ownBlock = some k ∨ k = b) W (w3.setCell ⟨b, 0, none⟩ v') := (k3.mono (fun k _ e => .inl e)).trans k34 (fun k _ e => .inr e)
  have hub : ∀ g, v'.ownBlock = some g → g ≠ b ∧ (v.ownBlock = some g ∨ W.heap.size ≤ g) := fun g hg => by
    rcases h3 with e | e
    · rw [e] at hg; exact ⟨fun e2 => a2 (by rw [← e2]; exact hg), .inl hg⟩
    · rw [e] at hg
      have hs := hk1.size
      have hbl := (Array.getElem?_eq_some_iff.1 h.box).1
      have := Option.some.inj hg
      exact ⟨by omega, .inr (by omega)⟩
  refine ⟨k3, ?_, v', u, q, rfl, ⟨?_, ?_, ?_, ?_, ?_⟩, ?_⟩
  · exact k4.mono (fun k _ e => by rcases e with e | e; exact .inr (.inr (.inl e)); exact .inl e)
  · exact set_cellB hbox
  · refine row_kept (S := fun k => k = b) (w := w3) ?_ k34 (fun g hg => (hub g hg).1)
    rw [List.length_append, insC_flat]; exact h1
  · exact row_kept h.labs k4 (fun g hg => by rintro (e | e); exact (a8 g e).1 hg; exact a4 (by rw [← e]; exact hg))
  · exact row_kept h.jmps k4 (fun g hg => by rintro (e | e); exact (a8 g e).2 hg; exact a6 (by rw [← e]; exact hg))
  · exact h.names.kept k4 (by rintro (e | e); exact a3 e; exact a1 e.symm)
  · rintro k (rfl | rfl | hk | hk | hk)
    · exact .inl (.inl rfl)
    · exact .inl (.inr (.inl rfl))
    · rcases (hub k hk).2 with e | e
      · exact .inl (.inr (.inr (.inl e)))
      · exact .inr e
    · exact .inl (.inr (.inr (.inr (.inl hk))))
    · exact .inl (.inr (.inr (.inr (.inr hk))))
/-- Behind the store of the longer row of jumps. -/
theorem jmps_end {B b m : Nat} {W w3 : World} {s : Bst} {v u q q' : Value} {j : Nat × Nat × Str} {W1 : World} (h : Bld B b m W s v u q) (hk1 : Kept (fun _ => False) W W1)
    (h1 : w3.ownsRow B 76 3 q' (s.jmps.length + 1) (flat jmpC s.jmps ++ flat jmpC [j])) (h2 : W1.grownBy w3 q.ownBlock) (h3 : q'.ownBlock = q.ownBlock ∨ q'.ownBlock = some W1.heap.size) :
    Kept (fun k => q.ownBlock = some k) W w3 ∧ Bld B b m (w3.setCell ⟨b, 3, none⟩ q') ⟨s.code, s.labs, s.jmps ++ [j], s.line⟩ v u q' ∧ Kept (fun k => q.ownBlock = some k ∨ k = b) W (w3.setCell ⟨b, 3, none⟩ q') ∧
      ∀ k, foot b m v u q' k → foot b m v u q k ∨ W.heap.size ≤ k := by
  obtain ⟨a1, a2, a3, a4, a5, a6, a7, a8, a9⟩ := h.apart
  have k3 : Kept (fun k => q.ownBlock = some k) W w3 := (hk1.mono (fun _ _ f => f.elim)).grown h2 (fun k _ e => e)
  have k34 : Kept (fun k => k = b) w3 (w3.setCell ⟨b, 3, none⟩ q') := (Kept.refl _ w3).setCell _ _ (fun _ => rfl)
  have hbox := k3.at_ h.box a6
  have k4 : Kept (fun k => q.ownBlock = some k ∨ k = b) W (w3.setCell ⟨b, 3, none⟩ q') := (k3.mono (fun k _ e => .inl e)).trans k34 (fun k _ e => .inr e)
  have hub : ∀ g, q'.ownBlock = some g → g ≠ b ∧ (q.ownBlock = some g ∨ W.heap.size ≤ g) := fun g hg => by
    rcases h3 with e | e
    · rw [e] at hg; exact ⟨fun e2 => a6 (by rw [← e2]; exact hg), .inl hg⟩
    · rw [e] at hg
      have hs := hk1.size
      have hbl := (Array.getElem?_eq_some_iff.1 h.box).1
      have := Option.some.inj hg
      exact ⟨by omega, .inr (by omega)⟩
  refine ⟨k3, ⟨?_, ?_, ?_, ?_, ?_⟩, k4, ?_⟩
  · exact set_cellB hbox
  · exact row_kept h.code k4 (fun g hg => by rintro (e | e); exact (a8 g hg).2 e; exact a2 (by rw [← e]; exact hg))
  · exact row_kept h.labs k4 (fun g hg => by rintro (e | e); exact a9 g hg e; exact a4 (by rw [← e]; exact hg))
  · refine row_kept (S := fun k => k = b) (w := w3) ?_ k34 (fun g hg => (hub g hg).1)
    rw [List.length_append, jmpC_flat]; exact h1
  · exact h.names.kept k4 (by rintro (e | e); exact a7 e; exact a1 e.symm)
  · rintro k (rfl | rfl | hk | hk | hk)
    · exact .inl (.inl rfl)
    · exact .inl (.inr (.inl rfl))
    · exact .inl (.inr (.inr (.inl hk)))
    · exact .inl (.inr (.inr (.inr (.inl hk))))
    · rcases (hub k hk).2 with e | e
      · exact .inl (.inr (.inr (.inr (.inr e))))
      · exact .inr e

/-- addIns' end, and its frame there. -/
noncomputable def insTail : Code := down [1, 1, 1, 1, 0] (Tryz.f30.body.getD .skip)
def frI (b g : Nat) (u : Nat → Value) : Act := ⟨#[.pointer (some ⟨b, 0, none⟩), u 1, u 2, .pointer (some ⟨g, 0, none⟩), u 4, u 5, u 6, u 7, u 8, u 9, u 10, u 11, u 12, u 13, u 14, u 15, u 16, u 17, u 18, u 19, u 20, u 21, u 22, u 23, u 24, u 25, u 26, u 27, u 28, u 29, u 30, u 31, u 32, u 33, u 34, u 35, u 36, u 37, u 38, u 39, u 40, u 41, u 42, u 43, u 44, u 45, u 46, u 47, u 48], []⟩
theorem frI_of {b g : Nat} {a : Act} (h : a = frI b g (lett a)) : ∃ u, a = frI b g u := ⟨_, h⟩

set_option maxRecDepth 100000 in
set_option maxHeartbeats 4000000 in
theorem ins_tail {B b m g : Nat} {W : World} {s : Bst} {v u q : Value} {x : Ln} {K : Act → World → Prop} {R : Ending → World → Prop} (h : Bld B b m W s v u q) (hcl : s.code.length ≤ 1024) (hbx : W.heap[g]? = some (.cells (lnCells x) 59 (0, 0))) (hg : v.ownBlock ≠ some g) (hB : B ≤ W.heap.size)
    (hR : ∀ a' w', (∃ lt, a' = frI b g lt) → BldTo B b m W v u q (.ok ⟨s.code ++ [x], s.labs, s.jmps, s.line⟩) (.returned .nilIface) w' → K a' w') (a : Act) (ha : ∃ lt, a = frI b g lt) : Code.wp Tryz.prog insTail (Exit.then K (bodyPost Tryz.prog Tryz.f30 R)) a W := by
  obtain ⟨lt, rfl⟩ := ha
  obtain ⟨i5, hi5, hz5, hn5, hb5⟩ := info_parts info_ins2
  have HI5 := Lib.hid hi5; clear hi5
  have HZ5 := Lib.hid hz5; clear hz5
  have HN5 := Lib.hid hn5; clear hn5
  have HB5 := Lib.hid hb5; clear hb5
  obtain ⟨sv, cv, rfl, _⟩ := Made.of_own insC_five h.code rfl (by unfold maxLen; omega)
  have H := Lib.hid h
  have HR := Lib.hid hR
  have SF : Hid (∀ w', Kept (fun k => (Value.slice sv s.code.length cv).ownBlock = some k) W w' → w'.cell? ⟨b, 0, none⟩ = some (.slice sv s.code.length cv) ∧ w'.frozen? ⟨b, 0, none⟩ = false ∧ w'.cell? ⟨g, 1, none⟩ = some (.int .i64 x.op) ∧
      w'.cell? ⟨g, 2, none⟩ = some (.int .i64 x.a) ∧ w'.cell? ⟨g, 3, none⟩ = some (.int .i64 x.b) ∧ w'.cell? ⟨g, 4, none⟩ = some (.int .i64 x.c) ∧ w'.cell? ⟨g, 5, none⟩ = some (.int .i64 x.n)) := Lib.hid (fun w' hk => by
    have hbb := hk.at_ H.out.box H.out.apart.2.1
    have hb2 := hk.at_ hbx hg
    obtain ⟨⟨_, e1, e2, e3, e4, e5, _⟩, _⟩ := cells7 hb2
    exact ⟨by rw [cell_at w' _ 0 _ _ hbb]; rfl, frozen_at w' _ 0 _ _ hbb, e1, e2, e3, e4, e5⟩)
  have HEL : Hid (Elems (W.alloc (.cells #[.int .i64 x.op, .int .i64 x.a, .int .i64 x.b, .int .i64 x.c, .int .i64 x.n] 43)).drew (W.heap.size + 1) (some ⟨W.heap.size, 0, none⟩) 5 insC [x]) :=
    Lib.hid (Elems.block (f := insC) (xs := [x]) insC_five (heap_new1 W (.cells #[.int .i64 x.op, .int .i64 x.a, .int .i64 x.b, .int .i64 x.c, .int .i64 x.n] 43)) rfl (by show 1 ≤ maxLen; decide))
  obtain ⟨c0, c00, c1, c2, c3, c4, c5⟩ := SF.out _ (Kept.refl _ W)
  obtain ⟨k0, k00, k1, k2, k3, k4, k5⟩ := SF.out _ (Kept.refl _ W).drew
  obtain ⟨l0, l00, l1, l2, l3, l4, l5⟩ := SF.out _ ((Kept.refl _ W).alloc (.cells #[.int .i64 x.op, .int .i64 x.a, .int .i64 x.b, .int .i64 x.c, .int .i64 x.n] 43))
  clear h hR hbx hg
  unfold frI
  conv => arg 2; whnf
  go_wp2_with fail
  go_region_law (refine step_append_elems (ys := [x]) _ (by rfl) _ _ _ (by rfl) B 43 i5 (.agg #[.int .i64 0, .int .i64 0, .int .i64 0, .int .i64 0, .int .i64 0]) 5 40 Tryz.underlying25 HI5.out HZ5.out HN5.out HB5.out rfl (by decide) insC_five (insC_cell _) (.slice sv s.code.length cv) s.code.length (flat insC s.code) (by rfl) (by exact (H.out.code.drew).alloc _) (W.heap.size + 1) _ 1 (by rfl) (by exact HEL.out) (by show s.code.length + 1 ≤ maxLen; unfold maxLen; omega) (by show (s.code.length + 1) * 40 ≤ _; omega) (by simp; omega) ?_; intro v' w3 h1 h2 h3; obtain ⟨hk3, hend⟩ := code_end H.out (((Kept.refl _ W).alloc _).drew) h1 h2 h3; obtain ⟨gv, cv', rfl, _⟩ := own_form h1 (by simp); obtain ⟨d0, d00, _⟩ := SF.out _ hk3)
  all_goals (have HF := Lib.hid hend; clear hend)
  all_goals go_wp2_with fail
  all_goals exact HR.out _ _ (frI_of (by kernel_rfl)) HF.out

set_option maxRecDepth 100000 in
set_option maxHeartbeats 4000000 in
theorem addIns_any {B b m : Nat} {w : World} {s : Bst} {v u q : Value} (h : Bld B b m w s v u q) (hok : BldOk s) (x : Ln) (hB : B ≤ w.heap.size) :
    Calls Tryz.prog 30 #[.pointer (some ⟨b, 0, none⟩), lineV x] w (BldTo B b m w v u q (addInsA s x)) := by
  obtain ⟨i6, hi6, hz6, hn6, hb6⟩ := info_parts info_jmp
  have HI6 := Lib.hid hi6; clear hi6
  have HZ6 := Lib.hid hz6; clear hz6
  have HN6 := Lib.hid hn6; clear hn6
  have HB6 := Lib.hid hb6; clear hb6
  obtain ⟨W0, hW0⟩ : ∃ W0, w.alloc (.cells (lnCells x) 59) = W0 := ⟨_, rfl⟩
  have hk0 : Kept (fun _ => False) w W0 := by rw [← hW0]; exact (Kept.refl _ w).alloc _
  have hbx : W0.heap[w.heap.size]? = some (.cells (lnCells x) 59 (0, 0)) := by rw [← hW0]; exact heap_new1 w _
  have hs0 : W0.heap.size = w.heap.size + 1 := by rw [← hW0]; simp
  have hh := h.kept hk0 (fun _ _ f => f)
  obtain ⟨sv, cv, hv, _⟩ := Made.of_own insC_five hh.code rfl (by have := hok.code; unfold maxLen; omega)
  obtain ⟨sq, cq, hq, _⟩ := Made.of_own jmpC_three hh.jmps rfl (by have := hok.code; have := hok.jmps; unfold maxLen; omega)
  subst hv hq
  obtain ⟨⟨c0, c1, c2, c3, c4⟩, hfr⟩ := hh.cells
  have f3 := hfr 3
  have f0 := hfr 0
  obtain ⟨⟨y0, y1, y2, y3, y4, y5, y6⟩, _⟩ := cells7 hbx
  have H := Lib.hid hh
  have HH := Lib.hid h
  have hln := hok.line
  have hjl := hok.jmps
  have hcl := hok.code
  have HK0 := Lib.hid hk0
  clear h hok hfr hh hk0
  by_cases hfull : s.code.length = 1024
  case pos =>
    have q7 : ((s.code.length : Int) == 1024) = true := by rw [beq_iff_eq]; omega
    have HR : Hid (addInsA s x = .error (8, s.line)) := Lib.hid (by unfold addInsA; rw [if_pos hfull])
    have HS := Lib.hid (fun w' => spot_any s.line 8 w')
    clear hfull
    go_enter Tryz.func30, Tryz.ntmps30
    go_wp2_with fail
    refine (HS.out _).mono ?_
    rintro e w' ⟨rfl, rfl⟩
    go_wp2_with fail
    go_ret
    exact ⟨(HK0.out.mono (fun _ _ f => f.elim)).alloc _, by rw [HR.out]; exact ⟨w.heap.size + 1, by omega, rfl, by have := heap_new1 W0 (.cells (spotC (8, s.line)) 67); rw [hs0] at this; exact this, s.line, by omega, ((Kept.refl (fun _ => False) W0).alloc _).at_ H.out.box (fun f => f)⟩⟩
  have q7 : ((s.code.length : Int) == 1024) = false := by rw [beq_eq_false_iff_ne]; omega
  have hvl : (Value.slice sv s.code.length cv).ownBlock ≠ some w.heap.size := fun e => by have := HH.out.low _ (.inr (.inr (.inl e))); omega
  have hBW : B ≤ W0.heap.size := by omega
  have HUP : Hid (∀ r e w', BldTo B b m W0 (.slice sv s.code.length cv) u (.slice sq s.jmps.length cq) r e w' → BldTo B b m w (.slice sv s.code.length cv) u (.slice sq s.jmps.length cq) r e w') := Lib.hid (fun r e w' h => by
    refine ⟨(HK0.out.mono (fun _ _ f => f.elim)).trans h.1 (fun _ _ f => f), ?_⟩
    have h2 := h.2
    cases r with
    | error p => obtain ⟨g, h3, h4⟩ := h2; exact ⟨g, by omega, h4⟩
    | ok s' => obtain ⟨v', u', q', h3, h4, h5⟩ := h2; exact ⟨v', u', q', h3, h4, fun k hk => (h5 k hk).imp id (fun h => by omega)⟩)
  by_cases htar : x.target = []
  case pos =>
    have HR : Hid (addInsA s x = .ok ⟨s.code ++ [x], s.labs, s.jmps, s.line⟩) := Lib.hid (by unfold addInsA; rw [if_neg hfull, if_neg (by simp [htar])])
    obtain ⟨z1, z2⟩ := byte_yes (s := strS x.target) (by rw [htar]; rfl)
    have HF : Hid (∀ w', BldTo B b m W0 (.slice sv s.code.length cv) u (.slice sq s.jmps.length cq) (.ok ⟨s.code ++ [x], s.labs, s.jmps, s.line⟩) (.returned .nilIface) w' → BldTo B b m w (.slice sv s.code.length cv) u (.slice sq s.jmps.length cq) (addInsA s x) (.returned .nilIface) w') :=
      Lib.hid (fun w' h => by rw [HR.out]; exact HUP.out _ _ _ h)
    clear hfull htar
    go_enter Tryz.func30, Tryz.ntmps30
    go_wp2_with fail
    refine ins_tail H.out hcl hbx hvl hBW ?_ _ (frI_of (by kernel_rfl))
    rintro a' w' ⟨lt, rfl⟩ hw
    have HW := Lib.hid (HF.out _ hw)
    clear hw HF
    unfold frI
    go_wp2_with fail
    go_ret
    exact HW.out
  have HR : Hid (addInsA s x = .ok ⟨s.code ++ [x], s.labs, s.jmps ++ [(s.code.length, s.line, x.target)], s.line⟩) := Lib.hid (by unfold addInsA; rw [if_neg hfull, if_pos htar])
  obtain ⟨z1, z2⟩ := byte_no (s := strS x.target) (by rw [strS_size]; exact List.length_pos_iff.2 htar)
  have SF : Hid (∀ w', Kept (fun k => (Value.slice sq s.jmps.length cq).ownBlock = some k) W0 w' → w'.cell? ⟨b, 3, none⟩ = some (.slice sq s.jmps.length cq) ∧ w'.frozen? ⟨b, 3, none⟩ = false ∧ w'.cell? ⟨b, 4, none⟩ = some (.int .i64 s.line) ∧
      w'.cell? ⟨w.heap.size, 6, none⟩ = some (.string (strS x.target))) := Lib.hid (fun w' hk => by
    have hbb := hk.at_ H.out.box H.out.apart.2.2.2.2.2.1
    have hb2 := hk.at_ hbx (fun e => by have := HH.out.low _ (.inr (.inr (.inr (.inr e)))); omega)
    obtain ⟨⟨_, _, _, _, _, _, e6⟩, _⟩ := cells7 hb2
    exact ⟨by rw [cell_at w' _ 3 _ _ hbb]; rfl, frozen_at w' _ 3 _ _ hbb, by rw [cell_at w' _ 4 _ _ hbb]; rfl, e6⟩)
  have HEL : Hid (Elems (W0.alloc (.cells #[.int .i64 s.code.length, .int .i64 s.line, .string (strS x.target)] 76)).drew (W0.heap.size + 1) (some ⟨w.heap.size + 1, 0, none⟩) 3 jmpC [(s.code.length, s.line, x.target)]) := Lib.hid (by
    have := Elems.block (f := jmpC) (xs := [(s.code.length, s.line, x.target)]) jmpC_three (heap_new1 W0 (.cells #[.int .i64 s.code.length, .int .i64 s.line, .string (strS x.target)] 76)) rfl (by show 1 ≤ maxLen; decide)
    rw [hs0] at this ⊢
    exact this)
  obtain ⟨k0, k00, k1, k2⟩ := SF.out _ (Kept.refl _ W0).drew
  obtain ⟨l0, l00, l1, l2⟩ := SF.out _ ((Kept.refl _ W0).alloc (.cells #[.int .i64 s.code.length, .int .i64 s.line, .string (strS x.target)] 76))
  have HBX := Lib.hid hbx
  have HT : Hid (∀ (w3 : World) (q' : Value) (w' : World), Kept (fun k => (Value.slice sq s.jmps.length cq).ownBlock = some k ∨ k = b) W0 (w3.setCell ⟨b, 3, none⟩ q') →
      (∀ k, foot b m (.slice sv s.code.length cv) u q' k → foot b m (.slice sv s.code.length cv) u (.slice sq s.jmps.length cq) k ∨ W0.heap.size ≤ k) →
      BldTo B b m (w3.setCell ⟨b, 3, none⟩ q') (.slice sv s.code.length cv) u q' (.ok ⟨s.code ++ [x], s.labs, s.jmps ++ [(s.code.length, s.line, x.target)], s.line⟩) (.returned .nilIface) w' →
      BldTo B b m w (.slice sv s.code.length cv) u (.slice sq s.jmps.length cq) (addInsA s x) (.returned .nilIface) w') := Lib.hid (fun w3 q' w' hk hf h => by
    rw [HR.out]
    refine HUP.out _ _ _ ⟨(hk.mono (fun k _ e => ?_)).trans h.1 (fun k hk2 e => ?_), ?_⟩
    · exact e.elim (fun e => .inr (.inr (.inr (.inr e)))) .inl
    · exact (hf k e).elim id (fun h => by omega)
    · obtain ⟨v2, u2, q2, h3, h4, h5⟩ := h.2
      exact ⟨v2, u2, q2, h3, h4, fun k hk2 => (h5 k hk2).elim (fun e => hf k e) (fun e => .inr (Nat.le_trans hk.size e))⟩)
  have HX : Hid (∀ (w3 : World) (q' : Value), Kept (fun k => (Value.slice sq s.jmps.length cq).ownBlock = some k ∨ k = b) W0 (w3.setCell ⟨b, 3, none⟩ q') → (w3.setCell ⟨b, 3, none⟩ q').heap[w.heap.size]? = some (.cells (lnCells x) 59 (0, 0)) ∧ B ≤ (w3.setCell ⟨b, 3, none⟩ q').heap.size) := Lib.hid (fun w3 q' hk => by
    have hbl := (Array.getElem?_eq_some_iff.1 HH.out.box).1
    refine ⟨hk.at_ HBX.out (fun e => ?_), Nat.le_trans hBW hk.size⟩
    rcases e with e | e
    · have := HH.out.low _ (.inr (.inr (.inr (.inr e)))); omega
    · omega)
  have HVL := Lib.hid hvl
  clear hfull htar hbx hvl
  go_enter Tryz.func30, Tryz.ntmps30
  go_wp2_with fail
  go_region_law (refine step_append_elems (ys := [(s.code.length, s.line, x.target)]) _ (by rfl) _ _ _ (by rfl) B 76 i6 (.agg #[.int .i64 0, .int .i64 0, .string { data := #[] }]) 3 32 Tryz.underlying49 HI6.out HZ6.out HN6.out HB6.out rfl (by decide) jmpC_three (jmpC_cell _) (.slice sq s.jmps.length cq) s.jmps.length (flat jmpC s.jmps) (by rfl) (by exact (H.out.jmps.drew).alloc _) (W0.heap.size + 1) _ 1 (by rfl) (by exact HEL.out) (by show s.jmps.length + 1 ≤ maxLen; unfold maxLen; omega) (by show (s.jmps.length + 1) * 32 ≤ _; omega) (by simp; omega) ?_; intro q' w3 h1 h2 h3; obtain ⟨hk3, hb3, hk4, hf4⟩ := jmps_end H.out (((Kept.refl _ W0).alloc _).drew) h1 h2 h3; obtain ⟨gq, cq', rfl, _⟩ := own_form h1 (by simp); obtain ⟨d0, d00, _⟩ := SF.out _ hk3)
  all_goals (have HB := Lib.hid hb3; have HK4 := Lib.hid hk4; have HF4 := Lib.hid hf4; have HXX := Lib.hid (HX.out _ _ hk4); clear hb3 hk3 hk4 hf4 h1 h2 h3)
  all_goals go_wp2_with fail
  all_goals (refine ins_tail HB.out hcl HXX.out.1 HVL.out HXX.out.2 ?_ _ (frI_of (by kernel_rfl)))
  all_goals (rintro a' w' ⟨lt, rfl⟩ hw)
  all_goals (have HW := Lib.hid (HT.out _ _ _ HK4.out HF4.out hw); clear hw HT HB HK4 HF4 HXX)
  all_goals unfold frI
  all_goals go_wp2_with fail
  all_goals go_ret
  all_goals exact HW.out

end Go.Proofs.YtlhnbihpefgcbaaGreatDoor
