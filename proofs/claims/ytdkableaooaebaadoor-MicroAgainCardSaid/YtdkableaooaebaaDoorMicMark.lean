/-
  What the program's act comes to at an instruction that does nothing but a register, and at a mark.
  Conditions: the step's row of frames has 1 to 16 of them; registers' numbers are below 16; the thread is there; at most 1000 marks.
-/
import Derived.Test.YtdkableaooaebaaDoorMicAct
namespace Go.Proofs.YtdkableaooaebaaDoor
open Go.RowKit

section
variable {L : Sp} {col : Nat → Nat} {k : Kp} {d : Nat} {s : Ms} {w : World}
theorem val_keeps (most now : Int) (self : Nat) (x : Ix) (s : Ms) : (valM most now self x s).2.f = s.f ∧ (valM most now self x s).2.bs = s.bs ∧ (valM most now self x s).2.ns = s.ns := by
  unfold valM
  repeat' split
  all_goals first | exact ⟨rfl, rfl, rfl⟩ | (unfold allocM; split <;> exact ⟨rfl, rfl, rfl⟩)

set_option maxHeartbeats 1000000 in
theorem act_val (h : On L col k d s w) (hbl : s.bs.length ≤ 15) (op : Int) (a b c : Nat) (n : Int) (ha : a < 16) (hb : b < 16) (hc : c < 16) (h0 : 0 ≤ L.most) (h1 : L.most ≤ 4096) {p : Pk} (hp : s.ps[L.self]? = some p)
    (hop : op = 1 ∨ op = 2 ∨ op = 3 ∨ op = 4 ∨ op = 16 ∨ op = 17 ∨ op = 18 ∨ op = 19) :
    Calls Tryd.prog 38 #[.pointer (some ⟨L.sb, 0, none⟩), .agg #[.int .i64 op, .int .i64 a, .int .i64 b, .int .i64 c, .int .i64 n]] w fun e w' => e = .returned (.int .i64 0) ∧ OnMo L col d w ((valM L.most L.now L.self ⟨op, a, b, c, n⟩ s).2.put a (valM L.most L.now L.self ⟨op, a, b, c, n⟩ s).1) w' := by
  have e5 : (op == 5) = false := by rw [beq_eq_false_iff_ne]; omega
  have e6 : (op == 6) = false := by rw [beq_eq_false_iff_ne]; omega
  have e7 : (op == 7) = false := by rw [beq_eq_false_iff_ne]; omega
  have e14 : (op == 14) = false := by rw [beq_eq_false_iff_ne]; omega
  have e15 : (op == 15) = false := by rw [beq_eq_false_iff_ne]; omega
  have e20 : (op == 20) = false := by rw [beq_eq_false_iff_ne]; omega
  have e21 : (op == 21) = false := by rw [beq_eq_false_iff_ne]; omega
  have e22 : (op == 22) = false := by rw [beq_eq_false_iff_ne]; omega
  have H := Lib.hid h
  have h2 := h.alloc (.cells #[.int .i64 op, .int .i64 a, .int .i64 b, .int .i64 c, .int .i64 n] 46)
  have HKK := Lib.hid ((Kept.refl (fun _ => False) w).alloc (.cells #[.int .i64 op, .int .i64 a, .int .i64 b, .int .i64 c, .int .i64 n] 46))
  have HBB := Lib.hid (heap_new1 w (.cells #[.int .i64 op, .int .i64 a, .int .i64 b, .int .i64 c, .int .i64 n] 46))
  have HLA := Lib.hid (last_any h2 hbl)
  have HH := Lib.hid h2
  have HC0 := Lib.hid (h.new w.heap.size (Nat.le_refl _))
  clear h2 h
  go_enter Tryd.func38, Tryd.ntmps38
  go_wp2_with fail
  refine (HLA.out).mono ?_
  rintro e w1 ⟨rfl, hk1⟩
  have H1 := Lib.hid (HH.out.kept0 hk1)
  have HK1 := Lib.hid (HKK.out.trans hk1 (fun _ _ f => f))
  have HB1 := Lib.hid (hk1.at0 HBB.out)
  obtain ⟨b0, b1, b2, b3, b4, _⟩ := cells5 HB1.out
  clear hk1 HLA HBB HKK HH
  have HA := Lib.hid (value_any H1.out.drew hbl op a b c n hb hc h0 h1 hp hop)
  obtain ⟨v, hv⟩ : ∃ v, (valM L.most L.now L.self ⟨op, a, b, c, n⟩ s) = v := ⟨_, rfl⟩
  have hkeep := val_keeps L.most L.now L.self ⟨op, a, b, c, n⟩ s
  rw [hv] at HA hkeep
  have HV := Lib.hid hv; clear hv
  have HKE := Lib.hid hkeep; clear hkeep hop
  have v0 : ((a : Nat) : Int) < 16 := by omega
  have HF : Hid (∀ w2, OnAr L col k d w1.drew v.2 w2 → w2.cell? ⟨k.fg, s.bs.length * 17 + 1 + a, none⟩ = some (.int .i64 (s.f.r a)) ∧ w2.frozen? ⟨k.fg, s.bs.length * 17 + 1 + a, none⟩ = false ∧ w2.cell? ⟨w.heap.size, 1, none⟩ = some (.int .i64 a) ∧
      OnMo L col d w (v.2.put a v.1) ((w2.setCell ⟨k.fg, s.bs.length * 17 + 1 + a, none⟩ (.int .i64 v.1)))) := Lib.hid (fun w2 ho => by
    obtain ⟨col', og', h3, h4⟩ := ho
    obtain ⟨e1, e2, _⟩ := HKE.out
    have x0 := h3.regAt (j := a) ha
    have f0 := h3.free (s.bs.length * 17 + 1 + a)
    rw [e1, e2] at x0
    obtain ⟨_, b1, _⟩ := cells5 (h4.at_ (((Kept.refl (fun _ => False) w1).drew).at0 HB1.out) HC0.out)
    obtain ⟨h5, h6⟩ := h3.put ha v.1
    refine ⟨x0, f0, b1, col', _, (by rw [← e2]; exact h5), (by rw [← e2]; exact ((Goes.of0 HK1.out.drew).trans h4).trans h6)⟩)
  go_wp2_with fail
  go_region_with (go_at_call 48; refine HA.out.mono ?_; rintro e w2 ⟨rfl, ho⟩; obtain ⟨x0, f0, q1, hx⟩ := HF.out _ ho; have HX := Lib.hid hx; clear ho hx)
  all_goals go_wp2_with fail
  all_goals go_ret
  all_goals exact ⟨rfl, by rw [HV.out]; exact HX.out⟩

theorem info_note : (Tryd.prog.info? 78).map (fun i => (i.zero, i.size, i.bytes)) = some (some (.agg #[.int .i64 0, .int .i64 0]), 2, 16) := by kernel_rfl
theorem nt_cell (xs : List Nt) : ∀ u ∈ flat Nt.cells xs, u.oneCell' = true := by
  intro u hu
  simp only [flat, List.mem_flatMap, Nt.cells, List.mem_cons, List.not_mem_nil, or_false] at hu
  obtain ⟨x, _, h | h⟩ := hu <;> subst h <;> rfl

set_option maxRecDepth 100000 in
set_option maxHeartbeats 2000000 in
theorem act_21 (h : On L col k d s w) (hbl : s.bs.length ≤ 15) (a : Nat) (b : Int) (c : Int) (n : Int) (ha : a < 16) (hnl : s.ns.length ≤ 1000) :
    Calls Tryd.prog 38 #[.pointer (some ⟨L.sb, 0, none⟩), .agg #[.int .i64 21, .int .i64 a, .int .i64 b, .int .i64 c, .int .i64 n]] w fun e w' => e = .returned (.int .i64 0) ∧ OnMo L col d w (s.note n (s.f.r a)) w' := by
  obtain ⟨i2, hi2, hz2, hn2, hb2⟩ := info_parts info_note
  have HI := Lib.hid hi2; clear hi2
  have HZ := Lib.hid hz2; clear hz2
  have HN := Lib.hid hn2; clear hn2
  have HBY := Lib.hid hb2; clear hb2
  obtain ⟨ao, cap, hnv, _⟩ := nt_form h.nt
  have HNV := Lib.hid hnv; clear hnv
  have H := Lib.hid h
  have h2 := h.alloc (.cells #[.int .i64 21, .int .i64 a, .int .i64 b, .int .i64 c, .int .i64 n] 46)
  have HKK := Lib.hid ((Kept.refl (fun _ => False) w).alloc (.cells #[.int .i64 21, .int .i64 a, .int .i64 b, .int .i64 c, .int .i64 n] 46))
  have HBB := Lib.hid (heap_new1 w (.cells #[.int .i64 21, .int .i64 a, .int .i64 b, .int .i64 c, .int .i64 n] 46))
  have HLA := Lib.hid (last_any h2 hbl)
  have HH := Lib.hid h2
  have HC0 := Lib.hid (h.new w.heap.size (Nat.le_refl _))
  clear h2 h
  go_enter Tryd.func38, Tryd.ntmps38
  go_wp2_with fail
  refine (HLA.out).mono ?_
  rintro e w1 ⟨rfl, hk1⟩
  have H1 := Lib.hid (HH.out.kept0 hk1)
  have HK1 := Lib.hid (HKK.out.trans hk1 (fun _ _ f => f))
  have HB1 := Lib.hid (hk1.at0 HBB.out)
  obtain ⟨b0, b1, b2, b3, b4, _⟩ := cells5 HB1.out
  have y0 := H1.out.regAt (j := a) ha
  have z0 : ((a : Nat) : Int) < 16 := by omega
  clear hk1 HLA HBB HKK HH
  have c5 := H1.out.cells.1.2.2.2.2.2.1
  rw [HNV.out] at c5
  have f5 := H1.out.cells.2 5
  obtain ⟨r, hr⟩ : ∃ r, s.f.r a = r := ⟨_, rfl⟩
  rw [hr] at y0
  have HR := Lib.hid hr; clear hr
  obtain ⟨m, hm⟩ : ∃ m, s.ns.length = m := ⟨_, rfl⟩
  rw [hm] at c5 hnl HNV
  have HM := Lib.hid hm; clear hm
  have HEL : Hid (Elems (w1.alloc (.cells #[.int .i64 n, .int .i64 r] 78)).drew (w1.heap.size + 1) (some ⟨w1.heap.size, 0, none⟩) 2 Nt.cells [⟨n, r⟩]) :=
    Lib.hid (Elems.block (f := Nt.cells) (xs := [⟨n, r⟩]) Nt.two (heap_new1 w1 (.cells #[.int .i64 n, .int .i64 r] 78)) rfl (by show 1 ≤ maxLen; decide))
  have HOWN : Hid (w1.ownsRow 0 78 2 (.slice ao m cap) m (flat Nt.cells s.ns)) := Lib.hid (by
    have h3 := H1.out.nt
    rw [HNV.out, HM.out] at h3
    exact h3)
  have hlt := H1.out.lts.1
  have HSL : Hid (∀ W1 w3, Kept (fun _ => False) w1 W1 → W1.grownBy w3 (Value.slice ao m cap).ownBlock → w3.frozen? ⟨L.sb, 5, none⟩ = false ∧ w3.cell? ⟨L.sb, 5, none⟩ = some (.slice ao m cap)) := Lib.hid (fun W1 w3 hk hg => by
    have hk3 : Kept (fun g => (Value.slice ao m cap).ownBlock = some g) w1 w3 := (hk.mono (fun _ _ f => f.elim)).grown hg (fun g _ e => e)
    have hn : ¬ ((Value.slice ao m cap).ownBlock = some L.sb) := fun e => by
      have h1 := H1.out.c1
      rw [H1.out.c3 L.sb (by rw [HNV.out]; exact e)] at h1
      cases h1
    rw [hk3.frozen (p := ⟨L.sb, 5, none⟩) hlt hn, hk3.cell (p := ⟨L.sb, 5, none⟩) hlt hn]
    exact ⟨f5, c5⟩)
  have MO : Hid (∀ W1 w3 v', Kept (fun _ => False) w1 W1 → w3.ownsRow 0 78 2 v' (m + 1) (flat Nt.cells s.ns ++ flat Nt.cells [⟨n, r⟩]) → W1.grownBy w3 (Value.slice ao m cap).ownBlock → (v'.ownBlock = (Value.slice ao m cap).ownBlock ∨ v'.ownBlock = some W1.heap.size) →
      OnMo L col d w (s.note n (s.f.r a)) (w3.setCell ⟨L.sb, 5, none⟩ v')) := Lib.hid (fun W1 w3 v' hk g1 g2 g3 => by
    rw [HR.out]
    rw [← HM.out] at g1
    rw [← HNV.out] at g2 g3
    obtain ⟨col', h3, h4⟩ := H1.out.mark hk ⟨n, r⟩ g1 g2 g3
    exact ⟨col', _, h3, (Goes.of0 HK1.out).trans h4⟩)
  go_wp2_with fail
  go_region_law (refine step_append_elems (ys := [⟨n, r⟩]) _ (by rfl) _ _ _ (by rfl) 0 78 i2 (.agg #[.int .i64 0, .int .i64 0]) 2 16 Tryd.underlying33 HI.out HZ.out HN.out HBY.out rfl (by decide) Nt.two (nt_cell _) (.slice ao m cap) m (flat Nt.cells s.ns) (by rfl) (by exact (HOWN.out.drew).alloc _) (w1.heap.size + 1) _ 1 (by rfl) (by exact HEL.out) (by show m + 1 ≤ maxLen; unfold maxLen; omega) (by show (m + 1) * 16 ≤ _; omega) (by simp) ?_; intro v' w3 g1 g2 g3; obtain ⟨f53, c53⟩ := HSL.out _ _ (((Kept.refl _ _).alloc _).drew) g2; obtain ⟨A', c', rfl, _⟩ := nt_form g1)
  all_goals
    have HF := Lib.hid (MO.out _ _ _ (((Kept.refl _ _).alloc _).drew) g1 g2 g3)
    clear g1 g2 g3 f53 c53
    go_wp2_with fail
    go_ret
    exact ⟨rfl, HF.out⟩

end

end Go.Proofs.YtdkableaooaebaaDoor
