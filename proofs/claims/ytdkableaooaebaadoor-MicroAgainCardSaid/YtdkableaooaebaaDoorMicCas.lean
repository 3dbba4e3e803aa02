/-
  What the program's access comes to at a swap.
  Conditions: the step's row of frames has 1 to 16 of them; registers' numbers are below 16.
-/
import Derived.Test.YtdkableaooaebaaDoorMicAcc
import Derived.Deep.RegionHeld3
namespace Go.Proofs.YtdkableaooaebaaDoor
open Go.RowKit

section
variable {L : Sp} {col : Nat → Nat} {k : Kp} {d : Nat} {s : Ms} {w : World}
set_option maxHeartbeats 800000 in
theorem cas_out (h : On L col k d s w) (hbl : s.bs.length ≤ 15) (a : Nat) (b : Nat) (c : Int) (n : Int) (hb : b < 16) (hin : ¬ (1 ≤ wrap64 (s.f.r b + n) ∧ wrap64 (s.f.r b + n) ≤ (s.zs.length : Int))) (ha : a < 14) :
    Calls Tryd.prog 44 #[.pointer (some ⟨L.sb, 0, none⟩), .agg #[.int .i64 7, .int .i64 a, .int .i64 b, .int .i64 c, .int .i64 n]] w fun e w' => e = .returned (.iface 42 (.int .i64 6)) ∧ Kept (fun _ => False) w w' := by
  obtain ⟨p, hp⟩ : ∃ p, wrap64 (s.f.r b + n) = p := ⟨_, rfl⟩
  rw [hp] at hin
  have HP := Lib.hid hp; clear hp
  have H := Lib.hid h
  have h2 := h.alloc (.cells #[.int .i64 7, .int .i64 a, .int .i64 b, .int .i64 c, .int .i64 n] 46)
  have HKK := Lib.hid ((Kept.refl (fun _ => False) w).alloc (.cells #[.int .i64 7, .int .i64 a, .int .i64 b, .int .i64 c, .int .i64 n] 46))
  have HBB := Lib.hid (heap_new1 w (.cells #[.int .i64 7, .int .i64 a, .int .i64 b, .int .i64 c, .int .i64 n] 46))
  have HLA := Lib.hid (last_any h2 hbl)
  have HH := Lib.hid h2
  have HC0 := Lib.hid (h.new w.heap.size (Nat.le_refl _))
  clear h2 h
  go_enter Tryd.func44, Tryd.ntmps44
  go_wp2_with fail
  refine (HLA.out).mono ?_
  rintro e w1 ⟨rfl, hk1⟩
  have H1 := Lib.hid (HH.out.kept0 hk1)
  have HK1 := Lib.hid (HKK.out.trans hk1 (fun _ _ f => f))
  have HB1 := Lib.hid (hk1.at0 HBB.out)
  obtain ⟨b0, b1, b2, b3, b4, _⟩ := cells5 HB1.out
  have y0 := H1.out.regAt (j := b) hb
  have z0 : ((b : Nat) : Int) < 16 := by omega
  clear hk1 HLA HBB HKK HH
  go_wp2_with fail
  go_quiet (fail)
  rw [HP.out]
  generalize hW : w1.drewN nq = W
  have HW : Hid (On L col k d s W) := Lib.hid (by rw [← hW]; exact H1.out.kept0 ((Kept.refl _ w1).drewN nq))
  have HKW : Hid (Kept (fun _ => False) w W) := Lib.hid (by rw [← hW]; exact HK1.out.drewN nq)
  have HBW : Hid (W.heap[w.heap.size]? = some (.cells #[.int .i64 7, .int .i64 a, .int .i64 b, .int .i64 c, .int .i64 n] 46 (0, 0))) := Lib.hid (by rw [← hW]; exact (((Kept.refl (fun _ => False) w1).drewN nq)).at0 HB1.out)
  clear hW b0 b1 b2 b3 b4 HB1 H1 HK1
  obtain ⟨b0, b1, b2, b3, b4, _⟩ := cells5 HBW.out
  go_wp2_with fail
  have SF : Hid (∀ (s2 : Ms) w', On L col k d s2 w' → s2.f = s.f → s2.bs = s.bs → w'.heap[w.heap.size]? = some (.cells #[.int .i64 7, .int .i64 a, .int .i64 b, .int .i64 c, .int .i64 n] 46 (0, 0)) → w'.cell? ⟨L.sb, 1, none⟩ = some (.pointer (some ⟨L.ab, 0, none⟩)) ∧ w'.cell? ⟨w.heap.size, 1, none⟩ = some (.int .i64 a) ∧ w'.cell? ⟨k.fg, s.bs.length * 17 + 1 + a, none⟩ = some (.int .i64 (s.f.r a)) ∧ w'.cell? ⟨k.fg, s.bs.length * 17 + 1 + (a + 1), none⟩ = some (.int .i64 (s.f.r (a + 1)))) := Lib.hid (fun s2 w' h3 e1 e2 hb3 => by
    have x0 := h3.regAt (j := a) (by omega)
    have x1 := h3.regAt (j := a + 1) (by omega)
    rw [e1, e2] at x0 x1
    obtain ⟨_, b1, _⟩ := cells5 hb3
    exact ⟨h3.cells.1.2.1, b1, x0, x1⟩)
  obtain ⟨r0, r1, r2, r3⟩ := SF.out s W HW.out rfl rfl HBW.out
  have v0 : ((a : Nat) : Int) < 16 := by omega
  have v1 : (a : Int) + 1 < 16 := by omega
  have v2 : (a : Int) + 2 < 16 := by omega
  have l1 : 0 ≤ (a : Int) + 1 := by omega
  have l2 : 0 ≤ (a : Int) + 2 := by omega
  have t2 : ((a : Int) + 2).toNat = a + 2 := by omega
  have m1 : IntKind.i64.wrap ((a : Int) + 1) = (a : Int) + 1 := IntWalk.i64_in _ (by omega)
  have m2 : IntKind.i64.wrap ((a : Int) + 2) = (a : Int) + 2 := IntWalk.i64_in _ (by omega)
  have HC := Lib.hid (swap_out p (s.f.r a) (s.f.r (a + 1)) W.drew HW.out.drew.ar hin)
  go_region_held3 (fun w' => w'.cell? ⟨L.sb, 1, none⟩ = some (.pointer (some ⟨L.ab, 0, none⟩)) ∧ w'.cell? ⟨w.heap.size, 1, none⟩ = some (.int .i64 a) ∧ w'.cell? ⟨k.fg, s.bs.length * 17 + 1 + a, none⟩ = some (.int .i64 (s.f.r a)) ∧ w'.cell? ⟨k.fg, s.bs.length * 17 + 1 + (a + 1), none⟩ = some (.int .i64 (s.f.r (a + 1))))
    (first | exact SF.out s _ HW.out rfl rfl HBW.out | exact SF.out s _ HW.out.drew rfl rfl HBW.out)
    (first
      | (go_at_call 52; refine HC.out.mono ?_; rintro e w2 ⟨rfl, rfl⟩))
  go_wp2_with fail
  go_ret
  exact ⟨rfl, HKW.out.drew⟩

set_option maxHeartbeats 800000 in
theorem cas_no (h : On L col k d s w) (hbl : s.bs.length ≤ 15) (a : Nat) (b : Nat) (c : Int) (n : Int) (hb : b < 16) (hin : 1 ≤ wrap64 (s.f.r b + n) ∧ wrap64 (s.f.r b + n) ≤ (s.zs.length : Int)) (ha : a < 14) (hne : s.cell (wrap64 (s.f.r b + n)) ≠ s.f.r a) :
    Calls Tryd.prog 44 #[.pointer (some ⟨L.sb, 0, none⟩), .agg #[.int .i64 7, .int .i64 a, .int .i64 b, .int .i64 c, .int .i64 n]] w fun e w' => e = .returned .nilIface ∧ OnTo L col k d w { s with f := s.f.put (a + 2) 0 } w' := by
  obtain ⟨p, hp⟩ : ∃ p, wrap64 (s.f.r b + n) = p := ⟨_, rfl⟩
  rw [hp] at hin
  have HP := Lib.hid hp; clear hp
  rw [HP.out] at hne
  have H := Lib.hid h
  have h2 := h.alloc (.cells #[.int .i64 7, .int .i64 a, .int .i64 b, .int .i64 c, .int .i64 n] 46)
  have HKK := Lib.hid ((Kept.refl (fun _ => False) w).alloc (.cells #[.int .i64 7, .int .i64 a, .int .i64 b, .int .i64 c, .int .i64 n] 46))
  have HBB := Lib.hid (heap_new1 w (.cells #[.int .i64 7, .int .i64 a, .int .i64 b, .int .i64 c, .int .i64 n] 46))
  have HLA := Lib.hid (last_any h2 hbl)
  have HH := Lib.hid h2
  have HC0 := Lib.hid (h.new w.heap.size (Nat.le_refl _))
  clear h2 h
  go_enter Tryd.func44, Tryd.ntmps44
  go_wp2_with fail
  refine (HLA.out).mono ?_
  rintro e w1 ⟨rfl, hk1⟩
  have H1 := Lib.hid (HH.out.kept0 hk1)
  have HK1 := Lib.hid (HKK.out.trans hk1 (fun _ _ f => f))
  have HB1 := Lib.hid (hk1.at0 HBB.out)
  obtain ⟨b0, b1, b2, b3, b4, _⟩ := cells5 HB1.out
  have y0 := H1.out.regAt (j := b) hb
  have z0 : ((b : Nat) : Int) < 16 := by omega
  clear hk1 HLA HBB HKK HH
  go_wp2_with fail
  go_quiet (fail)
  rw [HP.out]
  generalize hW : w1.drewN nq = W
  have HW : Hid (On L col k d s W) := Lib.hid (by rw [← hW]; exact H1.out.kept0 ((Kept.refl _ w1).drewN nq))
  have HKW : Hid (Kept (fun _ => False) w W) := Lib.hid (by rw [← hW]; exact HK1.out.drewN nq)
  have HBW : Hid (W.heap[w.heap.size]? = some (.cells #[.int .i64 7, .int .i64 a, .int .i64 b, .int .i64 c, .int .i64 n] 46 (0, 0))) := Lib.hid (by rw [← hW]; exact (((Kept.refl (fun _ => False) w1).drewN nq)).at0 HB1.out)
  clear hW b0 b1 b2 b3 b4 HB1 H1 HK1
  obtain ⟨b0, b1, b2, b3, b4, _⟩ := cells5 HBW.out
  go_wp2_with fail
  have SF : Hid (∀ (s2 : Ms) w', On L col k d s2 w' → s2.f = s.f → s2.bs = s.bs → w'.heap[w.heap.size]? = some (.cells #[.int .i64 7, .int .i64 a, .int .i64 b, .int .i64 c, .int .i64 n] 46 (0, 0)) → w'.cell? ⟨L.sb, 1, none⟩ = some (.pointer (some ⟨L.ab, 0, none⟩)) ∧ w'.cell? ⟨w.heap.size, 1, none⟩ = some (.int .i64 a) ∧ w'.cell? ⟨k.fg, s.bs.length * 17 + 1 + a, none⟩ = some (.int .i64 (s.f.r a)) ∧ w'.cell? ⟨k.fg, s.bs.length * 17 + 1 + (a + 1), none⟩ = some (.int .i64 (s.f.r (a + 1)))) := Lib.hid (fun s2 w' h3 e1 e2 hb3 => by
    have x0 := h3.regAt (j := a) (by omega)
    have x1 := h3.regAt (j := a + 1) (by omega)
    rw [e1, e2] at x0 x1
    obtain ⟨_, b1, _⟩ := cells5 hb3
    exact ⟨h3.cells.1.2.1, b1, x0, x1⟩)
  obtain ⟨r0, r1, r2, r3⟩ := SF.out s W HW.out rfl rfl HBW.out
  have v0 : ((a : Nat) : Int) < 16 := by omega
  have v1 : (a : Int) + 1 < 16 := by omega
  have v2 : (a : Int) + 2 < 16 := by omega
  have l1 : 0 ≤ (a : Int) + 1 := by omega
  have l2 : 0 ≤ (a : Int) + 2 := by omega
  have t2 : ((a : Int) + 2).toNat = a + 2 := by omega
  have m1 : IntKind.i64.wrap ((a : Int) + 1) = (a : Int) + 1 := IntWalk.i64_in _ (by omega)
  have m2 : IntKind.i64.wrap ((a : Int) + 2) = (a : Int) + 2 := IntWalk.i64_in _ (by omega)
  have HC := Lib.hid (swap_no p (s.f.r a) (s.f.r (a + 1)) W.drew HW.out.drew.ar hin.1 hin.2 hne)
  go_region_held3 (fun w' => w'.cell? ⟨L.sb, 1, none⟩ = some (.pointer (some ⟨L.ab, 0, none⟩)) ∧ w'.cell? ⟨w.heap.size, 1, none⟩ = some (.int .i64 a) ∧ w'.cell? ⟨k.fg, s.bs.length * 17 + 1 + a, none⟩ = some (.int .i64 (s.f.r a)) ∧ w'.cell? ⟨k.fg, s.bs.length * 17 + 1 + (a + 1), none⟩ = some (.int .i64 (s.f.r (a + 1))))
    (first | exact SF.out s _ HW.out rfl rfl HBW.out | exact SF.out s _ HW.out.drew rfl rfl HBW.out)
    (first
      | (go_at_call 52; refine HC.out.mono ?_; rintro e w2 ⟨rfl, rfl⟩))
  generalize hW2 : W.drew = w2
  go_wp2_with fail
  have HB2 : Hid (w2.heap[w.heap.size]? = some (.cells #[.int .i64 7, .int .i64 a, .int .i64 b, .int .i64 c, .int .i64 n] 46 (0, 0))) := Lib.hid (by rw [← hW2]; exact ((Kept.refl (fun _ => False) W).drew).at0 HBW.out)
  have HX2 : Hid (OnTo L col k d w s w2) := Lib.hid (by rw [← hW2]; exact ⟨HW.out.drew, Goes.of0 HKW.out.drew⟩)
  have HBI : Hid (Calls Tryd.prog 53 #[.bool false] w2.drew fun e w' => e = .returned (.int .i64 0) ∧ w2.drew = w') := Lib.hid (bit_any false w2.drew)
  have HF : Hid (OnTo L col k d w { s with f := s.f.put (a + 2) 0 } ((w2.setCell ⟨k.fg, s.bs.length * 17 + 1 + (a + 2), none⟩ (.int .i64 0)).drew)) := Lib.hid (by
    obtain ⟨h3, h4⟩ := HX2.out.1.put (j := a + 2) (by omega) 0
    exact ⟨h3.drew, HX2.out.2.trans (h4.trans (Goes.of0 (Kept.refl _ _).drew))⟩)
  have x2 : w2.cell? ⟨k.fg, s.bs.length * 17 + 1 + (a + 2), none⟩ = some (.int .i64 (s.f.r (a + 2))) := HX2.out.1.regAt (j := a + 2) (by omega)
  have f2 : w2.frozen? ⟨k.fg, s.bs.length * 17 + 1 + (a + 2), none⟩ = false := HX2.out.1.free _
  obtain ⟨b0, b1, b2, b3, b4, _⟩ := cells5 HB2.out
  go_region_with (go_at_call 53; refine HBI.out.mono ?_; rintro e w3 ⟨rfl, rfl⟩)
  all_goals go_wp2_with fail
  all_goals go_ret
  all_goals exact ⟨rfl, HF.out⟩

set_option maxHeartbeats 800000 in
theorem cas_yes (h : On L col k d s w) (hbl : s.bs.length ≤ 15) (a : Nat) (b : Nat) (c : Int) (n : Int) (hb : b < 16) (hin : 1 ≤ wrap64 (s.f.r b + n) ∧ wrap64 (s.f.r b + n) ≤ (s.zs.length : Int)) (ha : a < 14) (heq : s.cell (wrap64 (s.f.r b + n)) = s.f.r a) :
    Calls Tryd.prog 44 #[.pointer (some ⟨L.sb, 0, none⟩), .agg #[.int .i64 7, .int .i64 a, .int .i64 b, .int .i64 c, .int .i64 n]] w fun e w' => e = .returned .nilIface ∧ OnTo L col k d w { (s.store (wrap64 (s.f.r b + n)) (s.f.r (a + 1))) with f := s.f.put (a + 2) 1 } w' := by
  obtain ⟨p, hp⟩ : ∃ p, wrap64 (s.f.r b + n) = p := ⟨_, rfl⟩
  rw [hp] at hin
  have HP := Lib.hid hp; clear hp
  rw [HP.out] at heq
  have H := Lib.hid h
  have h2 := h.alloc (.cells #[.int .i64 7, .int .i64 a, .int .i64 b, .int .i64 c, .int .i64 n] 46)
  have HKK := Lib.hid ((Kept.refl (fun _ => False) w).alloc (.cells #[.int .i64 7, .int .i64 a, .int .i64 b, .int .i64 c, .int .i64 n] 46))
  have HBB := Lib.hid (heap_new1 w (.cells #[.int .i64 7, .int .i64 a, .int .i64 b, .int .i64 c, .int .i64 n] 46))
  have HLA := Lib.hid (last_any h2 hbl)
  have HH := Lib.hid h2
  have HC0 := Lib.hid (h.new w.heap.size (Nat.le_refl _))
  clear h2 h
  go_enter Tryd.func44, Tryd.ntmps44
  go_wp2_with fail
  refine (HLA.out).mono ?_
  rintro e w1 ⟨rfl, hk1⟩
  have H1 := Lib.hid (HH.out.kept0 hk1)
  have HK1 := Lib.hid (HKK.out.trans hk1 (fun _ _ f => f))
  have HB1 := Lib.hid (hk1.at0 HBB.out)
  obtain ⟨b0, b1, b2, b3, b4, _⟩ := cells5 HB1.out
  have y0 := H1.out.regAt (j := b) hb
  have z0 : ((b : Nat) : Int) < 16 := by omega
  clear hk1 HLA HBB HKK HH
  go_wp2_with fail
  go_quiet (fail)
  rw [HP.out]
  generalize hW : w1.drewN nq = W
  have HW : Hid (On L col k d s W) := Lib.hid (by rw [← hW]; exact H1.out.kept0 ((Kept.refl _ w1).drewN nq))
  have HKW : Hid (Kept (fun _ => False) w W) := Lib.hid (by rw [← hW]; exact HK1.out.drewN nq)
  have HBW : Hid (W.heap[w.heap.size]? = some (.cells #[.int .i64 7, .int .i64 a, .int .i64 b, .int .i64 c, .int .i64 n] 46 (0, 0))) := Lib.hid (by rw [← hW]; exact (((Kept.refl (fun _ => False) w1).drewN nq)).at0 HB1.out)
  clear hW b0 b1 b2 b3 b4 HB1 H1 HK1
  obtain ⟨b0, b1, b2, b3, b4, _⟩ := cells5 HBW.out
  go_wp2_with fail
  have SF : Hid (∀ (s2 : Ms) w', On L col k d s2 w' → s2.f = s.f → s2.bs = s.bs → w'.heap[w.heap.size]? = some (.cells #[.int .i64 7, .int .i64 a, .int .i64 b, .int .i64 c, .int .i64 n] 46 (0, 0)) → w'.cell? ⟨L.sb, 1, none⟩ = some (.pointer (some ⟨L.ab, 0, none⟩)) ∧ w'.cell? ⟨w.heap.size, 1, none⟩ = some (.int .i64 a) ∧ w'.cell? ⟨k.fg, s.bs.length * 17 + 1 + a, none⟩ = some (.int .i64 (s.f.r a)) ∧ w'.cell? ⟨k.fg, s.bs.length * 17 + 1 + (a + 1), none⟩ = some (.int .i64 (s.f.r (a + 1)))) := Lib.hid (fun s2 w' h3 e1 e2 hb3 => by
    have x0 := h3.regAt (j := a) (by omega)
    have x1 := h3.regAt (j := a + 1) (by omega)
    rw [e1, e2] at x0 x1
    obtain ⟨_, b1, _⟩ := cells5 hb3
    exact ⟨h3.cells.1.2.1, b1, x0, x1⟩)
  obtain ⟨r0, r1, r2, r3⟩ := SF.out s W HW.out rfl rfl HBW.out
  have v0 : ((a : Nat) : Int) < 16 := by omega
  have v1 : (a : Int) + 1 < 16 := by omega
  have v2 : (a : Int) + 2 < 16 := by omega
  have l1 : 0 ≤ (a : Int) + 1 := by omega
  have l2 : 0 ≤ (a : Int) + 2 := by omega
  have t2 : ((a : Int) + 2).toNat = a + 2 := by omega
  have m1 : IntKind.i64.wrap ((a : Int) + 1) = (a : Int) + 1 := IntWalk.i64_in _ (by omega)
  have m2 : IntKind.i64.wrap ((a : Int) + 2) = (a : Int) + 2 := IntWalk.i64_in _ (by omega)
  have HC := Lib.hid (swap_yes p (s.f.r a) (s.f.r (a + 1)) W.drew HW.out.drew.ar hin.1 hin.2 heq)
  have HF0 : Hid (∀ w2, Stored W.drew L.ab k.og L.most (s.zs.set (p.toNat - 1) (s.f.r (a + 1))) w2 → OnTo L col k d w (s.store (wrap64 (s.f.r b + n)) (s.f.r (a + 1))) w2 ∧ w2.heap[w.heap.size]? = some (.cells #[.int .i64 7, .int .i64 a, .int .i64 b, .int .i64 c, .int .i64 n] 46 (0, 0))) := Lib.hid (fun w2 hs => by
    rw [HP.out]
    obtain ⟨h3, h4⟩ := HW.out.drew.toStored hs
    exact ⟨⟨h3, (Goes.of0 HKW.out.drew).trans h4⟩, h4.at_ (((Kept.refl (fun _ => False) W).drew).at0 HBW.out) HC0.out⟩)
  go_region_held3 (fun w' => w'.cell? ⟨L.sb, 1, none⟩ = some (.pointer (some ⟨L.ab, 0, none⟩)) ∧ w'.cell? ⟨w.heap.size, 1, none⟩ = some (.int .i64 a) ∧ w'.cell? ⟨k.fg, s.bs.length * 17 + 1 + a, none⟩ = some (.int .i64 (s.f.r a)) ∧ w'.cell? ⟨k.fg, s.bs.length * 17 + 1 + (a + 1), none⟩ = some (.int .i64 (s.f.r (a + 1))))
    (first | exact SF.out s _ HW.out rfl rfl HBW.out | exact SF.out s _ HW.out.drew rfl rfl HBW.out | exact SF.out _ _ HX2'.out.1 rfl rfl HB2'.out)
    (first
      | (go_at_call 52; refine HC.out.mono ?_; rintro e w2 ⟨rfl, hs⟩; obtain ⟨hx, hb2⟩ := HF0.out _ hs; have HX2' := Lib.hid hx; have HB2' := Lib.hid hb2; clear hs hx hb2))
  go_wp2_with fail
  have HB2 : Hid (w2.heap[w.heap.size]? = some (.cells #[.int .i64 7, .int .i64 a, .int .i64 b, .int .i64 c, .int .i64 n] 46 (0, 0))) := HB2'
  have HX2 : Hid (OnTo L col k d w (s.store (wrap64 (s.f.r b + n)) (s.f.r (a + 1))) w2) := HX2'
  have HBI : Hid (Calls Tryd.prog 53 #[.bool true] w2.drew fun e w' => e = .returned (.int .i64 1) ∧ w2.drew = w') := Lib.hid (bit_any true w2.drew)
  have HF : Hid (OnTo L col k d w { (s.store (wrap64 (s.f.r b + n)) (s.f.r (a + 1))) with f := s.f.put (a + 2) 1 } ((w2.setCell ⟨k.fg, s.bs.length * 17 + 1 + (a + 2), none⟩ (.int .i64 1)).drew)) := Lib.hid (by
    obtain ⟨h3, h4⟩ := HX2.out.1.put (j := a + 2) (by omega) 1
    exact ⟨h3.drew, HX2.out.2.trans (h4.trans (Goes.of0 (Kept.refl _ _).drew))⟩)
  have x2 : w2.cell? ⟨k.fg, s.bs.length * 17 + 1 + (a + 2), none⟩ = some (.int .i64 (s.f.r (a + 2))) := HX2.out.1.regAt (j := a + 2) (by omega)
  have f2 : w2.frozen? ⟨k.fg, s.bs.length * 17 + 1 + (a + 2), none⟩ = false := HX2.out.1.free _
  obtain ⟨b0, b1, b2, b3, b4, _⟩ := cells5 HB2.out
  go_region_with (go_at_call 53; refine HBI.out.mono ?_; rintro e w3 ⟨rfl, rfl⟩)
  all_goals go_wp2_with fail
  all_goals go_ret
  all_goals exact ⟨rfl, HF.out⟩

end

end Go.Proofs.YtdkableaooaebaaDoor
