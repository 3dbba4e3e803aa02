/-
  What the program's access comes to, an instruction at a time.
  Conditions: the step's row of frames has 1 to 16 of them; registers' numbers are below 16.
-/
import Derived.Test.YtdkableaooaebaaDoorMicVal
namespace Go.Proofs.YtdkableaooaebaaDoor
open Go.RowKit

section
variable {L : Sp} {col : Nat → Nat} {k : Kp} {d : Nat} {s : Ms} {w : World}
set_option maxHeartbeats 2000000 in
theorem ld_out (h : On L col k d s w) (hbl : s.bs.length ≤ 15) (a : Int) (b : Nat) (c : Int) (n : Int) (hb : b < 16) (hin : ¬ (1 ≤ wrap64 (s.f.r b + n) ∧ wrap64 (s.f.r b + n) ≤ (s.zs.length : Int))) :
    Calls Tryd.prog 44 #[.pointer (some ⟨L.sb, 0, none⟩), .agg #[.int .i64 5, .int .i64 a, .int .i64 b, .int .i64 c, .int .i64 n]] w fun e w' => e = .returned (.iface 42 (.int .i64 6)) ∧ Kept (fun _ => False) w w' := by
  obtain ⟨p, hp⟩ : ∃ p, wrap64 (s.f.r b + n) = p := ⟨_, rfl⟩
  rw [hp] at hin
  have HP := Lib.hid hp; clear hp
  have H := Lib.hid h
  have h2 := h.alloc (.cells #[.int .i64 5, .int .i64 a, .int .i64 b, .int .i64 c, .int .i64 n] 46)
  have HKK := Lib.hid ((Kept.refl (fun _ => False) w).alloc (.cells #[.int .i64 5, .int .i64 a, .int .i64 b, .int .i64 c, .int .i64 n] 46))
  have HBB := Lib.hid (heap_new1 w (.cells #[.int .i64 5, .int .i64 a, .int .i64 b, .int .i64 c, .int .i64 n] 46))
  have HLA := Lib.hid (last_any h2 hbl)
  have HH := Lib.hid h2
  have HC0 := Lib.hid (h.new w.heap.size (Nat.le_refl _))
  clear h2 h
  go_enter Tryd.func44, Tryd.ntmps44
  go_wp2_with fail
  refine (HLA.out).mono ?_
  rintro e w1 ⟨rfl, hk1⟩
  have H1 := Lib.hid (HH.out.kept0 hk1)
  have HK1 := Lib.hid (HKK.out.trans hk1 (fun _ _ f => f))
  have HB1 := Lib.hid (hk1.at0 HBB.out)
  obtain ⟨b0, b1, b2, b3, b4, _⟩ := cells5 HB1.out
  have y0 := H1.out.regAt (j := b) hb
  have z0 : ((b : Nat) : Int) < 16 := by omega
  clear hk1 HLA HBB HKK HH
  go_wp2_with fail
  go_quiet (fail)
  rw [HP.out]
  generalize hW : w1.drewN nq = W
  have HW : Hid (On L col k d s W) := Lib.hid (by rw [← hW]; exact H1.out.kept0 ((Kept.refl _ w1).drewN nq))
  have HKW : Hid (Kept (fun _ => False) w W) := Lib.hid (by rw [← hW]; exact HK1.out.drewN nq)
  have HBW : Hid (W.heap[w.heap.size]? = some (.cells #[.int .i64 5, .int .i64 a, .int .i64 b, .int .i64 c, .int .i64 n] 46 (0, 0))) := Lib.hid (by rw [← hW]; exact (((Kept.refl (fun _ => False) w1).drewN nq)).at0 HB1.out)
  clear hW b0 b1 b2 b3 b4 HB1 H1 HK1
  obtain ⟨b0, b1, b2, b3, b4, _⟩ := cells5 HBW.out
  have q1 := HW.out.cells.1.2.1
  go_wp2_with fail
  have HC := Lib.hid (load_out p W HW.out.ar hin)
  go_wp2_with fail
  refine (HC.out).mono ?_
  rintro e w2 ⟨rfl, rfl⟩
  go_wp2_with fail
  go_ret
  exact ⟨rfl, HKW.out⟩

set_option maxHeartbeats 2000000 in
theorem ld_in (h : On L col k d s w) (hbl : s.bs.length ≤ 15) (a : Nat) (b : Nat) (c : Int) (n : Int) (ha : a < 16) (hb : b < 16) (hin : 1 ≤ wrap64 (s.f.r b + n) ∧ wrap64 (s.f.r b + n) ≤ (s.zs.length : Int)) :
    Calls Tryd.prog 44 #[.pointer (some ⟨L.sb, 0, none⟩), .agg #[.int .i64 5, .int .i64 a, .int .i64 b, .int .i64 c, .int .i64 n]] w fun e w' => e = .returned .nilIface ∧ OnTo L col k d w { s with f := s.f.put a (s.cell (wrap64 (s.f.r b + n))) } w' := by
  obtain ⟨p, hp⟩ : ∃ p, wrap64 (s.f.r b + n) = p := ⟨_, rfl⟩
  rw [hp] at hin
  have HP := Lib.hid hp; clear hp
  have H := Lib.hid h
  have h2 := h.alloc (.cells #[.int .i64 5, .int .i64 a, .int .i64 b, .int .i64 c, .int .i64 n] 46)
  have HKK := Lib.hid ((Kept.refl (fun _ => False) w).alloc (.cells #[.int .i64 5, .int .i64 a, .int .i64 b, .int .i64 c, .int .i64 n] 46))
  have HBB := Lib.hid (heap_new1 w (.cells #[.int .i64 5, .int .i64 a, .int .i64 b, .int .i64 c, .int .i64 n] 46))
  have HLA := Lib.hid (last_any h2 hbl)
  have HH := Lib.hid h2
  have HC0 := Lib.hid (h.new w.heap.size (Nat.le_refl _))
  clear h2 h
  go_enter Tryd.func44, Tryd.ntmps44
  go_wp2_with fail
  refine (HLA.out).mono ?_
  rintro e w1 ⟨rfl, hk1⟩
  have H1 := Lib.hid (HH.out.kept0 hk1)
  have HK1 := Lib.hid (HKK.out.trans hk1 (fun _ _ f => f))
  have HB1 := Lib.hid (hk1.at0 HBB.out)
  obtain ⟨b0, b1, b2, b3, b4, _⟩ := cells5 HB1.out
  have y0 := H1.out.regAt (j := b) hb
  have z0 : ((b : Nat) : Int) < 16 := by omega
  clear hk1 HLA HBB HKK HH
  go_wp2_with fail
  go_quiet (fail)
  rw [HP.out]
  generalize hW : w1.drewN nq = W
  have HW : Hid (On L col k d s W) := Lib.hid (by rw [← hW]; exact H1.out.kept0 ((Kept.refl _ w1).drewN nq))
  have HKW : Hid (Kept (fun _ => False) w W) := Lib.hid (by rw [← hW]; exact HK1.out.drewN nq)
  have HBW : Hid (W.heap[w.heap.size]? = some (.cells #[.int .i64 5, .int .i64 a, .int .i64 b, .int .i64 c, .int .i64 n] 46 (0, 0))) := Lib.hid (by rw [← hW]; exact (((Kept.refl (fun _ => False) w1).drewN nq)).at0 HB1.out)
  clear hW b0 b1 b2 b3 b4 HB1 H1 HK1
  obtain ⟨b0, b1, b2, b3, b4, _⟩ := cells5 HBW.out
  have q1 := HW.out.cells.1.2.1
  go_wp2_with fail
  have HC := Lib.hid (load_in p W HW.out.ar hin.1 hin.2)
  obtain ⟨v, hv⟩ : ∃ v, s.zs.getD (p.toNat - 1) 0 = v := ⟨_, rfl⟩
  rw [hv] at HC
  have HV := Lib.hid hv; clear hv
  have HF : Hid (OnTo L col k d w { s with f := s.f.put a (s.cell (wrap64 (s.f.r b + n))) } ((W.setCell ⟨k.fg, s.bs.length * 17 + 1 + a, none⟩ (.int .i64 v)).drew)) := Lib.hid (by
    have e : s.cell (wrap64 (s.f.r b + n)) = v := by rw [HP.out]; exact HV.out
    rw [e]
    obtain ⟨h3, h4⟩ := HW.out.put ha v
    exact ⟨h3.drew, (Goes.of0 HKW.out).trans (h4.trans (Goes.of0 (Kept.refl _ _).drew))⟩)
  have x0 := HW.out.regAt (j := a) ha
  have f0 := HW.out.free (s.bs.length * 17 + 1 + a)
  have v0 : ((a : Nat) : Int) < 16 := by omega
  go_wp2_with fail
  refine (HC.out).mono ?_
  rintro e w2 ⟨rfl, rfl⟩
  go_wp2_with fail
  go_region
  all_goals go_wp2_with fail
  all_goals go_ret
  all_goals exact ⟨rfl, HF.out⟩

set_option maxHeartbeats 2000000 in
theorem st_out (h : On L col k d s w) (hbl : s.bs.length ≤ 15) (a : Nat) (b : Nat) (c : Int) (n : Int) (ha : a < 16) (hb : b < 16) (hin : ¬ (1 ≤ wrap64 (s.f.r b + n) ∧ wrap64 (s.f.r b + n) ≤ (s.zs.length : Int))) :
    Calls Tryd.prog 44 #[.pointer (some ⟨L.sb, 0, none⟩), .agg #[.int .i64 6, .int .i64 a, .int .i64 b, .int .i64 c, .int .i64 n]] w fun e w' => e = .returned (.iface 42 (.int .i64 6)) ∧ Kept (fun _ => False) w w' := by
  obtain ⟨p, hp⟩ : ∃ p, wrap64 (s.f.r b + n) = p := ⟨_, rfl⟩
  rw [hp] at hin
  have HP := Lib.hid hp; clear hp
  have H := Lib.hid h
  have h2 := h.alloc (.cells #[.int .i64 6, .int .i64 a, .int .i64 b, .int .i64 c, .int .i64 n] 46)
  have HKK := Lib.hid ((Kept.refl (fun _ => False) w).alloc (.cells #[.int .i64 6, .int .i64 a, .int .i64 b, .int .i64 c, .int .i64 n] 46))
  have HBB := Lib.hid (heap_new1 w (.cells #[.int .i64 6, .int .i64 a, .int .i64 b, .int .i64 c, .int .i64 n] 46))
  have HLA := Lib.hid (last_any h2 hbl)
  have HH := Lib.hid h2
  have HC0 := Lib.hid (h.new w.heap.size (Nat.le_refl _))
  clear h2 h
  go_enter Tryd.func44, Tryd.ntmps44
  go_wp2_with fail
  refine (HLA.out).mono ?_
  rintro e w1 ⟨rfl, hk1⟩
  have H1 := Lib.hid (HH.out.kept0 hk1)
  have HK1 := Lib.hid (HKK.out.trans hk1 (fun _ _ f => f))
  have HB1 := Lib.hid (hk1.at0 HBB.out)
  obtain ⟨b0, b1, b2, b3, b4, _⟩ := cells5 HB1.out
  have y0 := H1.out.regAt (j := b) hb
  have z0 : ((b : Nat) : Int) < 16 := by omega
  clear hk1 HLA HBB HKK HH
  go_wp2_with fail
  go_quiet (fail)
  rw [HP.out]
  generalize hW : w1.drewN nq = W
  have HW : Hid (On L col k d s W) := Lib.hid (by rw [← hW]; exact H1.out.kept0 ((Kept.refl _ w1).drewN nq))
  have HKW : Hid (Kept (fun _ => False) w W) := Lib.hid (by rw [← hW]; exact HK1.out.drewN nq)
  have HBW : Hid (W.heap[w.heap.size]? = some (.cells #[.int .i64 6, .int .i64 a, .int .i64 b, .int .i64 c, .int .i64 n] 46 (0, 0))) := Lib.hid (by rw [← hW]; exact (((Kept.refl (fun _ => False) w1).drewN nq)).at0 HB1.out)
  clear hW b0 b1 b2 b3 b4 HB1 H1 HK1
  obtain ⟨b0, b1, b2, b3, b4, _⟩ := cells5 HBW.out
  have q1 := HW.out.cells.1.2.1
  go_wp2_with fail
  have x0 := HW.out.regAt (j := a) ha
  have v0 : ((a : Nat) : Int) < 16 := by omega
  have HC := Lib.hid (store_out p (s.f.r a) W.drew HW.out.drew.ar hin)
  go_region_with (go_at_call 21; refine HC.out.mono ?_; rintro e w2 ⟨rfl, rfl⟩)
  all_goals go_wp2_with fail
  all_goals go_ret
  all_goals exact ⟨rfl, HKW.out.drew⟩

set_option maxHeartbeats 2000000 in
theorem st_in (h : On L col k d s w) (hbl : s.bs.length ≤ 15) (a : Nat) (b : Nat) (c : Int) (n : Int) (ha : a < 16) (hb : b < 16) (hin : 1 ≤ wrap64 (s.f.r b + n) ∧ wrap64 (s.f.r b + n) ≤ (s.zs.length : Int)) :
    Calls Tryd.prog 44 #[.pointer (some ⟨L.sb, 0, none⟩), .agg #[.int .i64 6, .int .i64 a, .int .i64 b, .int .i64 c, .int .i64 n]] w fun e w' => e = .returned .nilIface ∧ OnTo L col k d w (s.store (wrap64 (s.f.r b + n)) (s.f.r a)) w' := by
  obtain ⟨p, hp⟩ : ∃ p, wrap64 (s.f.r b + n) = p := ⟨_, rfl⟩
  rw [hp] at hin
  have HP := Lib.hid hp; clear hp
  have H := Lib.hid h
  have h2 := h.alloc (.cells #[.int .i64 6, .int .i64 a, .int .i64 b, .int .i64 c, .int .i64 n] 46)
  have HKK := Lib.hid ((Kept.refl (fun _ => False) w).alloc (.cells #[.int .i64 6, .int .i64 a, .int .i64 b, .int .i64 c, .int .i64 n] 46))
  have HBB := Lib.hid (heap_new1 w (.cells #[.int .i64 6, .int .i64 a, .int .i64 b, .int .i64 c, .int .i64 n] 46))
  have HLA := Lib.hid (last_any h2 hbl)
  have HH := Lib.hid h2
  have HC0 := Lib.hid (h.new w.heap.size (Nat.le_refl _))
  clear h2 h
  go_enter Tryd.func44, Tryd.ntmps44
  go_wp2_with fail
  refine (HLA.out).mono ?_
  rintro e w1 ⟨rfl, hk1⟩
  have H1 := Lib.hid (HH.out.kept0 hk1)
  have HK1 := Lib.hid (HKK.out.trans hk1 (fun _ _ f => f))
  have HB1 := Lib.hid (hk1.at0 HBB.out)
  obtain ⟨b0, b1, b2, b3, b4, _⟩ := cells5 HB1.out
  have y0 := H1.out.regAt (j := b) hb
  have z0 : ((b : Nat) : Int) < 16 := by omega
  clear hk1 HLA HBB HKK HH
  go_wp2_with fail
  go_quiet (fail)
  rw [HP.out]
  generalize hW : w1.drewN nq = W
  have HW : Hid (On L col k d s W) := Lib.hid (by rw [← hW]; exact H1.out.kept0 ((Kept.refl _ w1).drewN nq))
  have HKW : Hid (Kept (fun _ => False) w W) := Lib.hid (by rw [← hW]; exact HK1.out.drewN nq)
  have HBW : Hid (W.heap[w.heap.size]? = some (.cells #[.int .i64 6, .int .i64 a, .int .i64 b, .int .i64 c, .int .i64 n] 46 (0, 0))) := Lib.hid (by rw [← hW]; exact (((Kept.refl (fun _ => False) w1).drewN nq)).at0 HB1.out)
  clear hW b0 b1 b2 b3 b4 HB1 H1 HK1
  obtain ⟨b0, b1, b2, b3, b4, _⟩ := cells5 HBW.out
  have q1 := HW.out.cells.1.2.1
  go_wp2_with fail
  have x0 := HW.out.regAt (j := a) ha
  have v0 : ((a : Nat) : Int) < 16 := by omega
  have HC := Lib.hid (store_in p (s.f.r a) W.drew HW.out.drew.ar hin.1 hin.2)
  have HF : Hid (∀ w2, Stored W.drew L.ab k.og L.most (s.zs.set (p.toNat - 1) (s.f.r a)) w2 → OnTo L col k d w (s.store (wrap64 (s.f.r b + n)) (s.f.r a)) w2) := Lib.hid (fun w2 hs => by
    rw [HP.out]
    obtain ⟨h3, h4⟩ := HW.out.drew.toStored hs
    exact ⟨h3, (Goes.of0 HKW.out.drew).trans h4⟩)
  go_region_with (go_at_call 21; refine HC.out.mono ?_; rintro e w2 ⟨rfl, hs⟩; have HX := Lib.hid (HF.out _ hs); clear hs)
  all_goals go_wp2_with fail
  all_goals go_ret
  all_goals exact ⟨rfl, HX.out⟩

end

end Go.Proofs.YtdkableaooaebaaDoor
