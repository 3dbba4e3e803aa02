/-
  What the program's value comes to, an instruction at a time.
  Conditions: the step's row of frames has 1 to 16 of them; registers' numbers are below 16.
-/
import Derived.Test.YtdkableaooaebaaDoorMicValue
namespace Go.Proofs.YtdkableaooaebaaDoor
open Go.RowKit

section
variable {L : Sp} {col : Nat → Nat} {k : Kp} {d : Nat} {s : Ms} {w : World}
set_option maxHeartbeats 2000000 in
theorem val_1 (h : On L col k d s w) (hbl : s.bs.length ≤ 15) (a : Int) (b : Int) (c : Int) (n : Int)  :
    Calls Tryd.prog 48 #[.pointer (some ⟨L.sb, 0, none⟩), .agg #[.int .i64 1, .int .i64 a, .int .i64 b, .int .i64 c, .int .i64 n]] w fun e w' => e = .returned (.int .i64 n) ∧ Kept (fun _ => False) w w' := by
  have H := Lib.hid h
  have h2 := h.alloc (.cells #[.int .i64 1, .int .i64 a, .int .i64 b, .int .i64 c, .int .i64 n] 46)
  have HKK := Lib.hid ((Kept.refl (fun _ => False) w).alloc (.cells #[.int .i64 1, .int .i64 a, .int .i64 b, .int .i64 c, .int .i64 n] 46))
  have HBB := Lib.hid (heap_new1 w (.cells #[.int .i64 1, .int .i64 a, .int .i64 b, .int .i64 c, .int .i64 n] 46))
  have HLA := Lib.hid (last_any h2 hbl)
  have HH := Lib.hid h2
  have HC0 := Lib.hid (h.new w.heap.size (Nat.le_refl _))
  clear h2 h
  go_enter Tryd.func48, Tryd.ntmps48
  go_wp2_with fail
  refine (HLA.out).mono ?_
  rintro e w1 ⟨rfl, hk1⟩
  have H1 := Lib.hid (HH.out.kept0 hk1)
  have HK1 := Lib.hid (HKK.out.trans hk1 (fun _ _ f => f))
  have HB1 := Lib.hid (hk1.at0 HBB.out)
  obtain ⟨b0, b1, b2, b3, b4, _⟩ := cells5 HB1.out
  clear hk1 HLA HBB HKK HH
  go_wp2_with fail
  go_ret
  exact ⟨rfl, HK1.out⟩

set_option maxHeartbeats 2000000 in
theorem val_2 (h : On L col k d s w) (hbl : s.bs.length ≤ 15) (a : Int) (b : Nat) (c : Int) (n : Int) (hb : b < 16) :
    Calls Tryd.prog 48 #[.pointer (some ⟨L.sb, 0, none⟩), .agg #[.int .i64 2, .int .i64 a, .int .i64 b, .int .i64 c, .int .i64 n]] w fun e w' => e = .returned (.int .i64 (s.f.r b)) ∧ Kept (fun _ => False) w w' := by
  have H := Lib.hid h
  have h2 := h.alloc (.cells #[.int .i64 2, .int .i64 a, .int .i64 b, .int .i64 c, .int .i64 n] 46)
  have HKK := Lib.hid ((Kept.refl (fun _ => False) w).alloc (.cells #[.int .i64 2, .int .i64 a, .int .i64 b, .int .i64 c, .int .i64 n] 46))
  have HBB := Lib.hid (heap_new1 w (.cells #[.int .i64 2, .int .i64 a, .int .i64 b, .int .i64 c, .int .i64 n] 46))
  have HLA := Lib.hid (last_any h2 hbl)
  have HH := Lib.hid h2
  have HC0 := Lib.hid (h.new w.heap.size (Nat.le_refl _))
  clear h2 h
  go_enter Tryd.func48, Tryd.ntmps48
  go_wp2_with fail
  refine (HLA.out).mono ?_
  rintro e w1 ⟨rfl, hk1⟩
  have H1 := Lib.hid (HH.out.kept0 hk1)
  have HK1 := Lib.hid (HKK.out.trans hk1 (fun _ _ f => f))
  have HB1 := Lib.hid (hk1.at0 HBB.out)
  obtain ⟨b0, b1, b2, b3, b4, _⟩ := cells5 HB1.out
  have y0 := H1.out.regAt (j := b) hb
  have z0 : ((b : Nat) : Int) < 16 := by omega
  clear hk1 HLA HBB HKK HH
  go_wp2_with fail
  go_quiet (fail)
  go_wp2_with fail
  go_ret
  exact ⟨rfl, HK1.out.drewN _⟩

set_option maxHeartbeats 2000000 in
theorem val_3 (h : On L col k d s w) (hbl : s.bs.length ≤ 15) (a : Int) (b : Nat) (c : Nat) (n : Int) (hb : b < 16) (hc : c < 16) :
    Calls Tryd.prog 48 #[.pointer (some ⟨L.sb, 0, none⟩), .agg #[.int .i64 3, .int .i64 a, .int .i64 b, .int .i64 c, .int .i64 n]] w fun e w' => e = .returned (.int .i64 (wrap64 (s.f.r b + s.f.r c))) ∧ Kept (fun _ => False) w w' := by
  have H := Lib.hid h
  have h2 := h.alloc (.cells #[.int .i64 3, .int .i64 a, .int .i64 b, .int .i64 c, .int .i64 n] 46)
  have HKK := Lib.hid ((Kept.refl (fun _ => False) w).alloc (.cells #[.int .i64 3, .int .i64 a, .int .i64 b, .int .i64 c, .int .i64 n] 46))
  have HBB := Lib.hid (heap_new1 w (.cells #[.int .i64 3, .int .i64 a, .int .i64 b, .int .i64 c, .int .i64 n] 46))
  have HLA := Lib.hid (last_any h2 hbl)
  have HH := Lib.hid h2
  have HC0 := Lib.hid (h.new w.heap.size (Nat.le_refl _))
  clear h2 h
  go_enter Tryd.func48, Tryd.ntmps48
  go_wp2_with fail
  refine (HLA.out).mono ?_
  rintro e w1 ⟨rfl, hk1⟩
  have H1 := Lib.hid (HH.out.kept0 hk1)
  have HK1 := Lib.hid (HKK.out.trans hk1 (fun _ _ f => f))
  have HB1 := Lib.hid (hk1.at0 HBB.out)
  obtain ⟨b0, b1, b2, b3, b4, _⟩ := cells5 HB1.out
  have y0 := H1.out.regAt (j := b) hb
  have z0 : ((b : Nat) : Int) < 16 := by omega
  have y1 := H1.out.regAt (j := c) hc
  have z1 : ((c : Nat) : Int) < 16 := by omega
  clear hk1 HLA HBB HKK HH
  go_wp2_with fail
  go_quiet (fail)
  go_wp2_with fail
  go_ret
  exact ⟨rfl, HK1.out.drewN _⟩

set_option maxHeartbeats 2000000 in
theorem val_4 (h : On L col k d s w) (hbl : s.bs.length ≤ 15) (a : Int) (b : Nat) (c : Int) (n : Int) (hb : b < 16) :
    Calls Tryd.prog 48 #[.pointer (some ⟨L.sb, 0, none⟩), .agg #[.int .i64 4, .int .i64 a, .int .i64 b, .int .i64 c, .int .i64 n]] w fun e w' => e = .returned (.int .i64 (wrap64 (s.f.r b + n))) ∧ Kept (fun _ => False) w w' := by
  have H := Lib.hid h
  have h2 := h.alloc (.cells #[.int .i64 4, .int .i64 a, .int .i64 b, .int .i64 c, .int .i64 n] 46)
  have HKK := Lib.hid ((Kept.refl (fun _ => False) w).alloc (.cells #[.int .i64 4, .int .i64 a, .int .i64 b, .int .i64 c, .int .i64 n] 46))
  have HBB := Lib.hid (heap_new1 w (.cells #[.int .i64 4, .int .i64 a, .int .i64 b, .int .i64 c, .int .i64 n] 46))
  have HLA := Lib.hid (last_any h2 hbl)
  have HH := Lib.hid h2
  have HC0 := Lib.hid (h.new w.heap.size (Nat.le_refl _))
  clear h2 h
  go_enter Tryd.func48, Tryd.ntmps48
  go_wp2_with fail
  refine (HLA.out).mono ?_
  rintro e w1 ⟨rfl, hk1⟩
  have H1 := Lib.hid (HH.out.kept0 hk1)
  have HK1 := Lib.hid (HKK.out.trans hk1 (fun _ _ f => f))
  have HB1 := Lib.hid (hk1.at0 HBB.out)
  obtain ⟨b0, b1, b2, b3, b4, _⟩ := cells5 HB1.out
  have y0 := H1.out.regAt (j := b) hb
  have z0 : ((b : Nat) : Int) < 16 := by omega
  clear hk1 HLA HBB HKK HH
  go_wp2_with fail
  go_quiet (fail)
  go_wp2_with fail
  go_ret
  exact ⟨rfl, HK1.out.drewN _⟩

set_option maxHeartbeats 2000000 in
theorem val_17 (h : On L col k d s w) (hbl : s.bs.length ≤ 15) (a : Int) (b : Int) (c : Int) (n : Int)  :
    Calls Tryd.prog 48 #[.pointer (some ⟨L.sb, 0, none⟩), .agg #[.int .i64 17, .int .i64 a, .int .i64 b, .int .i64 c, .int .i64 n]] w fun e w' => e = .returned (.int .i64 L.self) ∧ Kept (fun _ => False) w w' := by
  have H := Lib.hid h
  have h2 := h.alloc (.cells #[.int .i64 17, .int .i64 a, .int .i64 b, .int .i64 c, .int .i64 n] 46)
  have HKK := Lib.hid ((Kept.refl (fun _ => False) w).alloc (.cells #[.int .i64 17, .int .i64 a, .int .i64 b, .int .i64 c, .int .i64 n] 46))
  have HBB := Lib.hid (heap_new1 w (.cells #[.int .i64 17, .int .i64 a, .int .i64 b, .int .i64 c, .int .i64 n] 46))
  have HLA := Lib.hid (last_any h2 hbl)
  have HH := Lib.hid h2
  have HC0 := Lib.hid (h.new w.heap.size (Nat.le_refl _))
  clear h2 h
  go_enter Tryd.func48, Tryd.ntmps48
  go_wp2_with fail
  refine (HLA.out).mono ?_
  rintro e w1 ⟨rfl, hk1⟩
  have H1 := Lib.hid (HH.out.kept0 hk1)
  have HK1 := Lib.hid (HKK.out.trans hk1 (fun _ _ f => f))
  have HB1 := Lib.hid (hk1.at0 HBB.out)
  obtain ⟨b0, b1, b2, b3, b4, _⟩ := cells5 HB1.out
  have c3 := H1.out.cells.1.2.2.2.1
  clear hk1 HLA HBB HKK HH
  go_wp2_with fail
  go_ret
  exact ⟨rfl, HK1.out⟩

set_option maxHeartbeats 2000000 in
theorem val_18 (h : On L col k d s w) (hbl : s.bs.length ≤ 15) (a : Int) (b : Int) (c : Int) (n : Int)  :
    Calls Tryd.prog 48 #[.pointer (some ⟨L.sb, 0, none⟩), .agg #[.int .i64 18, .int .i64 a, .int .i64 b, .int .i64 c, .int .i64 n]] w fun e w' => e = .returned (.int .i64 L.now) ∧ Kept (fun _ => False) w w' := by
  have H := Lib.hid h
  have h2 := h.alloc (.cells #[.int .i64 18, .int .i64 a, .int .i64 b, .int .i64 c, .int .i64 n] 46)
  have HKK := Lib.hid ((Kept.refl (fun _ => False) w).alloc (.cells #[.int .i64 18, .int .i64 a, .int .i64 b, .int .i64 c, .int .i64 n] 46))
  have HBB := Lib.hid (heap_new1 w (.cells #[.int .i64 18, .int .i64 a, .int .i64 b, .int .i64 c, .int .i64 n] 46))
  have HLA := Lib.hid (last_any h2 hbl)
  have HH := Lib.hid h2
  have HC0 := Lib.hid (h.new w.heap.size (Nat.le_refl _))
  clear h2 h
  go_enter Tryd.func48, Tryd.ntmps48
  go_wp2_with fail
  refine (HLA.out).mono ?_
  rintro e w1 ⟨rfl, hk1⟩
  have H1 := Lib.hid (HH.out.kept0 hk1)
  have HK1 := Lib.hid (HKK.out.trans hk1 (fun _ _ f => f))
  have HB1 := Lib.hid (hk1.at0 HBB.out)
  obtain ⟨b0, b1, b2, b3, b4, _⟩ := cells5 HB1.out
  have c2 := H1.out.cells.1.2.2.1
  clear hk1 HLA HBB HKK HH
  have HN := Lib.hid (now_at H1.out.tab)
  go_wp2_with fail
  refine (HN.out).mono ?_
  rintro e w2 ⟨rfl, rfl⟩
  go_wp2_with fail
  go_ret
  exact ⟨rfl, HK1.out⟩

set_option maxHeartbeats 2000000 in
theorem val_16 (h : On L col k d s w) (hbl : s.bs.length ≤ 15) (a : Int) (b : Int) (c : Int) (n : Int)  (h0 : 0 ≤ L.most) (h1 : L.most ≤ 4096) :
    Calls Tryd.prog 48 #[.pointer (some ⟨L.sb, 0, none⟩), .agg #[.int .i64 16, .int .i64 a, .int .i64 b, .int .i64 c, .int .i64 n]] w fun e w' => e = .returned (.int .i64 (allocM L.most n s).1) ∧ OnAr L col k d w (allocM L.most n s).2 w' := by
  have H := Lib.hid h
  have h2 := h.alloc (.cells #[.int .i64 16, .int .i64 a, .int .i64 b, .int .i64 c, .int .i64 n] 46)
  have HKK := Lib.hid ((Kept.refl (fun _ => False) w).alloc (.cells #[.int .i64 16, .int .i64 a, .int .i64 b, .int .i64 c, .int .i64 n] 46))
  have HBB := Lib.hid (heap_new1 w (.cells #[.int .i64 16, .int .i64 a, .int .i64 b, .int .i64 c, .int .i64 n] 46))
  have HLA := Lib.hid (last_any h2 hbl)
  have HH := Lib.hid h2
  have HC0 := Lib.hid (h.new w.heap.size (Nat.le_refl _))
  clear h2 h
  go_enter Tryd.func48, Tryd.ntmps48
  go_wp2_with fail
  refine (HLA.out).mono ?_
  rintro e w1 ⟨rfl, hk1⟩
  have H1 := Lib.hid (HH.out.kept0 hk1)
  have HK1 := Lib.hid (HKK.out.trans hk1 (fun _ _ f => f))
  have HB1 := Lib.hid (hk1.at0 HBB.out)
  obtain ⟨b0, b1, b2, b3, b4, _⟩ := cells5 HB1.out
  clear hk1 HLA HBB HKK HH
  have HA := Lib.hid (mic_alloc H1.out n h0 h1)
  obtain ⟨v, hv⟩ : ∃ v, allocM L.most n s = v := ⟨_, rfl⟩
  rw [hv] at HA
  have HV := Lib.hid hv; clear hv
  go_wp2_with fail
  refine (HA.out).mono ?_
  rintro e w2 ⟨rfl, ho⟩
  have HX := Lib.hid (OnAr.of0 HK1.out ho)
  clear ho
  go_wp2_with fail
  go_ret
  exact ⟨by rw [HV.out]; rfl, by rw [HV.out]; exact HX.out⟩

set_option maxHeartbeats 2000000 in
theorem val_19 (h : On L col k d s w) (hbl : s.bs.length ≤ 15) (a : Int) (b : Int) (c : Int) (n : Int)  {p : Pk} (hp : s.ps[L.self]? = some p) :
    Calls Tryd.prog 48 #[.pointer (some ⟨L.sb, 0, none⟩), .agg #[.int .i64 19, .int .i64 a, .int .i64 b, .int .i64 c, .int .i64 n]] w fun e w' => e = .returned (.int .i64 (bitI p.flag)) ∧ OnAr L col k d w (s.setThr L.self p.clear) w' := by
  have H := Lib.hid h
  have h2 := h.alloc (.cells #[.int .i64 19, .int .i64 a, .int .i64 b, .int .i64 c, .int .i64 n] 46)
  have HKK := Lib.hid ((Kept.refl (fun _ => False) w).alloc (.cells #[.int .i64 19, .int .i64 a, .int .i64 b, .int .i64 c, .int .i64 n] 46))
  have HBB := Lib.hid (heap_new1 w (.cells #[.int .i64 19, .int .i64 a, .int .i64 b, .int .i64 c, .int .i64 n] 46))
  have HLA := Lib.hid (last_any h2 hbl)
  have HH := Lib.hid h2
  have HC0 := Lib.hid (h.new w.heap.size (Nat.le_refl _))
  clear h2 h
  go_enter Tryd.func48, Tryd.ntmps48
  go_wp2_with fail
  refine (HLA.out).mono ?_
  rintro e w1 ⟨rfl, hk1⟩
  have H1 := Lib.hid (HH.out.kept0 hk1)
  have HK1 := Lib.hid (HKK.out.trans hk1 (fun _ _ f => f))
  have HB1 := Lib.hid (hk1.at0 HBB.out)
  obtain ⟨b0, b1, b2, b3, b4, _⟩ := cells5 HB1.out
  clear hk1 HLA HBB HKK HH
  have HA := Lib.hid (mic_clear H1.out hp)
  go_wp2_with fail
  refine (HA.out).mono ?_
  rintro e w2 ⟨rfl, ho⟩
  have HX := Lib.hid (OnAr.of0 HK1.out ho)
  clear ho
  go_wp2_with fail
  go_ret
  exact ⟨rfl, HX.out⟩

end

end Go.Proofs.YtdkableaooaebaaDoor
