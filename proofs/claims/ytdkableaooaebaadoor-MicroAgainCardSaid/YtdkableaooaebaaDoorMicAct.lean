/-
  What the program's act comes to, an instruction at a time.
  Conditions: the step's row of frames has 1 to 16 of them; registers' numbers are below 16; the thread is there, and isn't blocked.
-/
import Derived.Test.YtdkableaooaebaaDoorMicPark
namespace Go.Proofs.YtdkableaooaebaaDoor
open Go.RowKit

section
variable {L : Sp} {col : Nat → Nat} {k : Kp} {d : Nat} {s : Ms} {w : World}
theorem acc_any (h : On L col k d s w) (hbl : s.bs.length ≤ 15) (op : Int) (a b : Nat) (c n : Int) (ha : a < 16) (hb : b < 16) (hop : op = 5 ∨ op = 6 ∨ (op = 7 ∧ a < 14)) :
    Calls Tryd.prog 44 #[.pointer (some ⟨L.sb, 0, none⟩), .agg #[.int .i64 op, .int .i64 a, .int .i64 b, .int .i64 c, .int .i64 n]] w fun e w' => ∃ r, e = .returned r ∧ (((accM ⟨op, a, b, c, n⟩ s).1 = 0 ∧ r = .nilIface) ∨ ((accM ⟨op, a, b, c, n⟩ s).1 = 3 ∧ r = .iface 42 (.int .i64 6))) ∧ OnTo L col k d w (accM ⟨op, a, b, c, n⟩ s).2 w' := by
  have ep : s.place ⟨op, a, b, c, n⟩ = wrap64 (s.f.r b + n) := by rw [← IntWalk.i64_left]; rfl
  by_cases hin : 1 ≤ wrap64 (s.f.r b + n) ∧ wrap64 (s.f.r b + n) ≤ (s.zs.length : Int)
  case neg =>
    have er : accM ⟨op, a, b, c, n⟩ s = (3, s) := by unfold accM; rw [if_neg (by rw [ep]; exact hin)]
    rw [er]
    have key : ∀ e w', (e = .returned (.iface 42 (.int .i64 6)) ∧ Kept (fun _ => False) w w') → ∃ r, e = Ending.returned r ∧ (((3 : Int) = 0 ∧ r = .nilIface) ∨ ((3 : Int) = 3 ∧ r = .iface 42 (.int .i64 6))) ∧ OnTo L col k d w s w' := fun e w' ⟨h1, h2⟩ => ⟨_, h1, .inr ⟨rfl, rfl⟩, h.kept0 h2, Goes.of0 h2⟩
    rcases hop with rfl | rfl | ⟨rfl, ha4⟩
    · exact (ld_out h hbl a b c n hb hin).mono key
    · exact (st_out h hbl a b c n ha hb hin).mono key
    · exact (cas_out h hbl a b c n hb hin ha4).mono key
  case pos =>
    have er : accM ⟨op, a, b, c, n⟩ s = if op = 5 then (0, s.put a (s.cell (wrap64 (s.f.r b + n)))) else if op = 6 then (0, s.store (wrap64 (s.f.r b + n)) (s.f.r a)) else if s.cell (wrap64 (s.f.r b + n)) = s.f.r a then (0, (s.store (wrap64 (s.f.r b + n)) (s.f.r (a + 1))).put (a + 2) 1) else (0, s.put (a + 2) 0) := by
      unfold accM
      rw [if_pos (by rw [ep]; exact hin), ep]
      rfl
    have key : ∀ s' e w', (e = .returned .nilIface ∧ OnTo L col k d w s' w') → ∃ r, e = Ending.returned r ∧ (((0 : Int) = 0 ∧ r = .nilIface) ∨ ((0 : Int) = 3 ∧ r = .iface 42 (.int .i64 6))) ∧ OnTo L col k d w s' w' := fun s' e w' ⟨h1, h2⟩ => ⟨_, h1, .inl ⟨rfl, rfl⟩, h2⟩
    rw [er]
    rcases hop with rfl | rfl | ⟨rfl, ha4⟩
    · rw [if_pos rfl]; exact (ld_in h hbl a b c n ha hb hin).mono (key _)
    · rw [if_neg (by decide), if_pos rfl]; exact (st_in h hbl a b c n ha hb hin).mono (key _)
    · rw [if_neg (by decide), if_neg (by decide)]
      by_cases heq : s.cell (wrap64 (s.f.r b + n)) = s.f.r a
      · rw [if_pos heq]; exact (cas_yes h hbl a b c n hb hin ha4 heq).mono (key _)
      · rw [if_neg heq]; exact (cas_no h hbl a b c n hb hin ha4 heq).mono (key _)

set_option maxHeartbeats 1000000 in
theorem act_5 (h : On L col k d s w) (hbl : s.bs.length ≤ 15) (a : Nat) (b : Nat) (c : Int) (n : Int) (ha : a < 16) (hb : b < 16) :
    Calls Tryd.prog 38 #[.pointer (some ⟨L.sb, 0, none⟩), .agg #[.int .i64 5, .int .i64 a, .int .i64 b, .int .i64 c, .int .i64 n]] w fun e w' => e = .returned (.int .i64 (accM ⟨5, a, b, c, n⟩ s).1) ∧ OnMo L col d w (accM ⟨5, a, b, c, n⟩ s).2 w' := by
  have H := Lib.hid h
  have h2 := h.alloc (.cells #[.int .i64 5, .int .i64 a, .int .i64 b, .int .i64 c, .int .i64 n] 46)
  have HKK := Lib.hid ((Kept.refl (fun _ => False) w).alloc (.cells #[.int .i64 5, .int .i64 a, .int .i64 b, .int .i64 c, .int .i64 n] 46))
  have HBB := Lib.hid (heap_new1 w (.cells #[.int .i64 5, .int .i64 a, .int .i64 b, .int .i64 c, .int .i64 n] 46))
  have HLA := Lib.hid (last_any h2 hbl)
  have HH := Lib.hid h2
  have HC0 := Lib.hid (h.new w.heap.size (Nat.le_refl _))
  clear h2 h
  go_enter Tryd.func38, Tryd.ntmps38
  go_wp2_with fail
  refine (HLA.out).mono ?_
  rintro e w1 ⟨rfl, hk1⟩
  have H1 := Lib.hid (HH.out.kept0 hk1)
  have HK1 := Lib.hid (HKK.out.trans hk1 (fun _ _ f => f))
  have HB1 := Lib.hid (hk1.at0 HBB.out)
  obtain ⟨b0, b1, b2, b3, b4, _⟩ := cells5 HB1.out
  clear hk1 HLA HBB HKK HH
  have HA := Lib.hid (acc_any H1.out hbl 5 a b c n ha hb (.inl rfl))
  go_wp2_with fail
  refine (HA.out).mono ?_
  rintro e w2 ⟨r, rfl, hcase, ho⟩
  have HX := Lib.hid (OnMo.of0 HK1.out ho.mo)
  clear ho HA
  rcases hcase with ⟨e0, rfl⟩ | ⟨e0, rfl⟩
  · have HE := Lib.hid e0; clear e0
    go_wp2_with fail
    refine (ran_nil _).mono ?_
    rintro e w3 ⟨rfl, rfl⟩
    go_wp2_with fail
    go_ret
    exact ⟨by rw [HE.out]; rfl, HX.out⟩
  · have HE := Lib.hid e0; clear e0
    go_wp2_with fail
    refine (ran_err 6 _).mono ?_
    rintro e w3 ⟨rfl, rfl⟩
    go_wp2_with fail
    go_ret
    exact ⟨by rw [HE.out]; rfl, HX.out⟩

set_option maxHeartbeats 1000000 in
theorem act_6 (h : On L col k d s w) (hbl : s.bs.length ≤ 15) (a : Nat) (b : Nat) (c : Int) (n : Int) (ha : a < 16) (hb : b < 16) :
    Calls Tryd.prog 38 #[.pointer (some ⟨L.sb, 0, none⟩), .agg #[.int .i64 6, .int .i64 a, .int .i64 b, .int .i64 c, .int .i64 n]] w fun e w' => e = .returned (.int .i64 (accM ⟨6, a, b, c, n⟩ s).1) ∧ OnMo L col d w (accM ⟨6, a, b, c, n⟩ s).2 w' := by
  have H := Lib.hid h
  have h2 := h.alloc (.cells #[.int .i64 6, .int .i64 a, .int .i64 b, .int .i64 c, .int .i64 n] 46)
  have HKK := Lib.hid ((Kept.refl (fun _ => False) w).alloc (.cells #[.int .i64 6, .int .i64 a, .int .i64 b, .int .i64 c, .int .i64 n] 46))
  have HBB := Lib.hid (heap_new1 w (.cells #[.int .i64 6, .int .i64 a, .int .i64 b, .int .i64 c, .int .i64 n] 46))
  have HLA := Lib.hid (last_any h2 hbl)
  have HH := Lib.hid h2
  have HC0 := Lib.hid (h.new w.heap.size (Nat.le_refl _))
  clear h2 h
  go_enter Tryd.func38, Tryd.ntmps38
  go_wp2_with fail
  refine (HLA.out).mono ?_
  rintro e w1 ⟨rfl, hk1⟩
  have H1 := Lib.hid (HH.out.kept0 hk1)
  have HK1 := Lib.hid (HKK.out.trans hk1 (fun _ _ f => f))
  have HB1 := Lib.hid (hk1.at0 HBB.out)
  obtain ⟨b0, b1, b2, b3, b4, _⟩ := cells5 HB1.out
  clear hk1 HLA HBB HKK HH
  have HA := Lib.hid (acc_any H1.out hbl 6 a b c n ha hb (.inr (.inl rfl)))
  go_wp2_with fail
  refine (HA.out).mono ?_
  rintro e w2 ⟨r, rfl, hcase, ho⟩
  have HX := Lib.hid (OnMo.of0 HK1.out ho.mo)
  clear ho HA
  rcases hcase with ⟨e0, rfl⟩ | ⟨e0, rfl⟩
  · have HE := Lib.hid e0; clear e0
    go_wp2_with fail
    refine (ran_nil _).mono ?_
    rintro e w3 ⟨rfl, rfl⟩
    go_wp2_with fail
    go_ret
    exact ⟨by rw [HE.out]; rfl, HX.out⟩
  · have HE := Lib.hid e0; clear e0
    go_wp2_with fail
    refine (ran_err 6 _).mono ?_
    rintro e w3 ⟨rfl, rfl⟩
    go_wp2_with fail
    go_ret
    exact ⟨by rw [HE.out]; rfl, HX.out⟩

set_option maxHeartbeats 1000000 in
theorem act_7 (h : On L col k d s w) (hbl : s.bs.length ≤ 15) (a : Nat) (b : Nat) (c : Int) (n : Int) (ha : a < 16) (hb : b < 16) (ha4 : a < 14) :
    Calls Tryd.prog 38 #[.pointer (some ⟨L.sb, 0, none⟩), .agg #[.int .i64 7, .int .i64 a, .int .i64 b, .int .i64 c, .int .i64 n]] w fun e w' => e = .returned (.int .i64 (accM ⟨7, a, b, c, n⟩ s).1) ∧ OnMo L col d w (accM ⟨7, a, b, c, n⟩ s).2 w' := by
  have H := Lib.hid h
  have h2 := h.alloc (.cells #[.int .i64 7, .int .i64 a, .int .i64 b, .int .i64 c, .int .i64 n] 46)
  have HKK := Lib.hid ((Kept.refl (fun _ => False) w).alloc (.cells #[.int .i64 7, .int .i64 a, .int .i64 b, .int .i64 c, .int .i64 n] 46))
  have HBB := Lib.hid (heap_new1 w (.cells #[.int .i64 7, .int .i64 a, .int .i64 b, .int .i64 c, .int .i64 n] 46))
  have HLA := Lib.hid (last_any h2 hbl)
  have HH := Lib.hid h2
  have HC0 := Lib.hid (h.new w.heap.size (Nat.le_refl _))
  clear h2 h
  go_enter Tryd.func38, Tryd.ntmps38
  go_wp2_with fail
  refine (HLA.out).mono ?_
  rintro e w1 ⟨rfl, hk1⟩
  have H1 := Lib.hid (HH.out.kept0 hk1)
  have HK1 := Lib.hid (HKK.out.trans hk1 (fun _ _ f => f))
  have HB1 := Lib.hid (hk1.at0 HBB.out)
  obtain ⟨b0, b1, b2, b3, b4, _⟩ := cells5 HB1.out
  clear hk1 HLA HBB HKK HH
  have HA := Lib.hid (acc_any H1.out hbl 7 a b c n ha hb (.inr (.inr ⟨rfl, ha4⟩)))
  go_wp2_with fail
  refine (HA.out).mono ?_
  rintro e w2 ⟨r, rfl, hcase, ho⟩
  have HX := Lib.hid (OnMo.of0 HK1.out ho.mo)
  clear ho HA
  rcases hcase with ⟨e0, rfl⟩ | ⟨e0, rfl⟩
  · have HE := Lib.hid e0; clear e0
    go_wp2_with fail
    refine (ran_nil _).mono ?_
    rintro e w3 ⟨rfl, rfl⟩
    go_wp2_with fail
    go_ret
    exact ⟨by rw [HE.out]; rfl, HX.out⟩
  · have HE := Lib.hid e0; clear e0
    go_wp2_with fail
    refine (ran_err 6 _).mono ?_
    rintro e w3 ⟨rfl, rfl⟩
    go_wp2_with fail
    go_ret
    exact ⟨by rw [HE.out]; rfl, HX.out⟩

set_option maxHeartbeats 1000000 in
theorem act_14 (h : On L col k d s w) (hbl : s.bs.length ≤ 15) (a : Nat) (b : Int) (c : Int) (n : Int) (ha : a < 16) {p : Pk} (hp : s.ps[L.self]? = some p) (hnb : p.blocked = false) :
    Calls Tryd.prog 38 #[.pointer (some ⟨L.sb, 0, none⟩), .agg #[.int .i64 14, .int .i64 a, .int .i64 b, .int .i64 c, .int .i64 n]] w fun e w' => e = .returned (.int .i64 (parkM L.now L.self (s.f.r a) s).1) ∧ OnMo L col d w (parkM L.now L.self (s.f.r a) s).2 w' := by
  have H := Lib.hid h
  have h2 := h.alloc (.cells #[.int .i64 14, .int .i64 a, .int .i64 b, .int .i64 c, .int .i64 n] 46)
  have HKK := Lib.hid ((Kept.refl (fun _ => False) w).alloc (.cells #[.int .i64 14, .int .i64 a, .int .i64 b, .int .i64 c, .int .i64 n] 46))
  have HBB := Lib.hid (heap_new1 w (.cells #[.int .i64 14, .int .i64 a, .int .i64 b, .int .i64 c, .int .i64 n] 46))
  have HLA := Lib.hid (last_any h2 hbl)
  have HH := Lib.hid h2
  have HC0 := Lib.hid (h.new w.heap.size (Nat.le_refl _))
  clear h2 h
  go_enter Tryd.func38, Tryd.ntmps38
  go_wp2_with fail
  refine (HLA.out).mono ?_
  rintro e w1 ⟨rfl, hk1⟩
  have H1 := Lib.hid (HH.out.kept0 hk1)
  have HK1 := Lib.hid (HKK.out.trans hk1 (fun _ _ f => f))
  have HB1 := Lib.hid (hk1.at0 HBB.out)
  obtain ⟨b0, b1, b2, b3, b4, _⟩ := cells5 HB1.out
  have y0 := H1.out.regAt (j := a) ha
  have z0 : ((a : Nat) : Int) < 16 := by omega
  clear hk1 HLA HBB HKK HH
  have HA := Lib.hid (mic_park H1.out.drew hp hnb (s.f.r a))
  obtain ⟨v, hv⟩ : ∃ v, parkM L.now L.self (s.f.r a) s = v := ⟨_, rfl⟩
  rw [hv] at HA
  have HV := Lib.hid hv; clear hv
  go_wp2_with fail
  go_region_with (go_at_call 45; refine HA.out.mono ?_; rintro e w2 ⟨rfl, ho⟩; have HX := Lib.hid (OnMo.of0 HK1.out.drew ho.mo); clear ho)
  all_goals go_wp2_with fail
  all_goals go_ret
  all_goals exact ⟨by rw [HV.out]; rfl, by rw [HV.out]; exact HX.out⟩

set_option maxHeartbeats 1000000 in
theorem act_15 (h : On L col k d s w) (hbl : s.bs.length ≤ 15) (a : Nat) (b : Int) (c : Int) (n : Int) (ha : a < 16) :
    Calls Tryd.prog 38 #[.pointer (some ⟨L.sb, 0, none⟩), .agg #[.int .i64 15, .int .i64 a, .int .i64 b, .int .i64 c, .int .i64 n]] w fun e w' => e = .returned (.int .i64 (unparkM (s.f.r a) s).1) ∧ OnMo L col d w (unparkM (s.f.r a) s).2 w' := by
  have H := Lib.hid h
  have h2 := h.alloc (.cells #[.int .i64 15, .int .i64 a, .int .i64 b, .int .i64 c, .int .i64 n] 46)
  have HKK := Lib.hid ((Kept.refl (fun _ => False) w).alloc (.cells #[.int .i64 15, .int .i64 a, .int .i64 b, .int .i64 c, .int .i64 n] 46))
  have HBB := Lib.hid (heap_new1 w (.cells #[.int .i64 15, .int .i64 a, .int .i64 b, .int .i64 c, .int .i64 n] 46))
  have HLA := Lib.hid (last_any h2 hbl)
  have HH := Lib.hid h2
  have HC0 := Lib.hid (h.new w.heap.size (Nat.le_refl _))
  clear h2 h
  go_enter Tryd.func38, Tryd.ntmps38
  go_wp2_with fail
  refine (HLA.out).mono ?_
  rintro e w1 ⟨rfl, hk1⟩
  have H1 := Lib.hid (HH.out.kept0 hk1)
  have HK1 := Lib.hid (HKK.out.trans hk1 (fun _ _ f => f))
  have HB1 := Lib.hid (hk1.at0 HBB.out)
  obtain ⟨b0, b1, b2, b3, b4, _⟩ := cells5 HB1.out
  have y0 := H1.out.regAt (j := a) ha
  have z0 : ((a : Nat) : Int) < 16 := by omega
  have c2 := H1.out.cells.1.2.2.1
  clear hk1 HLA HBB HKK HH
  obtain ⟨v, hv⟩ : ∃ v, unparkM (s.f.r a) s = v := ⟨_, rfl⟩
  have HV := Lib.hid hv
  obtain ⟨i, hi⟩ : ∃ i, s.f.r a = i := ⟨_, rfl⟩
  rw [hi] at y0 hv
  have HI := Lib.hid hi; clear hi
  by_cases hin : 0 ≤ i ∧ i < (s.ps.length : Int)
  · obtain ⟨j, rfl⟩ : ∃ j : Nat, i = j := ⟨i.toNat, by omega⟩
    obtain ⟨p, hp⟩ : ∃ p, s.ps[j]? = some p := ⟨_, List.getElem?_eq_getElem (by omega)⟩
    have HC := Lib.hid (unpark_at H1.out.drew.tab hp)
    have HF : Hid (∀ w2, Turned w1.drew L.tb L.tg L.tc L.now (s.ps.set j p.unpark) w2 → OnMo L col d w (unparkM (s.f.r a) s).2 w2 ∧ (unparkM (s.f.r a) s).1 = 0) := Lib.hid (fun w2 ht => by
      have e : unparkM (s.f.r a) s = (0, s.setThr j p.unpark) := by unfold unparkM; rw [HI.out, if_pos hin, Int.toNat_natCast, thr_at hp]
      rw [e]
      exact ⟨OnMo.of0 HK1.out.drew (OnTo.mo (H1.out.drew.toTab ht)), rfl⟩)
    clear hv hin hp
    go_wp2_with fail
    go_region_with (first | (go_at_call 46; refine HC.out.mono ?_; rintro e w2 ⟨rfl, ht⟩; obtain ⟨hx, he⟩ := HF.out _ ht; have HX := Lib.hid hx; have HE := Lib.hid he; clear ht hx he) | (go_at_call 43; refine (ran_nil _).mono ?_; rintro e w3 ⟨rfl, rfl⟩))
    all_goals go_wp2_with fail
    all_goals go_ret
    all_goals exact ⟨by rw [HE.out]; rfl, HX.out⟩
  · have HC := Lib.hid (unpark_out H1.out.drew.tab hin)
    have HX : Hid (OnMo L col d w (unparkM (s.f.r a) s).2 w1.drew ∧ (unparkM (s.f.r a) s).1 = 3) := Lib.hid (by
      have e : unparkM (s.f.r a) s = (3, s) := by unfold unparkM; rw [HI.out, if_neg hin]
      rw [e]
      exact ⟨OnMo.of0 HK1.out (OnMo.same H1.out (Kept.refl _ w1).drew), rfl⟩)
    clear hv hin
    go_wp2_with fail
    go_region_with (first | (go_at_call 46; refine HC.out.mono ?_; rintro e w2 ⟨rfl, rfl⟩) | (go_at_call 43; refine (ran_err 4 _).mono ?_; rintro e w3 ⟨rfl, rfl⟩))
    all_goals go_wp2_with fail
    all_goals go_ret
    all_goals exact ⟨by rw [HX.out.2]; rfl, HX.out.1⟩

set_option maxHeartbeats 1000000 in
theorem act_20 (h : On L col k d s w) (hbl : s.bs.length ≤ 15) (a : Int) (b : Int) (c : Int) (n : Int)  {p : Pk} (hp : s.ps[L.self]? = some p) :
    Calls Tryd.prog 38 #[.pointer (some ⟨L.sb, 0, none⟩), .agg #[.int .i64 20, .int .i64 a, .int .i64 b, .int .i64 c, .int .i64 n]] w fun e w' => e = .returned (.int .i64 0) ∧ OnMo L col d w (s.setThr L.self p.broken) w' := by
  have H := Lib.hid h
  have h2 := h.alloc (.cells #[.int .i64 20, .int .i64 a, .int .i64 b, .int .i64 c, .int .i64 n] 46)
  have HKK := Lib.hid ((Kept.refl (fun _ => False) w).alloc (.cells #[.int .i64 20, .int .i64 a, .int .i64 b, .int .i64 c, .int .i64 n] 46))
  have HBB := Lib.hid (heap_new1 w (.cells #[.int .i64 20, .int .i64 a, .int .i64 b, .int .i64 c, .int .i64 n] 46))
  have HLA := Lib.hid (last_any h2 hbl)
  have HH := Lib.hid h2
  have HC0 := Lib.hid (h.new w.heap.size (Nat.le_refl _))
  clear h2 h
  go_enter Tryd.func38, Tryd.ntmps38
  go_wp2_with fail
  refine (HLA.out).mono ?_
  rintro e w1 ⟨rfl, hk1⟩
  have H1 := Lib.hid (HH.out.kept0 hk1)
  have HK1 := Lib.hid (HKK.out.trans hk1 (fun _ _ f => f))
  have HB1 := Lib.hid (hk1.at0 HBB.out)
  obtain ⟨b0, b1, b2, b3, b4, _⟩ := cells5 HB1.out
  have c2 := H1.out.cells.1.2.2.1
  have c3 := H1.out.cells.1.2.2.2.1
  clear hk1 HLA HBB HKK HH
  have HC := Lib.hid (interrupt_at H1.out.drew.tab hp)
  have HF : Hid (∀ w2, Turned w1.drew L.tb L.tg L.tc L.now (s.ps.set L.self p.broken) w2 → OnMo L col d w (s.setThr L.self p.broken) w2) := Lib.hid (fun w2 ht => OnMo.of0 HK1.out.drew (OnTo.mo (H1.out.drew.toTab ht)))
  go_wp2_with fail
  go_region_with (first | (go_at_call 47; refine HC.out.mono ?_; rintro e w2 ⟨rfl, ht⟩; have HX := Lib.hid (HF.out _ ht); clear ht) | (go_at_call 43; refine (ran_nil _).mono ?_; rintro e w3 ⟨rfl, rfl⟩))
  all_goals go_wp2_with fail
  all_goals go_ret
  all_goals exact ⟨rfl, HX.out⟩

set_option maxHeartbeats 1000000 in
theorem act_22 (h : On L col k d s w) (hbl : s.bs.length ≤ 15) (a : Int) (b : Int) (c : Int) (n : Int)  :
    Calls Tryd.prog 38 #[.pointer (some ⟨L.sb, 0, none⟩), .agg #[.int .i64 22, .int .i64 a, .int .i64 b, .int .i64 c, .int .i64 n]] w fun e w' => e = .returned (.int .i64 2) ∧ Kept (fun _ => False) w w' := by
  have H := Lib.hid h
  have h2 := h.alloc (.cells #[.int .i64 22, .int .i64 a, .int .i64 b, .int .i64 c, .int .i64 n] 46)
  have HKK := Lib.hid ((Kept.refl (fun _ => False) w).alloc (.cells #[.int .i64 22, .int .i64 a, .int .i64 b, .int .i64 c, .int .i64 n] 46))
  have HBB := Lib.hid (heap_new1 w (.cells #[.int .i64 22, .int .i64 a, .int .i64 b, .int .i64 c, .int .i64 n] 46))
  have HLA := Lib.hid (last_any h2 hbl)
  have HH := Lib.hid h2
  have HC0 := Lib.hid (h.new w.heap.size (Nat.le_refl _))
  clear h2 h
  go_enter Tryd.func38, Tryd.ntmps38
  go_wp2_with fail
  refine (HLA.out).mono ?_
  rintro e w1 ⟨rfl, hk1⟩
  have H1 := Lib.hid (HH.out.kept0 hk1)
  have HK1 := Lib.hid (HKK.out.trans hk1 (fun _ _ f => f))
  have HB1 := Lib.hid (hk1.at0 HBB.out)
  obtain ⟨b0, b1, b2, b3, b4, _⟩ := cells5 HB1.out
  clear hk1 HLA HBB HKK HH
  go_wp2_with fail
  go_ret
  exact ⟨rfl, HK1.out⟩

end

end Go.Proofs.YtdkableaooaebaaDoor
