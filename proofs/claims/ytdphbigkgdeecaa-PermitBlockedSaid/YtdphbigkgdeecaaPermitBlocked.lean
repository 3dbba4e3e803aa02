/-
  For every input the statement PermitBlocked answers true: who is blocked has neither a permit, nor a flag, nor a deadline that is due; a clone goes its own ways.
  Conditions: none.
-/
import Derived.Test.YtdphbigkgdeecaaScript3
import Derived.Test.YtdphbigkgdeecaaTabClone
import Derived.WalkKit
import Derived.ProofKit
import Derived.OpenShut
import Derived.LoopTactic
namespace Go.Proofs.Ytdphbigkgdeecaa
namespace permitBlocked
open Go.ChangeShapes Go.WideShapes Go.ChangeAt Go.RowKit
set_option linter.unusedVariables false

/-- How a thread may stand at a time. -/
def Fit (now : Int) (p : Pk) : Prop := (p.blocked = true → p.permit = false ∧ p.flag = false ∧ dueF now p.deadline = false) ∧ (p.blocked = false → p.deadline = 0)
def Fits (s : Int × List Pk) : Prop := ∀ p ∈ s.2, Fit s.1 p

theorem fit_park (now n : Int) (p : Pk) (h : Fit now p) (hb : p.blocked = false) : Fit now (p.park now n) := by
  obtain ⟨pm, fl, bl, dl⟩ := p
  obtain rfl : bl = false := hb
  have h0 : dl = 0 := h.2 rfl
  subst h0
  cases pm
  · cases fl
    · cases hd : dueF now n <;> simp [Pk.park, Fit, hd]
    · simp [Pk.park, Fit]
  · simp [Pk.park, Fit]
theorem fit_unpark (now : Int) (p : Pk) (h : Fit now p) : Fit now p.unpark := by
  obtain ⟨pm, fl, bl, dl⟩ := p
  cases bl
  · have h0 : dl = 0 := h.2 rfl
    simp [Pk.unpark, Fit, h0]
  · simp [Pk.unpark, Pk.on, Fit]
theorem fit_broken (now : Int) (p : Pk) : Fit now p.broken := by simp [Pk.broken, Fit]
theorem fit_on (now : Int) (p : Pk) : Fit now p.on := by simp [Pk.on, Fit]
theorem fit_clear (now : Int) (p : Pk) (h : Fit now p) : Fit now p.clear := by
  obtain ⟨pm, fl, bl, dl⟩ := p
  cases bl
  · have h0 : dl = 0 := h.2 rfl
    simp [Pk.clear, Fit, h0]
  · have h0 := h.1 rfl
    simp only at h0
    simp [Pk.clear, Fit, h0]
theorem fit_tick (now r : Int) (p : Pk) (h : Fit now p) : Fit r (p.tick r) := by
  obtain ⟨pm, fl, bl, dl⟩ := p
  cases bl
  · have h0 : dl = 0 := h.2 rfl
    simp [Pk.tick, Fit, h0]
  · have h0 := h.1 rfl
    simp only at h0
    cases hd : dueF r dl <;> simp [Pk.tick, Pk.on, Fit, hd, h0]

theorem fits_turn (now : Int) (ps : List Pk) (i : Int) (f : Pk → Pk) (h : ∀ p ∈ ps, Fit now p) (hf : ∀ p, Fit now p → Fit now (f p)) : ∀ p ∈ turnAt ps i f, Fit now p := by
  unfold turnAt
  split
  · split
    · rename_i p hp
      intro q hq
      rcases List.mem_or_eq_of_mem_set hq with hq | hq
      · exact h q hq
      · subst hq; exact hf p (h p (List.mem_of_getElem? hp))
    · exact h
  · exact h

theorem fits_step (s : Int × List Pk) (t i n : Int) (h : Fits s) : Fits (step s.1 s.2 t i n) := by
  unfold step
  split
  · refine fits_turn _ _ _ _ h (fun p hp => ?_)
    simp only []
    split
    · exact hp
    · rename_i hc
      have hb : p.blocked = false := by simp at hc; exact hc.1
      exact fit_park _ _ p hp hb
  split
  · exact fits_turn _ _ _ _ h (fun p hp => fit_unpark _ p hp)
  split
  · exact fits_turn _ _ _ _ h (fun p hp => fit_broken _ p)
  split
  · exact fits_turn _ _ _ _ h (fun p hp => fit_clear _ p hp)
  split
  · exact fits_turn _ _ _ _ h (fun p hp => fit_on _ p)
  split
  · exact h
  · intro p hp
    obtain ⟨q, hq, rfl⟩ := List.mem_map.1 hp
    exact fit_tick s.1 _ q (h q hq)

theorem fits_run (xs : List Dd) : ∀ s, Fits s → Fits (run s xs) := by
  induction xs with
  | nil => intro s h; exact h
  | cons x xs ih => intro s h; exact ih _ (fits_step s _ _ _ h)
theorem fits_fresh (n : Nat) (xs : List Dd) : Fits (run (fresh n) xs) :=
  fits_run xs _ (fun p hp => by rw [List.eq_of_mem_replicate hp]; simp [Pk.zero, Fit])

set_option maxHeartbeats 8000000 in
set_option maxRecDepth 100000 in
theorem walk (a0 : Int) (s : Option Addr) (len cap : Nat) (w : World) (w0 : (Lit.int .i64 a0).wf = true)
    (hs : ∃ xs, xs.length = len ∧ Elems w w.heap.size s 3 Dd.cells xs ∧ ∀ x ∈ xs, Dd.In x) :
    Calls Try.prog 4 #[.int .i64 a0, .slice s len cap] w fun e w' => e = .returned (.bool true) ∧ Below w.heap.size w w' := by
  have b0 := bounds_i64 w0
  clear w0
  obtain ⟨xs, rfl, hx, hin⟩ := hs
  have hxm := hx.1
  unfold maxLen at hxm
  have HX := Lib.hid hx; clear hx
  have HIN := Lib.hid hin; clear hin
  have hp := pickF_in a0 8 (by omega)
  obtain ⟨m, hm⟩ : ∃ m : Nat, pickF a0 8 = m := ⟨(pickF a0 8).toNat, by omega⟩
  obtain ⟨n, hn⟩ : ∃ n : Nat, n = 1 + m := ⟨_, rfl⟩
  have hm7 : m ≤ 7 := by omega
  have hn1 : 1 ≤ n := by omega
  have hn2 : n ≤ 8 := by omega
  have hnm : (1 : Int) + (m : Int) = (n : Int) := by omega
  have HM := Lib.hid hm; clear hm
  have HNM := Lib.hid hnm; clear hnm hn hp
  obtain ⟨i0, hi, hz0, hz1, hz2⟩ := info_parts Try.infoPark
  have HI := Lib.hid hi; clear hi
  have HZ0 := Lib.hid hz0; clear hz0
  have HZ1 := Lib.hid hz1; clear hz1
  have HZ2 := Lib.hid hz2; clear hz2
  go_enter Try.func4, Try.ntmps4
  go_wp2_with fail
  refine (up_any _).mono ?_
  rintro e w1 ⟨rfl, hk⟩
  have HK1 := Lib.hid hk; clear hk
  go_wp2_with fail
  refine (pick_any a0 8 _ (by omega) (by omega) (by omega) (by omega)).mono ?_
  rintro e w2 ⟨rfl, rfl⟩
  rw [HM.out]
  go_wp2_with fail
  rw [HNM.out]
  refine (new_in n w1 hn1 hn2).mono ?_
  rintro e w2 ⟨b, g, rfl, hb, hg, hT, hk2⟩
  have hs1 := HK1.out.size
  have HK2 := Lib.hid (HK1.out.trans hk2 (fun _ _ f => f))
  have HT := Lib.hid hT
  clear hk2 hT
  go_wp2_with (at_make; refine wpList_make_full _ rfl (.tmp 33) (.tmp 33) 31 rfl 0 41 i0 (.agg #[.bool false, .bool false, .bool false, .int .i64 0]) 4 Try.underlying31 HI.out HZ0.out HZ1.out .i64 .i64 n n n rfl rfl rfl rfl ?c1 ?c2 (Nat.zero_le _) ?_)
  case c1 => rw [HZ2.out]; omega
  case c2 => unfold maxLen; omega
  intro w3 hown hgrow
  have HRUNS := Lib.hid (Runs.made (W := w) HT.out (HK2.out.mono (fun _ _ f => f.elim)) (by omega) (by omega) hown hgrow hn2)
  clear hown hgrow
  go_wp2_with fail
  go_loopw [9] (fun i wr => ∃ k : Nat, i = .int .i64 k ∧ k ≤ xs.length ∧ k ≤ 100 ∧ Runs w wr b g n w3.heap.size w2.heap.size n (run (fresh n) (xs.take k))) (fun i _ => 100 - (intOf i).toNat)
  case atStart => exact ⟨0, rfl, by omega, by omega, HRUNS.out⟩
  case round =>
    clear HRUNS HK1 HK2 HT
    obtain ⟨k, rfl, hk1, hk2, hr⟩ := hrel
    generalize w3.heap.size = mb at *
    generalize w2.heap.size = mg at *
    by_cases hkk : k < xs.length ∧ k < 100
    · obtain ⟨hk3, hk4⟩ := hkk
      have hk5 : (k : Int) < 100 := by omega
      obtain ⟨x, hx⟩ : ∃ x, xs[k]? = some x := ⟨_, List.getElem?_eq_getElem hk3⟩
      have hxi := HIN.out x (List.mem_of_getElem? hx)
      obtain ⟨sg, off, rfl, hsg, c0, c1, c2⟩ := deed_at (HX.out.kept hr.2.1 (Nat.le_refl _) (fun k h1 h2 => by omega)) hx
      have hnow := fresh_now n (xs.take k)
      have hnext := run_next (fresh n) xs k x hx
      have HXI := Lib.hid hxi; clear hxi
      have HNX := Lib.hid hnext; clear hnext
      have HR := Lib.hid hr; clear hr
      have HXX := Lib.hid hx; clear hx
      go_wp2_with fail
      refine (one_any HR.out.1 hnow.1 hnow.2 HXI.out.t HXI.out.n.hi).mono ?_
      rintro e w4 hd
      have hr4 := HR.out.done hd
      obtain ⟨rfl, _, _⟩ := hd
      rw [← HNX.out] at hr4
      have hfit := fits_fresh n (xs.take (k + 1))
      have hlen := fresh_len n (xs.take (k + 1))
      generalize hS : run (fresh n) (xs.take (k + 1)) = S at hr4 hfit hlen
      have HS := Lib.hid hS
      clear hS
      have HR4 := Lib.hid hr4
      have HFIT := Lib.hid hfit
      have HLEN := Lib.hid hlen
      clear c0 c1 c2 hr4 hfit hlen
      go_wp2_with fail
      go_loopw [10] (fun i wr => ∃ j : Nat, i = .int .i64 j ∧ j ≤ n ∧ Kept (fun _ => False) w4 wr) (fun i _ => n - (intOf i).toNat)
      case atStart => exact ⟨0, rfl, by omega, Kept.refl _ _⟩
      case round =>
        obtain ⟨j, rfl, hj1, hk⟩ := hrel
        by_cases hj : j < n
        · obtain ⟨p, hp⟩ : ∃ p, S.2[j]? = some p := ⟨_, List.getElem?_eq_getElem (by have := HLEN.out; omega)⟩
          have HB := Lib.hid (HR4.out.1.off hk)
          have HFP := Lib.hid (HFIT.out p (List.mem_of_getElem? hp))
          have HP := Lib.hid hp
          have HK := Lib.hid hk
          clear hp hk
          go_wp2_with fail
          refine (at_in HB.out.tab HP.out).mono ?_
          rintro e w5 ⟨rfl, hk5⟩
          have hnow : ∀ q, Calls Try.prog 13 #[.pointer (some ⟨b, 0, none⟩)] ((w5.alloc (.cells #[.bool p.permit, .bool p.flag, .bool p.blocked, .int .i64 p.deadline] 41)).drewN q) fun e w' => e = .returned (.int .i64 S.1) ∧ w' = (w5.alloc (.cells #[.bool p.permit, .bool p.flag, .bool p.blocked, .int .i64 p.deadline] 41)).drewN q :=
            fun q => (now_at ((HB.out.off ((hk5.alloc _).drawn q)).tab)).mono fun _ _ h => ⟨h.1, h.2.symm⟩
          have hfp := HFP.out
          have HK5 := Lib.hid hk5
          unfold Pk.agg
          clear hk5 HFP
          obtain ⟨pm, fl, bl, dl⟩ := p
          cases bl
          · obtain rfl : dl = 0 := hfp.2 rfl
            clear hfp
            go_wp2_with fail
            go_quiet ((go_at_call 13; exact Calls.quiet_of_same (hnow _)))
            go_wp2_with fail
            go_roundw
            case rel => exact ⟨j + 1, by go_num, by omega, ((HK.out.trans HK5.out (fun _ _ f => f)).alloc _).drawn _⟩
            case measure => simp [intOf]; omega
          · obtain ⟨h1, h2, h3⟩ := hfp.1 rfl
            simp only at h1 h2 h3
            subst h1 h2
            clear hfp
            by_cases hd : 0 ≤ dl
            · have hd2 : decide (dl ≤ S.1) = false := by simpa [dueF, hd] using h3
              clear h3
              go_wp2_with fail
              go_quiet ((go_at_call 13; exact Calls.quiet_of_same (hnow _)))
              go_wp2_with fail
              go_roundw
              case rel => exact ⟨j + 1, by go_num, by omega, ((HK.out.trans HK5.out (fun _ _ f => f)).alloc _).drawn _⟩
              case measure => simp [intOf]; omega
            · have hd2 : decide (0 ≤ dl) = false := by simpa using hd
              clear h3
              go_wp2_with fail
              go_quiet ((go_at_call 13; exact Calls.quiet_of_same (hnow _)))
              go_wp2_with fail
              go_roundw
              case rel => exact ⟨j + 1, by go_num, by omega, ((HK.out.trans HK5.out (fun _ _ f => f)).alloc _).drawn _⟩
              case measure => simp [intOf]; omega
        · have HRF := Lib.hid (HR4.out.off hk)
          go_wp2_with fail
          go_roundw
          case rel =>
            have hrel2 : ∃ k' : Nat, Value.int .i64 ((k : Int) + 1) = .int .i64 k' ∧ k' ≤ xs.length ∧ k' ≤ 100 ∧ Runs w wr b g n mb mg n (run (fresh n) (xs.take k')) := ⟨k + 1, by go_num, by omega, by omega, by rw [HS.out]; exact HRF.out⟩
            first | exact hrel2 | ((repeat apply Exists.intro); exact ⟨hrel2, rfl⟩)
          case measure => simp [intOf]; omega
    · have hsn := fresh_now n (xs.take k)
      have hsl := fresh_len n (xs.take k)
      generalize run (fresh n) (xs.take k) = S at hr hsn hsl
      obtain ⟨p, hp⟩ : ∃ p, S.2[0]? = some p := ⟨_, List.getElem?_eq_getElem (by omega)⟩
      have HR := Lib.hid hr
      have HSL := Lib.hid hsl
      have HP := Lib.hid hp
      have hep := eq_parks
      have hm := guard_park
      have hcase : k < xs.length ∨ ¬ k < xs.length := by omega
      have h100 : k < xs.length → ¬ ((k : Int) < 100) := by intro h; omega
      have H100 := Lib.hid h100
      clear hr hsl hp h100 hkk
      rcases hcase with hk3 | hk3
      · have hk5 := H100.out hk3
        go_wp2_with fail
        refine (clone_tab HR.out.1.tab (by rw [HSL.out]; exact hn1)).mono ?_
        rintro e w5 ⟨ub, ug, uc, rfl, hub, hug, hU, hk5⟩
        have HU := Lib.hid hU
        have HK5 := Lib.hid hk5
        have hz5 := hk5.size
        clear hU hk5
        go_wp2_with fail
        refine (at_in (i := 0) (HR.out.off HK5.out).1.tab HP.out).mono ?_
        rintro e w6 ⟨rfl, hk6⟩
        have HK6 := Lib.hid hk6
        have hz6 := hk6.size
        clear hk6
        unfold Pk.agg
        go_wp2_with fail
        refine (interrupt_at (i := 0) (HU.out.kept (HK6.out.alloc _) (fun f => f) (fun f => f)) HP.out).mono ?_
        rintro e w7 ⟨rfl, ht7⟩
        have HT7 := Lib.hid ht7
        clear ht7
        go_wp2_with fail
        refine (tick_at 5 HT7.out.1 hsn.1 hsn.2 (by omega) (by omega) _ rfl).mono ?_
        rintro e w8 ⟨rfl, ht8⟩
        have hlu := HU.out.lt
        have hlt := HR.out.1.tab.lt
        have hlm := HR.out.1.ref.lt
        have hpb : (w6.alloc (.cells #[.bool p.permit, .bool p.flag, .bool p.blocked, .int .i64 p.deadline] 41)).heap[w6.heap.size]? = some (.cells #[.bool p.permit, .bool p.flag, .bool p.blocked, .int .i64 p.deadline] 41 (0, 0)) := heap_alloc_new w6 _
        have hk68 : Kept (fun k => k = ub ∨ k = ug) (w6.alloc (.cells #[.bool p.permit, .bool p.flag, .bool p.blocked, .int .i64 p.deadline] 41)) w8 := (HT7.out.2.mono (fun _ _ e => .inr e)).trans ht8.2 (fun _ _ e => e)
        have hk8 : Kept (fun k => k = ub ∨ k = ug) wr w8 := (((HK5.out.trans HK6.out (fun _ _ f => f)).alloc _).mono (fun _ _ f => f.elim)).trans hk68 (fun _ _ e => e)
        have HK8 := Lib.hid hk8
        have HK68 := Lib.hid hk68
        have hz8 := hk68.size
        rw [World.size_alloc] at hz8
        have HPB := Lib.hid hpb
        clear ht8 hk8 hk68 hpb
        go_wp2_with fail
        refine (at_in (i := 0) (HR.out.1.tab.kept HK8.out (by omega) (by omega)) HP.out).mono ?_
        rintro e w9 ⟨rfl, hk9⟩
        have hk89 : Kept (fun k => k = ub ∨ k = ug) (w6.alloc (.cells #[.bool p.permit, .bool p.flag, .bool p.blocked, .int .i64 p.deadline] 41)) w9 := HK68.out.trans hk9 (fun _ _ f => f.elim)
        have hpb9 := (hk89.block w6.heap.size (by simp) (by omega)).trans HPB.out
        have p0 : w9.cell? ⟨w6.heap.size, 0, none⟩ = some (.bool p.permit) := by rw [cell_at w9 _ 0 _ _ hpb9]; rfl
        have p1 : w9.cell? ⟨w6.heap.size, 1, none⟩ = some (.bool p.flag) := by rw [cell_at w9 _ 1 _ _ hpb9]; rfl
        have p2 : w9.cell? ⟨w6.heap.size, 2, none⟩ = some (.bool p.blocked) := by rw [cell_at w9 _ 2 _ _ hpb9]; rfl
        have p3 : w9.cell? ⟨w6.heap.size, 3, none⟩ = some (.int .i64 p.deadline) := by rw [cell_at w9 _ 3 _ _ hpb9]; rfl
        have hz9 := hk9.size
        have hpl : w6.heap.size < w9.heap.size := by omega
        have hkr : Kept (fun k => k = ub ∨ k = ug) wr w9 := HK8.out.trans hk9 (fun _ _ f => f.elim)
        have r1 := (HR.out.1.ref.kept hkr (by omega) (by omega)).c1
        have hml : mb < w9.heap.size := by omega
        have hnow : ∀ q, Calls Try.prog 13 #[.pointer (some ⟨b, 0, none⟩)] ((w9.alloc (.cells #[.bool p.permit, .bool p.flag, .bool p.blocked, .int .i64 p.deadline] 41)).drewN q) fun e w' => e = .returned (.int .i64 S.1) ∧ w' = (w9.alloc (.cells #[.bool p.permit, .bool p.flag, .bool p.blocked, .int .i64 p.deadline] 41)).drewN q :=
          fun q => (now_at (HR.out.1.tab.kept ((hkr.alloc _).drawn q) (by omega) (by omega))).mono fun _ _ h => ⟨h.1, h.2.symm⟩
        have hbel : ∀ q, Below w.heap.size w ((w9.alloc (.cells #[.bool p.permit, .bool p.flag, .bool p.blocked, .int .i64 p.deadline] 41)).drewN q) := by
          intro q
          have hw := HR.out.2.1.size
          exact (HR.out.2.1.trans ((hkr.alloc _).drawn q) (fun i hi e => by omega)).below (Nat.le_refl _) (fun _ h => h)
        have HBEL := Lib.hid hbel
        clear hbel hkr hpb9 hk89 hk9
        unfold Pk.agg
        obtain ⟨pm, fl, bl, dl⟩ := p
        go_wp2_with fail
        go_quiet ((go_at_call 13; exact Calls.quiet_of_same (hnow _)))
        go_wp2_with fail
        go_ret
        exact ⟨rfl, HBEL.out _⟩
      · go_wp2_with fail
        refine (clone_tab HR.out.1.tab (by rw [HSL.out]; exact hn1)).mono ?_
        rintro e w5 ⟨ub, ug, uc, rfl, hub, hug, hU, hk5⟩
        have HU := Lib.hid hU
        have HK5 := Lib.hid hk5
        have hz5 := hk5.size
        clear hU hk5
        go_wp2_with fail
        refine (at_in (i := 0) (HR.out.off HK5.out).1.tab HP.out).mono ?_
        rintro e w6 ⟨rfl, hk6⟩
        have HK6 := Lib.hid hk6
        have hz6 := hk6.size
        clear hk6
        unfold Pk.agg
        go_wp2_with fail
        refine (interrupt_at (i := 0) (HU.out.kept (HK6.out.alloc _) (fun f => f) (fun f => f)) HP.out).mono ?_
        rintro e w7 ⟨rfl, ht7⟩
        have HT7 := Lib.hid ht7
        clear ht7
        go_wp2_with fail
        refine (tick_at 5 HT7.out.1 hsn.1 hsn.2 (by omega) (by omega) _ rfl).mono ?_
        rintro e w8 ⟨rfl, ht8⟩
        have hlu := HU.out.lt
        have hlt := HR.out.1.tab.lt
        have hlm := HR.out.1.ref.lt
        have hpb : (w6.alloc (.cells #[.bool p.permit, .bool p.flag, .bool p.blocked, .int .i64 p.deadline] 41)).heap[w6.heap.size]? = some (.cells #[.bool p.permit, .bool p.flag, .bool p.blocked, .int .i64 p.deadline] 41 (0, 0)) := heap_alloc_new w6 _
        have hk68 : Kept (fun k => k = ub ∨ k = ug) (w6.alloc (.cells #[.bool p.permit, .bool p.flag, .bool p.blocked, .int .i64 p.deadline] 41)) w8 := (HT7.out.2.mono (fun _ _ e => .inr e)).trans ht8.2 (fun _ _ e => e)
        have hk8 : Kept (fun k => k = ub ∨ k = ug) wr w8 := (((HK5.out.trans HK6.out (fun _ _ f => f)).alloc _).mono (fun _ _ f => f.elim)).trans hk68 (fun _ _ e => e)
        have HK8 := Lib.hid hk8
        have HK68 := Lib.hid hk68
        have hz8 := hk68.size
        rw [World.size_alloc] at hz8
        have HPB := Lib.hid hpb
        clear ht8 hk8 hk68 hpb
        go_wp2_with fail
        refine (at_in (i := 0) (HR.out.1.tab.kept HK8.out (by omega) (by omega)) HP.out).mono ?_
        rintro e w9 ⟨rfl, hk9⟩
        have hk89 : Kept (fun k => k = ub ∨ k = ug) (w6.alloc (.cells #[.bool p.permit, .bool p.flag, .bool p.blocked, .int .i64 p.deadline] 41)) w9 := HK68.out.trans hk9 (fun _ _ f => f.elim)
        have hpb9 := (hk89.block w6.heap.size (by simp) (by omega)).trans HPB.out
        have p0 : w9.cell? ⟨w6.heap.size, 0, none⟩ = some (.bool p.permit) := by rw [cell_at w9 _ 0 _ _ hpb9]; rfl
        have p1 : w9.cell? ⟨w6.heap.size, 1, none⟩ = some (.bool p.flag) := by rw [cell_at w9 _ 1 _ _ hpb9]; rfl
        have p2 : w9.cell? ⟨w6.heap.size, 2, none⟩ = some (.bool p.blocked) := by rw [cell_at w9 _ 2 _ _ hpb9]; rfl
        have p3 : w9.cell? ⟨w6.heap.size, 3, none⟩ = some (.int .i64 p.deadline) := by rw [cell_at w9 _ 3 _ _ hpb9]; rfl
        have hz9 := hk9.size
        have hpl : w6.heap.size < w9.heap.size := by omega
        have hkr : Kept (fun k => k = ub ∨ k = ug) wr w9 := HK8.out.trans hk9 (fun _ _ f => f.elim)
        have r1 := (HR.out.1.ref.kept hkr (by omega) (by omega)).c1
        have hml : mb < w9.heap.size := by omega
        have hnow : ∀ q, Calls Try.prog 13 #[.pointer (some ⟨b, 0, none⟩)] ((w9.alloc (.cells #[.bool p.permit, .bool p.flag, .bool p.blocked, .int .i64 p.deadline] 41)).drewN q) fun e w' => e = .returned (.int .i64 S.1) ∧ w' = (w9.alloc (.cells #[.bool p.permit, .bool p.flag, .bool p.blocked, .int .i64 p.deadline] 41)).drewN q :=
          fun q => (now_at (HR.out.1.tab.kept ((hkr.alloc _).drawn q) (by omega) (by omega))).mono fun _ _ h => ⟨h.1, h.2.symm⟩
        have hbel : ∀ q, Below w.heap.size w ((w9.alloc (.cells #[.bool p.permit, .bool p.flag, .bool p.blocked, .int .i64 p.deadline] 41)).drewN q) := by
          intro q
          have hw := HR.out.2.1.size
          exact (HR.out.2.1.trans ((hkr.alloc _).drawn q) (fun i hi e => by omega)).below (Nat.le_refl _) (fun _ h => h)
        have HBEL := Lib.hid hbel
        clear hbel hkr hpb9 hk89 hk9
        unfold Pk.agg
        obtain ⟨pm, fl, bl, dl⟩ := p
        go_wp2_with fail
        go_quiet ((go_at_call 13; exact Calls.quiet_of_same (hnow _)))
        go_wp2_with fail
        go_ret
        exact ⟨rfl, HBEL.out _⟩

theorem own : ownKnob Try.prog.godebug = none := by kernel_rfl
theorem laidOut : laidOutB Try.prog = true := by kernel_rfl

set_option maxRecDepth 100000 in
theorem lifted (os : Os) (started : os.Started) (H : Type) (enc : TypeId × Value → H) :
    ReturnsInHanded {} Try.checked os 4 .any (Rows.permitBlockedSpec.pre6 enc Try.prog Try.f4 Rows.permitBlockedRow.domain false) (Rows.permitBlockedSpec.post enc Try.prog Try.f4 false true false false) := by
  refine returnsInHanded_of_change (C := Try.checked) own started (by kernel_rfl) Try.func4
    (ChangeSpec.witness6 (enc := enc) (C := Try.checked) false ⟨#[], #[.int .i64 0, .slice none 0 0], []⟩ 8 (by kernel_rfl) (by kernel_rfl) (by kernel_rfl) (by kernel_rfl)) ?_
  intro W base args ds gs before hval0 hW hcnd _
  have hval : ∀ (j : Nat) t v, Try.f4.params[j]? = some t → args[j]? = some v → Value.okWide Try.prog W .any base t v := hval0
  have hW' := hW
  obtain ⟨p, q, hA0, hV, rfl, hfz, hnd⟩ := hW
  have hA : DataW.TrodAll enc Try.prog W 0 (fun _ => true) true Try.f4.params.toList args.toList ds p := hA0
  rw [Try.params4] at hA hval
  obtain ⟨v0, vs0, d0, ds0, p0, q0, hargs, rfl, rfl, h0, r0⟩ := trodAll_cons hA
  obtain ⟨v1, vs1, d1, ds1, p1, q1, rfl, rfl, rfl, h1, r1⟩ := trodAll_cons r0
  obtain ⟨rfl, rfl, rfl⟩ := trodAll_nil r1
  obtain rfl : args = #[v0, v1] := by cases args; simp_all
  obtain ⟨rfl, rfl⟩ := trodVars_none hV
  obtain ⟨a0, rfl, rfl, rfl, w0⟩ := open_int Try.underlying3 (hval 0 3 v0 rfl rfl) h0
  have k1 := h1
  have lt1 : ∀ x ∈ p1, x.block < W.heap.size := by obtain ⟨m, hm⟩ := k1; exact DataW.trod_lt m _ _ _ hm
  obtain ⟨s1, len1, cap1, rfl⟩ := okWide_slice Try.underlying22 (hval 1 22 v1 rfl rfl)
  clear hA0 hval0
  refine (walk a0 s1 len1 cap1 W w0 (deeds_of k1)).mono fun e W' ⟨he, bel⟩ => ?_
  subst he
  exact ⟨_, rfl, _, _, _, [], _, [], hW', trodAll_mk1 (shut_bool Try.underlying4 _), (trodAll_cons_mk (shut_int Try.underlying3 w0) (trodAll_cons_mk (Below.trod laidOut (by kernel_rfl) (of_decide_eq_true (by kernel_rfl)) k1 bel lt1) trodAll_mk0)), rfl, bel.frame _, fun h => by cases h⟩

theorem over : Rows.permitBlockedRow.holds Try.pinned (OpenSpec.ofChange Rows.permitBlockedSpec) :=
  OpenClaim.holds_of_wide 4 Try.f4 rfl rfl rfl rfl rfl rfl rfl ⟨rfl, rfl, rfl, rfl, rfl⟩ rfl rfl rfl rfl rfl (by kernel_rfl) Try.func4 (by kernel_rfl)
    (of_decide_eq_true (by kernel_rfl)) (by unfold Func.isWrapper; first | (rw [if_pos (by decide +kernel)]; kernel_rfl) | (rw [if_neg (by decide +kernel)]; exact ⟨rfl, rfl⟩))
    (fun os started H enc _ => lifted os started H enc)

end permitBlocked
/-- The statement. -/
theorem permitBlocked_holds : Rows.PermitBlockedSaid := permitBlocked.over
end Go.Proofs.Ytdphbigkgdeecaa
