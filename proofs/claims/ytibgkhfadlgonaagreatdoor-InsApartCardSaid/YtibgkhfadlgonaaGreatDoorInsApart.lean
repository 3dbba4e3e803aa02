/-
  For every input the statement InsApart answers true: of two lines that may be printed, and aren't the same, texts aren't; what is an access may be.
  Conditions: none.
-/
import Derived.Test.YtibgkhfadlgonaaGreatDoorInsArg
import Derived.WalkKit
import Derived.ProofKit
import Derived.OpenShut
namespace Go.Proofs.YtibgkhfadlgonaaGreatDoor
namespace insApart
open Go.ChangeShapes Go.WideShapes Go.ChangeAt Go.RowKit
set_option linter.unusedVariables false

set_option maxHeartbeats 4000000 in
set_option maxRecDepth 100000 in
theorem walk (x y : Ln) (w : World) (hx : LnOk x) (hy : LnOk y) (hL : LaidP w) :
    Calls Tryz.prog 5 #[lineV x, lineV y] w fun e w' => e = .returned (.bool true) ∧ Below w.heap.size w w' := by
  obtain ⟨W0, hW0⟩ : ∃ W0, (w.alloc (.cells (lnCells x) 25)).alloc (.cells (lnCells y) 25) = W0 := ⟨_, rfl⟩
  have hk0 : Kept (fun _ => False) w W0 := by rw [← hW0]; exact ((Kept.refl _ w).alloc _).alloc _
  have hbx : W0.heap[w.heap.size]? = some (.cells (lnCells x) 25 (0, 0)) := by
    rw [← hW0]; exact ((Kept.refl (fun _ => False) (w.alloc (.cells (lnCells x) 25))).alloc _).at0 (heap_new1 w _)
  have hby : W0.heap[w.heap.size + 1]? = some (.cells (lnCells y) 25 (0, 0)) := by
    rw [← hW0]
    have := heap_new1 (w.alloc (.cells (lnCells x) 25)) (.cells (lnCells y) 25)
    rw [World.size_alloc] at this
    exact this
  have HX := Lib.hid (fun w1 (hk : Kept (fun _ => False) W0 w1) => (cells7 (hk.at0 hbx)).1)
  have HY := Lib.hid (fun w1 (hk : Kept (fun _ => False) W0 w1) => (cells7 (hk.at0 hby)).1)
  have HFIN := Lib.hid (fun w1 (hk : Kept (fun _ => False) W0 w1) => (hk0.trans hk (fun _ _ f => f)).below (Nat.le_refl _) (fun _ f => f.elim))
  have HL := Lib.hid (fun w1 (hk : Kept (fun _ => False) W0 w1) => hL.on0 (hk0.trans hk (fun _ _ f => f)))
  have HU := Lib.hid (up_any W0 (hL.on0 hk0).laid)
  have HXO := Lib.hid hx
  have HYO := Lib.hid hy
  have g1 := guard_line
  clear hk0 hbx hby hL hx hy
  by_cases hgo : x.label.length ≤ 100 ∧ y.label.length ≤ 100 ∧ x.target.length ≤ 100 ∧ y.target.length ≤ 100
  case neg =>
    have z1 : (strS x.label).size = x.label.length := strS_size _
    have z2 : (strS y.label).size = y.label.length := strS_size _
    have z3 : (strS x.target).size = x.target.length := strS_size _
    have z4 : (strS y.target).size = y.target.length := strS_size _
    by_cases b1 : x.label.length ≤ 100
    · have c1 : ¬ (100 : Int) < ((strS x.label).size : Int) := by omega
      by_cases b2 : y.label.length ≤ 100
      · have c2 : ¬ (100 : Int) < ((strS y.label).size : Int) := by omega
        by_cases b3 : x.target.length ≤ 100
        · have c3 : ¬ (100 : Int) < ((strS x.target).size : Int) := by omega
          have c4 : (100 : Int) < ((strS y.target).size : Int) := by omega
          clear hgo b1 b2 b3 z1 z2 z3 z4
          go_enter Tryz.func5, Tryz.ntmps5
          go_wp2_with fail
          refine (HU.out).mono ?_
          rintro e w1 ⟨rfl, hk1⟩
          have HF := Lib.hid (HFIN.out _ hk1)
          obtain ⟨x0, x1, x2, x3, x4, x5, x6⟩ := HX.out _ hk1
          obtain ⟨y0, y1, y2, y3, y4, y5, y6⟩ := HY.out _ hk1
          clear hk1
          go_wp2_with fail
          go_ret
          exact ⟨rfl, HF.out⟩
        · have c3 : (100 : Int) < ((strS x.target).size : Int) := by omega
          clear hgo b1 b2 b3 z1 z2 z3 z4
          go_enter Tryz.func5, Tryz.ntmps5
          go_wp2_with fail
          refine (HU.out).mono ?_
          rintro e w1 ⟨rfl, hk1⟩
          have HF := Lib.hid (HFIN.out _ hk1)
          obtain ⟨x0, x1, x2, x3, x4, x5, x6⟩ := HX.out _ hk1
          obtain ⟨y0, y1, y2, y3, y4, y5, y6⟩ := HY.out _ hk1
          clear hk1
          go_wp2_with fail
          go_ret
          exact ⟨rfl, HF.out⟩
      · have c2 : (100 : Int) < ((strS y.label).size : Int) := by omega
        clear hgo b1 b2 z1 z2 z3 z4
        go_enter Tryz.func5, Tryz.ntmps5
        go_wp2_with fail
        refine (HU.out).mono ?_
        rintro e w1 ⟨rfl, hk1⟩
        have HF := Lib.hid (HFIN.out _ hk1)
        obtain ⟨x0, x1, x2, x3, x4, x5, x6⟩ := HX.out _ hk1
        obtain ⟨y0, y1, y2, y3, y4, y5, y6⟩ := HY.out _ hk1
        clear hk1
        go_wp2_with fail
        go_ret
        exact ⟨rfl, HF.out⟩
    · have c1 : (100 : Int) < ((strS x.label).size : Int) := by omega
      clear hgo b1 z1 z2 z3 z4
      go_enter Tryz.func5, Tryz.ntmps5
      go_wp2_with fail
      refine (HU.out).mono ?_
      rintro e w1 ⟨rfl, hk1⟩
      have HF := Lib.hid (HFIN.out _ hk1)
      obtain ⟨x0, x1, x2, x3, x4, x5, x6⟩ := HX.out _ hk1
      obtain ⟨y0, y1, y2, y3, y4, y5, y6⟩ := HY.out _ hk1
      clear hk1
      go_wp2_with fail
      go_ret
      exact ⟨rfl, HF.out⟩
  obtain ⟨b1, b2, b3, b4⟩ := hgo
  have c1 : ¬ (100 : Int) < ((strS x.label).size : Int) := by rw [strS_size]; omega
  have c2 : ¬ (100 : Int) < ((strS y.label).size : Int) := by rw [strS_size]; omega
  have c3 : ¬ (100 : Int) < ((strS x.target).size : Int) := by rw [strS_size]; omega
  have c4 : ¬ (100 : Int) < ((strS y.target).size : Int) := by rw [strS_size]; omega
  go_enter Tryz.func5, Tryz.ntmps5
  go_wp2_with fail
  refine (HU.out).mono ?_
  rintro e w1 ⟨rfl, hk1⟩
  have HPX := Lib.hid (Print_any x w1 (HL.out _ hk1) (by omega) (by omega) HXO.out.op.1 HXO.out.op.2)
  have HK1 := Lib.hid hk1
  obtain ⟨x0, x1, x2, x3, x4, x5, x6⟩ := HX.out _ hk1
  obtain ⟨y0, y1, y2, y3, y4, y5, y6⟩ := HY.out _ hk1
  clear hk1 HU
  go_wp2_with fail
  refine HPX.out.mono ?_
  rintro e w2 ⟨hcase, hk2⟩
  have HK2 := Lib.hid (HK1.out.trans hk2 (fun _ _ f => f))
  obtain ⟨s, es, he, hc⟩ : ∃ s es, e = .returned (.tuple #[.string (strS s), es]) ∧ ((printP x = some s ∧ es = .nilIface) ∨ (printP x = none ∧ es = .iface 33 (.int .i64 1))) := by
    rcases hcase with ⟨s, h1, h2⟩ | ⟨h1, h2⟩
    · exact ⟨s, _, h2, .inl ⟨h1, rfl⟩⟩
    · exact ⟨[], _, h2, .inr ⟨h1, rfl⟩⟩
  subst he
  have HC := Lib.hid hc
  have HPY := Lib.hid (Print_any y w2 (HL.out _ HK2.out) (by omega) (by omega) HYO.out.op.1 HYO.out.op.2)
  clear hcase hc hk2 x0 x1 x2 x3 x4 x5 x6 y0 y1 y2 y3 y4 y5 y6 HPX HK1
  obtain ⟨x0, x1, x2, x3, x4, x5, x6⟩ := HX.out _ HK2.out
  obtain ⟨y0, y1, y2, y3, y4, y5, y6⟩ := HY.out _ HK2.out
  go_wp2_with fail
  refine HPY.out.mono ?_
  rintro e w3 ⟨hcase, hk3⟩
  have HK3 := Lib.hid (HK2.out.trans hk3 (fun _ _ f => f))
  obtain ⟨t, et, he, hc⟩ : ∃ s es, e = .returned (.tuple #[.string (strS s), es]) ∧ ((printP y = some s ∧ es = .nilIface) ∨ (printP y = none ∧ es = .iface 33 (.int .i64 1))) := by
    rcases hcase with ⟨s, h1, h2⟩ | ⟨h1, h2⟩
    · exact ⟨s, _, h2, .inl ⟨h1, rfl⟩⟩
    · exact ⟨[], _, h2, .inr ⟨h1, rfl⟩⟩
  subst he
  have HD := Lib.hid hc
  have HF3 := Lib.hid (HFIN.out _ HK3.out)
  clear hcase hc hk3 x0 x1 x2 x3 x4 x5 x6 y0 y1 y2 y3 y4 y5 y6 HPY HK2
  obtain ⟨x0, x1, x2, x3, x4, x5, x6⟩ := HX.out _ HK3.out
  obtain ⟨y0, y1, y2, y3, y4, y5, y6⟩ := HY.out _ HK3.out
  rcases HC.out with ⟨p1, rfl⟩ | ⟨_, rfl⟩
  case inr =>
    clear b1 b2 b3 b4
    go_wp2_with fail
    go_ret
    exact ⟨rfl, HF3.out⟩
  rcases HD.out with ⟨p2, rfl⟩ | ⟨_, rfl⟩
  case inr =>
    clear p1 b1 b2 b3 b4
    go_wp2_with fail
    go_ret
    exact ⟨rfl, HF3.out⟩
  obtain ⟨f1, q1⟩ := printed_is p1
  obtain ⟨f2, q2⟩ := printed_is p2
  have hmay := fits_may f1
  have hst : decide (x = y) = decide (s = t) := by
    rw [q1, q2]
    by_cases h : x = y
    · subst h; simp
    · rw [decide_eq_false h, decide_eq_false (fun e => h (print_inj f1 f2 e))]
  obtain ⟨b, hb⟩ : ∃ b, decide (x = y) = b := ⟨_, rfl⟩
  have he : ∀ w, (Op.equalIn 10000 25 (.agg #[.string (strS x.label), .int .i64 x.op, .int .i64 x.a, .int .i64 x.b, .int .i64 x.c, .int .i64 x.n, .string (strS x.target)]) (.agg #[.string (strS y.label), .int .i64 y.op, .int .i64 y.a, .int .i64 y.b, .int .i64 y.c, .int .i64 y.n, .string (strS y.target)])).run Tryz.prog w = .ok b w := fun w => by
    have := eq_line x y w
    rw [hb] at this
    exact this
  have hs2 : ((strS s).toList == (strS t).toList) = b := by rw [str_eq2, ← hst, hb]
  have HM := Lib.hid (may_any x.op x.a x.b x.c x.n w3 (HL.out _ HK3.out).laid HXO.out.op.1 HXO.out.op.2)
  clear p1 p2 f1 f2 q1 q2 hst hb b1 b2 b3 b4
  by_cases h0 : x.op = 0
  · have h0' : (x.op == 0) = true := by rw [h0]; rfl
    clear h0 hmay
    cases b
    · go_wp2_with fail
      go_ret
      exact ⟨rfl, HF3.out⟩
    · go_wp2_with fail
      go_ret
      exact ⟨rfl, HF3.out⟩
  · have h0' : (x.op == 0) = false := by rw [beq_eq_false_iff_ne]; exact h0
    have hm : mayP x.op x.a x.b x.c x.n = true := by
      rcases hmay with h | h
      · exact absurd h h0
      · exact h
    rw [hm] at HM
    clear h0 hmay hm
    cases b
    · go_wp2_with fail
      refine HM.out.mono ?_
      rintro e w4 ⟨rfl, hk4⟩
      have HF := Lib.hid (HFIN.out _ (HK3.out.trans hk4 (fun _ _ f => f)))
      clear hk4
      go_wp2_with fail
      go_ret
      exact ⟨rfl, HF.out⟩
    · go_wp2_with fail
      refine HM.out.mono ?_
      rintro e w4 ⟨rfl, hk4⟩
      have HF := Lib.hid (HFIN.out _ (HK3.out.trans hk4 (fun _ _ f => f)))
      clear hk4
      go_wp2_with fail
      go_ret
      exact ⟨rfl, HF.out⟩

theorem own : ownKnob Tryz.prog.godebug = none := by kernel_rfl
theorem laidOut : laidOutB Tryz.prog = true := by kernel_rfl

set_option maxRecDepth 100000 in
theorem lifted (os : Os) (started : os.Started) (H : Type) (enc : TypeId × Value → H) :
    ReturnsInHanded {} Tryz.checked os 5 .any (fun w args => (Rows.insApartSpec.pre enc Tryz.prog Tryz.f5 [] false w args ∧ laidMetH Tryz.prog rowLaid w) ∧ sizedMet enc Tryz.prog Tryz.f5 (OpenSpec.ofChange Rows.insApartSpec) false w args) (Rows.insApartSpec.post enc Tryz.prog Tryz.f5 false true false false) := by
  refine handed_laid (C := Tryz.checked) (X := fun w _ => laidMetH Tryz.prog rowLaid w) (fun _ _ _ hh h => h.of_heap hh) own started (by kernel_rfl) Tryz.func5
    (ChangeSpec.witness_shaped (enc := enc) (C := Tryz.checked) (os := os) (X := fun w _ => laidMetH Tryz.prog rowLaid w) false (World.laidAll Tryz.prog os rowLaid) #[.agg #[.string ByteArray.empty, .int .i64 0, .int .i64 0, .int .i64 0, .int .i64 0, .int .i64 0, .string ByteArray.empty], .agg #[.string ByteArray.empty, .int .i64 0, .int .i64 0, .int .i64 0, .int .i64 0, .int .i64 0, .string ByteArray.empty]] 8 (World.laidAll_os _ _ _)
      (World.shaped_of_ZipB (by kernel_rfl) (by kernel_rfl)) (by kernel_rfl) (by kernel_rfl) (by kernel_rfl)
      (by rw [MakeChecks.laidMetH_plain _ _ _ (by kernel_rfl)]; exact laidMet_laidAll _ (by kernel_rfl) (by kernel_rfl))) ?_
  intro W base args ds gs before hval0 hW hL hsh
  rw [MakeChecks.laidMetH_plain _ _ _ (by kernel_rfl)] at hL
  have hLaid := laid_of hL hsh
  have hval : ∀ (j : Nat) t v, Tryz.f5.params[j]? = some t → args[j]? = some v → Value.okWide Tryz.prog W .any base t v := hval0
  have hW' := hW
  obtain ⟨p, q, hA0, hV, rfl, hfz, hnd⟩ := hW
  have hA : DataW.TrodAll enc Tryz.prog W 0 (fun _ => true) true Tryz.f5.params.toList args.toList ds p := hA0
  rw [Tryz.params5] at hA hval
  obtain ⟨v0, vs0, d0, ds0, p0, q0, hargs, rfl, rfl, h0, r0⟩ := trodAll_cons hA
  obtain ⟨v1, vs1, d1, ds1, p1, q1, rfl, rfl, rfl, h1, r1⟩ := trodAll_cons r0
  obtain ⟨rfl, rfl, rfl⟩ := trodAll_nil r1
  obtain rfl : args = #[v0, v1] := by cases args; simp_all
  obtain ⟨rfl, rfl⟩ := trodVars_none hV
  have k0 := h0
  have lt0 : ∀ x ∈ p0, x.block < W.heap.size := by obtain ⟨m, hm⟩ := k0; exact DataW.trod_lt m _ _ _ hm
  obtain ⟨x0, rfl, hx0⟩ := ln_of (okWide_struct Tryz.underlying25 (hval 0 25 v0 rfl rfl)) k0
  have k1 := h1
  have lt1 : ∀ x ∈ p1, x.block < W.heap.size := by obtain ⟨m, hm⟩ := k1; exact DataW.trod_lt m _ _ _ hm
  obtain ⟨x1, rfl, hx1⟩ := ln_of (okWide_struct Tryz.underlying25 (hval 1 25 v1 rfl rfl)) k1
  clear hA0 hval0
  refine (walk x0 x1 W hx0 hx1 (laidP_of hL hsh)).mono fun e W' ⟨he, bel⟩ => ?_
  subst he
  exact ⟨_, rfl, _, _, _, [], _, [], hW', trodAll_mk1 (shut_bool Tryz.underlying4 _), (trodAll_cons_mk (Below.trod laidOut (by kernel_rfl) (of_decide_eq_true (by kernel_rfl)) k0 bel lt0) (trodAll_cons_mk (Below.trod laidOut (by kernel_rfl) (of_decide_eq_true (by kernel_rfl)) k1 bel lt1) trodAll_mk0)), rfl, bel.frame _, fun h => by cases h⟩

theorem over : Rows.insApartRow.holds Tryz.pinned (OpenSpec.ofChange Rows.insApartSpec) :=
  OpenClaim.holds_of_wide 5 Tryz.f5 rfl rfl rfl rfl rfl rfl rfl ⟨rfl, rfl, rfl, rfl, rfl⟩ rfl rfl rfl rfl rfl (by kernel_rfl) Tryz.func5 (by kernel_rfl)
    (of_decide_eq_true (by kernel_rfl)) (by unfold Func.isWrapper; first | (rw [if_pos (by decide +kernel)]; kernel_rfl) | (rw [if_neg (by decide +kernel)]; exact ⟨rfl, rfl⟩))
    (fun os started H enc _ => lifted os started H enc)

end insApart
/-- The row's statement. -/
theorem insApart_row : Rows.InsApartSaid := insApart.over
/-- The statement: the card. -/
theorem insApart_holds : Rows.InsApartCardSaid :=
  Claim7.holds_tied_plain_at .later [] Rows.insApartCard.laidKinds true Rows.insApartCard.stood.harness Rows.insApartCard.stood.looks
    insApart_row (fun _ h => by cases h) (by kernel_rfl) (fun _ h => by cases h) insApart_row_tie rfl ⟨rfl, rfl⟩ (by kernel_rfl) rfl
    (fun f fn hf hfn => by
      obtain rfl : f = 5 := Option.some.inj ((show Tryz.prog.funcNamed "thole/tholelaw07.InsApart" = some 5 by kernel_rfl).symm.trans hf) |>.symm
      obtain rfl : fn = Tryz.f5 := (Option.some.inj (Tryz.func5.symm.trans hfn)).symm
      exact ⟨by kernel_rfl, fun j t ht => by
        rw [Tryz.params5] at ht
        have hm : t ∈ [25, 25] := by simpa using Array.mem_of_getElem? ht
        have hall : ([25, 25].all fun u => !Tryz.prog.wantsStandIn u) = true := by kernel_rfl
        exact (show Tryz.prog.wantsStandIn t = false by simpa using List.all_eq_true.1 hall t hm)⟩)
    (by kernel_rfl)
end Go.Proofs.YtibgkhfadlgonaaGreatDoor
