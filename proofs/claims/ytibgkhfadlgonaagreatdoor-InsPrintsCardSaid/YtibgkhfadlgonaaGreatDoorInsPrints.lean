/-
  For every input the statement InsPrints answers true: any line's text, or that none is parsed as it; whether any instruction is an access, and may be.
  Conditions: none.
-/
import Derived.Test.YtibgkhfadlgonaaGreatDoorInsArg
import Derived.Test.YtibgkhfadlgonaaGreatDoorRefFits
import Derived.Test.YtibgkhfadlgonaaGreatDoorRefPrint
import Derived.Deep.RegionHeld3
import Derived.Deep.RegionWith
import Derived.WalkKit
import Derived.ProofKit
import Derived.OpenShut
namespace Go.Proofs.YtibgkhfadlgonaaGreatDoor
namespace insPrints
open Go.ChangeShapes Go.WideShapes Go.ChangeAt Go.RowKit
set_option linter.unusedVariables false

/-- The frame behind the tests: what is read later stands as it is, all else is any. -/
def frT (b : Nat) (s : Str) (es : Value) (u : Nat → Value) : Act := ⟨#[u 0, .pointer (some ⟨b, 0, none⟩), u 2, .bool true, .string (strS s), es, u 6, u 7, u 8, u 9, u 10, u 11, u 12, u 13, u 14, u 15, u 16, u 17, u 18, u 19, u 20, u 21, u 22, u 23, u 24, u 25, u 26, u 27, u 28, u 29, u 30, u 31, u 32, u 33, u 34, u 35, u 36, u 37, u 38, u 39, u 40, u 41, u 42, u 43, u 44, u 45, .bool false, u 47, u 48, u 49, u 50, u 51, u 52, u 53, u 54, u 55, u 56, u 57, u 58, u 59, u 60, u 61, u 62, u 63, u 64, u 65, u 66, u 67, u 68, u 69, u 70, u 71], []⟩
theorem frT_of {b : Nat} {s : Str} {es : Value} {a : Act} (h : a = frT b s es (lett a)) : ∃ u, a = frT b s es u := ⟨_, h⟩

set_option maxHeartbeats 64000000 in
set_option maxRecDepth 100000 in
theorem walk (x : Ln) (w : World) (hx : LnOk x) (hL : LaidP w) :
    Calls Tryz.prog 3 #[lineV x] w fun e w' => e = .returned (.bool true) ∧ Below w.heap.size w w' := by
  obtain ⟨W0, hW0⟩ : ∃ W0, w.alloc (.cells (lnCells x) 25) = W0 := ⟨_, rfl⟩
  have hk0 : Kept (fun _ => False) w W0 := by rw [← hW0]; exact (Kept.refl _ w).alloc _
  have hbx : W0.heap[w.heap.size]? = some (.cells (lnCells x) 25 (0, 0)) := by rw [← hW0]; exact heap_new1 w _
  have HX := Lib.hid (fun w1 (hk : Kept (fun _ => False) W0 w1) => (cells7 (hk.at0 hbx)).1)
  have HFIN := Lib.hid (fun w1 (hk : Kept (fun _ => False) W0 w1) => (hk0.trans hk (fun _ _ f => f)).below (Nat.le_refl _) (fun _ f => f.elim))
  have HL := Lib.hid (fun w1 (hk : Kept (fun _ => False) W0 w1) => hL.on0 (hk0.trans hk (fun _ _ f => f)))
  have HU := Lib.hid (up_any W0 (hL.on0 hk0).laid)
  have HXO := Lib.hid hx
  have hq := eql_codes
  clear hk0 hbx hL hx
  by_cases hgo : x.label.length ≤ 1000 ∧ x.target.length ≤ 1000
  case neg =>
    have z1 : (strS x.label).size = x.label.length := strS_size _
    have z3 : (strS x.target).size = x.target.length := strS_size _
    by_cases b1 : x.label.length ≤ 1000
    · have c1 : ¬ (1000 : Int) < ((strS x.label).size : Int) := by omega
      have c3 : (1000 : Int) < ((strS x.target).size : Int) := by omega
      clear hgo b1 z1 z3
      go_enter Tryz.func3, Tryz.ntmps3
      go_wp2_with fail
      refine (HU.out).mono ?_
      rintro e w1 ⟨rfl, hk1⟩
      have HF := Lib.hid (HFIN.out _ hk1)
      obtain ⟨x0, x1, x2, x3, x4, x5, x6⟩ := HX.out _ hk1
      clear hk1
      go_wp2_with fail
      go_ret
      exact ⟨rfl, HF.out⟩
    · have c1 : (1000 : Int) < ((strS x.label).size : Int) := by omega
      clear hgo b1 z1 z3
      go_enter Tryz.func3, Tryz.ntmps3
      go_wp2_with fail
      refine (HU.out).mono ?_
      rintro e w1 ⟨rfl, hk1⟩
      have HF := Lib.hid (HFIN.out _ hk1)
      obtain ⟨x0, x1, x2, x3, x4, x5, x6⟩ := HX.out _ hk1
      clear hk1
      go_wp2_with fail
      go_ret
      exact ⟨rfl, HF.out⟩
  obtain ⟨b1, b3⟩ := hgo
  have c1 : ¬ (1000 : Int) < ((strS x.label).size : Int) := by rw [strS_size]; omega
  have c3 : ¬ (1000 : Int) < ((strS x.target).size : Int) := by rw [strS_size]; omega
  have hl5 : x.label.length ≤ 100000 := by omega
  have ht5 : x.target.length ≤ 100000 := by omega
  clear b1 b3
  go_enter Tryz.func3, Tryz.ntmps3
  go_wp2_with fail
  refine (HU.out).mono ?_
  rintro e w1 ⟨rfl, hk1⟩
  have HPX := Lib.hid (Print_any x w1 (HL.out _ hk1) hl5 ht5 HXO.out.op.1 HXO.out.op.2)
  have HK1 := Lib.hid hk1
  obtain ⟨x0, x1, x2, x3, x4, x5, x6⟩ := HX.out _ hk1
  clear hk1 HU
  go_wp2_with fail
  refine HPX.out.mono ?_
  rintro e w2 ⟨hcase, hk2⟩
  have HK2 := Lib.hid (HK1.out.trans hk2 (fun _ _ f => f))
  obtain ⟨s, es, he, hc⟩ : ∃ s es, e = .returned (.tuple #[.string (strS s), es]) ∧ ((fitsL x = true ∧ s = printL x ∧ es = .nilIface) ∨ (fitsL x = false ∧ s = [] ∧ es = .iface 33 (.int .i64 1))) := by
    rw [print_same] at hcase
    rcases hcase with ⟨s, h1, h2⟩ | ⟨h1, h2⟩
    · cases hf : fitsL x
      · rw [hf, if_neg (by simp)] at h1; cases h1
      · rw [hf, if_pos rfl] at h1
        exact ⟨s, _, h2, .inl ⟨rfl, (Option.some.inj h1).symm, rfl⟩⟩
    · cases hf : fitsL x
      · exact ⟨[], _, h2, .inr ⟨rfl, rfl, rfl⟩⟩
      · rw [hf, if_pos rfl] at h1; cases h1
  subst he
  obtain ⟨ac, hac⟩ : ∃ b, isAccess x.op = b := ⟨_, rfl⟩
  obtain ⟨my, hmy⟩ : ∃ b, mayL x.op x.a x.b x.c x.n = b := ⟨_, rfl⟩
  have HAC := Lib.hid (fun w' => access_any x.op x.a x.b x.c x.n w')
  have HM1 := Lib.hid (fun w' (hk : Kept (fun _ => False) W0 w') => may_any x.op x.a x.b x.c x.n w' (HL.out _ hk).laid HXO.out.op.1 HXO.out.op.2)
  have HM2 := Lib.hid (fun w' => refMay_any x.op x.a x.b x.c x.n w')
  rw [hac] at HAC
  rw [may_same, hmy] at HM1
  rw [hmy] at HM2
  have hac' : (ac = true ∧ 5 ≤ x.op ∧ x.op ≤ 7) ∨ (ac = false ∧ 5 ≤ x.op ∧ decide (x.op ≤ 7) = false) ∨ (ac = false ∧ decide (5 ≤ x.op) = false) := by
    rw [← hac]
    unfold isAccess
    by_cases h1 : 5 ≤ x.op
    · by_cases h2 : x.op ≤ 7
      · left; exact ⟨by rw [decide_eq_true h1, decide_eq_true h2]; rfl, h1, h2⟩
      · right; left; exact ⟨by rw [decide_eq_false h2, Bool.and_false], h1, decide_eq_false h2⟩
    · right; right; exact ⟨by rw [decide_eq_false h1, Bool.false_and], decide_eq_false h1⟩
  obtain ⟨fb, hfb⟩ : ∃ b, fitsL x = b := ⟨_, rfl⟩
  have HFB := Lib.hid hfb
  rw [hfb] at hc
  have HC := Lib.hid hc
  have SF := Lib.hid (fun w' (hk : Kept (fun _ => False) w2 w') => HX.out w' (HK2.out.trans hk (fun _ _ f => f)))
  clear hcase hc hk2 x0 x1 x2 x3 x4 x5 x6 HPX HK1 hac hmy
  obtain ⟨x0, x1, x2, x3, x4, x5, x6⟩ := HX.out _ HK2.out
  have HTAIL : Hid (∀ w6, Kept (fun _ => False) W0 w6 → Calls Tryz.prog 11 #[.agg #[.string (strS x.label), .int .i64 x.op, .int .i64 x.a, .int .i64 x.b, .int .i64 x.c, .int .i64 x.n, .string (strS x.target)]] w6 (BoolTo w6 fb)) := Lib.hid (fun w6 hk => by rw [← hfb]; exact refFits_any x w6 hl5 ht5)
  have HPRT := Lib.hid (fun w6 (hf : fitsL x = true) => refPrint_any x w6 hf hl5 ht5)
  obtain ⟨z1, z2⟩ := empty_yes (s := strS []) rfl
  have hpp : ((strS (printL x)).toList == (strS (printL x)).toList) = true := by rw [str_eq2]; simp
  clear hl5 ht5 hfb
  go_wp2_with fail
  rename_i K hK
  have HT : Hid (∀ act w5, (∃ u, act = frT w.heap.size s es u) → Kept (fun _ => False) W0 w5 → K act w5) := Lib.hid (by
    rintro act w5 ⟨u, rfl⟩ hk5
    apply hK
    have HK5 := Lib.hid hk5
    clear hk5 x0 x1 x2 x3 x4 x5 x6
    obtain ⟨x0, x1, x2, x3, x4, x5, x6⟩ := HX.out _ HK5.out
    unfold frT
    go_wp2_with fail
    refine (HTAIL.out _ HK5.out).mono ?_
    rintro e w6 ⟨rfl, hk6⟩
    have HK6 := Lib.hid (HK5.out.trans hk6 (fun _ _ f => f))
    have HF6 := Lib.hid (HFIN.out _ HK6.out)
    clear hk6 x0 x1 x2 x3 x4 x5 x6
    obtain ⟨x0, x1, x2, x3, x4, x5, x6⟩ := HX.out _ HK6.out
    rcases HC.out with ⟨rfl, rfl, rfl⟩ | ⟨rfl, rfl, rfl⟩
    · go_wp2_with fail
      refine (HPRT.out _ HFB.out).mono ?_
      rintro e w7 ⟨rfl, hk7⟩
      have HF7 := Lib.hid (HFIN.out _ (HK6.out.trans hk7 (fun _ _ f => f)))
      clear hk7
      go_wp2_with fail
      go_ret
      exact ⟨rfl, HF7.out⟩
    · go_wp2_with fail
      go_ret
      exact ⟨rfl, HF6.out⟩)
  clear hK HC HPRT HTAIL HFB HFIN hpp z1 z2
  have hnn : (my != my) = false := by simp
  rcases hac' with ⟨rfl, a1, a2⟩ | ⟨rfl, a1, a2⟩ | ⟨rfl, a1⟩
  · go_region_held3 (fun w' => w'.cell? ⟨w.heap.size, 0, none⟩ = some (.string (strS x.label)) ∧ w'.cell? ⟨w.heap.size, 1, none⟩ = some (.int .i64 x.op) ∧ w'.cell? ⟨w.heap.size, 2, none⟩ = some (.int .i64 x.a) ∧ w'.cell? ⟨w.heap.size, 3, none⟩ = some (.int .i64 x.b) ∧ w'.cell? ⟨w.heap.size, 4, none⟩ = some (.int .i64 x.c) ∧ w'.cell? ⟨w.heap.size, 5, none⟩ = some (.int .i64 x.n) ∧ w'.cell? ⟨w.heap.size, 6, none⟩ = some (.string (strS x.target)))
        (first | exact SF.out _ (Kept.refl _ _) | exact SF.out _ (Kept.refl _ _).drew | exact SF.out _ HKA | exact SF.out _ HKB | exact SF.out _ HKC)
        (first
          | (go_at_call 8; refine (HAC.out _).mono ?_; rintro e w3 ⟨rfl, hk3⟩; have HKA := (Kept.refl (fun _ => False) w2).drew.trans hk3 (fun _ _ f => f))
          | (go_at_call 9; refine (HM1.out _ (HK2.out.trans HKA (fun _ _ f => f))).mono ?_; rintro e w4 ⟨rfl, hk4⟩; have HKB := HKA.trans hk4 (fun _ _ f => f))
          | (go_at_call 10; refine (HM2.out _).mono ?_; rintro e w5 ⟨rfl, hk5⟩; have HKC := HKB.trans hk5 (fun _ _ f => f)))
    exact HT.out _ _ (frT_of (by kernel_rfl)) (HK2.out.trans HKC (fun _ _ f => f))
  · go_region_held3 (fun w' => w'.cell? ⟨w.heap.size, 0, none⟩ = some (.string (strS x.label)) ∧ w'.cell? ⟨w.heap.size, 1, none⟩ = some (.int .i64 x.op) ∧ w'.cell? ⟨w.heap.size, 2, none⟩ = some (.int .i64 x.a) ∧ w'.cell? ⟨w.heap.size, 3, none⟩ = some (.int .i64 x.b) ∧ w'.cell? ⟨w.heap.size, 4, none⟩ = some (.int .i64 x.c) ∧ w'.cell? ⟨w.heap.size, 5, none⟩ = some (.int .i64 x.n) ∧ w'.cell? ⟨w.heap.size, 6, none⟩ = some (.string (strS x.target)))
        (first | exact SF.out _ (Kept.refl _ _) | exact SF.out _ (Kept.refl _ _).drew | exact SF.out _ HKA | exact SF.out _ HKB | exact SF.out _ HKC)
        (first
          | (go_at_call 8; refine (HAC.out _).mono ?_; rintro e w3 ⟨rfl, hk3⟩; have HKA := (Kept.refl (fun _ => False) w2).drew.trans hk3 (fun _ _ f => f))
          | (go_at_call 9; refine (HM1.out _ (HK2.out.trans HKA (fun _ _ f => f))).mono ?_; rintro e w4 ⟨rfl, hk4⟩; have HKB := HKA.trans hk4 (fun _ _ f => f))
          | (go_at_call 10; refine (HM2.out _).mono ?_; rintro e w5 ⟨rfl, hk5⟩; have HKC := HKB.trans hk5 (fun _ _ f => f)))
    exact HT.out _ _ (frT_of (by kernel_rfl)) (HK2.out.trans HKC (fun _ _ f => f))
  · first
      | (go_region_with (first
          | (go_at_call 8; refine (HAC.out _).mono ?_; rintro e w3 ⟨rfl, hk3⟩; have HKA := (Kept.refl (fun _ => False) w2).drew.trans hk3 (fun _ _ f => f); obtain ⟨y0, y1, y2, y3, y4, y5, y6⟩ := SF.out _ HKA)
          | (go_at_call 9; refine (HM1.out _ (HK2.out.trans HKA (fun _ _ f => f))).mono ?_; rintro e w4 ⟨rfl, hk4⟩; have HKB := HKA.trans hk4 (fun _ _ f => f); obtain ⟨v0, v1, v2, v3, v4, v5, v6⟩ := SF.out _ HKB)
          | (go_at_call 10; refine (HM2.out _).mono ?_; rintro e w5 ⟨rfl, hk5⟩; have HKC := HKB.trans hk5 (fun _ _ f => f))))
      | fail
    all_goals exact HT.out _ _ (frT_of (by kernel_rfl)) (HK2.out.trans HKC (fun _ _ f => f))

theorem own : ownKnob Tryz.prog.godebug = none := by kernel_rfl
theorem laidOut : laidOutB Tryz.prog = true := by kernel_rfl

set_option maxRecDepth 100000 in
theorem lifted (os : Os) (started : os.Started) (H : Type) (enc : TypeId × Value → H) :
    ReturnsInHanded {} Tryz.checked os 3 .any (fun w args => (Rows.insPrintsSpec.pre enc Tryz.prog Tryz.f3 [] false w args ∧ laidMetH Tryz.prog rowLaid w) ∧ sizedMet enc Tryz.prog Tryz.f3 (OpenSpec.ofChange Rows.insPrintsSpec) false w args) (Rows.insPrintsSpec.post enc Tryz.prog Tryz.f3 false true false false) := by
  refine handed_laid (C := Tryz.checked) (X := fun w _ => laidMetH Tryz.prog rowLaid w) (fun _ _ _ hh h => h.of_heap hh) own started (by kernel_rfl) Tryz.func3
    (ChangeSpec.witness_shaped (enc := enc) (C := Tryz.checked) (os := os) (X := fun w _ => laidMetH Tryz.prog rowLaid w) false (World.laidAll Tryz.prog os rowLaid) #[.agg #[.string ByteArray.empty, .int .i64 0, .int .i64 0, .int .i64 0, .int .i64 0, .int .i64 0, .string ByteArray.empty]] 8 (World.laidAll_os _ _ _)
      (World.shaped_of_ZipB (by kernel_rfl) (by kernel_rfl)) (by kernel_rfl) (by kernel_rfl) (by kernel_rfl)
      (by rw [MakeChecks.laidMetH_plain _ _ _ (by kernel_rfl)]; exact laidMet_laidAll _ (by kernel_rfl) (by kernel_rfl))) ?_
  intro W base args ds gs before hval0 hW hL hsh
  rw [MakeChecks.laidMetH_plain _ _ _ (by kernel_rfl)] at hL
  have hLaid := laid_of hL hsh
  have hval : ∀ (j : Nat) t v, Tryz.f3.params[j]? = some t → args[j]? = some v → Value.okWide Tryz.prog W .any base t v := hval0
  have hW' := hW
  obtain ⟨p, q, hA0, hV, rfl, hfz, hnd⟩ := hW
  have hA : DataW.TrodAll enc Tryz.prog W 0 (fun _ => true) true Tryz.f3.params.toList args.toList ds p := hA0
  rw [Tryz.params3] at hA hval
  obtain ⟨v0, vs0, d0, ds0, p0, q0, hargs, rfl, rfl, h0, r0⟩ := trodAll_cons hA
  obtain ⟨rfl, rfl, rfl⟩ := trodAll_nil r0
  obtain rfl : args = #[v0] := by cases args; simp_all
  obtain ⟨rfl, rfl⟩ := trodVars_none hV
  have k0 := h0
  have lt0 : ∀ x ∈ p0, x.block < W.heap.size := by obtain ⟨m, hm⟩ := k0; exact DataW.trod_lt m _ _ _ hm
  obtain ⟨x0, rfl, hx0⟩ := ln_of (okWide_struct Tryz.underlying25 (hval 0 25 v0 rfl rfl)) k0
  clear hA0 hval0
  refine (walk x0 W hx0 (laidP_of hL hsh)).mono fun e W' ⟨he, bel⟩ => ?_
  subst he
  exact ⟨_, rfl, _, _, _, [], _, [], hW', trodAll_mk1 (shut_bool Tryz.underlying4 _), (trodAll_cons_mk (Below.trod laidOut (by kernel_rfl) (of_decide_eq_true (by kernel_rfl)) k0 bel lt0) trodAll_mk0), rfl, bel.frame _, fun h => by cases h⟩

theorem over : Rows.insPrintsRow.holds Tryz.pinned (OpenSpec.ofChange Rows.insPrintsSpec) :=
  OpenClaim.holds_of_wide 3 Tryz.f3 rfl rfl rfl rfl rfl rfl rfl ⟨rfl, rfl, rfl, rfl, rfl⟩ rfl rfl rfl rfl rfl (by kernel_rfl) Tryz.func3 (by kernel_rfl)
    (of_decide_eq_true (by kernel_rfl)) (by unfold Func.isWrapper; first | (rw [if_pos (by decide +kernel)]; kernel_rfl) | (rw [if_neg (by decide +kernel)]; exact ⟨rfl, rfl⟩))
    (fun os started H enc _ => lifted os started H enc)

end insPrints
/-- The row's statement. -/
theorem insPrints_row : Rows.InsPrintsSaid := insPrints.over
/-- The statement: the card. -/
theorem insPrints_holds : Rows.InsPrintsCardSaid :=
  Claim7.holds_tied_plain_at .later [] Rows.insPrintsCard.laidKinds true Rows.insPrintsCard.stood.harness Rows.insPrintsCard.stood.looks
    insPrints_row (fun _ h => by cases h) (by kernel_rfl) (fun _ h => by cases h) insPrints_row_tie rfl ⟨rfl, rfl⟩ (by kernel_rfl) rfl
    (fun f fn hf hfn => by
      obtain rfl : f = 3 := Option.some.inj ((show Tryz.prog.funcNamed "thole/tholelaw07.InsPrints" = some 3 by kernel_rfl).symm.trans hf) |>.symm
      obtain rfl : fn = Tryz.f3 := (Option.some.inj (Tryz.func3.symm.trans hfn)).symm
      exact ⟨by kernel_rfl, fun j t ht => by
        rw [Tryz.params3] at ht
        have hm : t ∈ [25] := by simpa using Array.mem_of_getElem? ht
        have hall : ([25].all fun u => !Tryz.prog.wantsStandIn u) = true := by kernel_rfl
        exact (show Tryz.prog.wantsStandIn t = false by simpa using List.all_eq_true.1 hall t hm)⟩)
    (by kernel_rfl)
end Go.Proofs.YtibgkhfadlgonaaGreatDoor
