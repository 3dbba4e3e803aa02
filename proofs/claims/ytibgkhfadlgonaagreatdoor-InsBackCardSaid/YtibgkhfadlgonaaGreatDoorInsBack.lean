/-
  For every input the statement InsBack answers true: what was printed is parsed as it was; what was parsed, and printed, is parsed as it was.
  Conditions: none.
-/
import Derived.Test.YtibgkhfadlgonaaGreatDoorInsArg
import Derived.Test.YtibgkhfadlgonaaGreatDoorLineName
import Derived.Laws.Concat
import Derived.WalkKit
import Derived.ProofKit
import Derived.OpenShut
namespace Go.Proofs.YtibgkhfadlgonaaGreatDoor
namespace insBack
open Go.ChangeShapes Go.WideShapes Go.ChangeAt Go.RowKit
set_option linter.unusedVariables false

/-- What Parse of a text that was printed leaves. -/
theorem parse_some {w w1 : World} {x : Ln} {e : Ending} (h : EndTo w (some x) e w1) : e = .returned (.tuple #[lnV x, .nilIface]) ∧ Kept (fun _ => False) w w1 := by
  obtain ⟨⟨y, h1, h2⟩ | ⟨h1, _⟩, hk⟩ := h
  · simp only [Option.some.injEq] at h1
    subst h1
    exact ⟨h2, hk⟩
  · cases h1

theorem spec_len : ∀ j, j < 22 → (specL ((j + 1 : Nat) : Int)).1.length ≤ 10 ∧ (specL ((j + 1 : Nat) : Int)).2.length ≤ 3 := by decide +kernel
theorem text_len (x : Ln) (hl : x.label.length ≤ 1000) (ht : x.target.length ≤ 1000) : (printL x).length ≤ 5000 := by
  unfold printL
  split
  · simp; omega
  · split
    · simp
    · rename_i h
      obtain ⟨j, hj⟩ : ∃ j : Nat, x.op = ((j + 1 : Nat) : Int) := ⟨(x.op - 1).toNat, by omega⟩
      have h1 := spec_len j (by omega)
      rw [hj]
      have key : ∀ l : Str, (l.flatMap (fun h => 32 :: fieldL h x)).length ≤ l.length * 1001 := by
        have hf : ∀ h, (fieldL h x).length ≤ 1000 := by
          intro h
          unfold fieldL regT
          have ha := decI_len x.a
          have hb := decI_len x.b
          have hc := decI_len x.c
          have hn := decI_len x.n
          repeat' split
          all_goals first | (simp only [List.length_cons]; omega) | omega
        intro l
        induction l with
        | nil => simp
        | cons h l ih =>
          have := hf h
          simp only [List.flatMap_cons, List.length_append, List.length_cons]
          omega
      have h2 := key (specL ((j + 1 : Nat) : Int)).2
      rw [List.length_append]
      omega
/-- What was parsed is short. -/
theorem fits_short {x : Ln} (h : fitsL x = true) : x.label.length ≤ 24 ∧ x.target.length ≤ 24 ∧ 0 ≤ x.op ∧ x.op ≤ 22 := by
  have nm : ∀ l : Str, isName l = true → l.length ≤ 24 := by
    intro l hl
    rcases Nat.lt_or_ge 24 l.length with h1 | h1
    · rw [isName_short (.inr h1)] at hl; cases hl
    · exact h1
  unfold fitsL at h
  split at h
  · simp only [Bool.and_eq_true, decide_eq_true_eq] at h
    have h1 := congrArg Ln.op h.2
    have h2 := congrArg Ln.target h.2
    have h3 : x.op = 0 := h1
    have h4 : x.target = [] := h2
    refine ⟨nm _ h.1, by rw [h4]; simp, by omega, by omega⟩
  · rename_i hl
    have hl0 : x.label.length = 0 := by simp at hl; rw [hl]; rfl
    split at h
    · rw [decide_eq_true_eq] at h
      subst h
      decide
    · simp only [Bool.and_eq_true] at h
      obtain ⟨h1, h2⟩ := h
      have hop : 1 ≤ x.op ∧ x.op ≤ 22 := by
        unfold mayL at h1
        simp only [Bool.and_eq_true, decide_eq_true_eq] at h1
        omega
      refine ⟨by omega, ?_, by omega, by omega⟩
      split at h2
      · simp only [Bool.and_eq_true] at h2
        exact nm _ h2.2
      · rw [decide_eq_true_eq] at h2
        rw [h2]; simp

/-- What Print of a line that may be leaves. -/
theorem print_some {w w1 : World} {x : Ln} {e : Ending} (h : PrintedTo w (printP x) e w1) (hf : fitsL x = true) : e = .returned (.tuple #[.string (strS (printL x)), .nilIface]) ∧ Kept (fun _ => False) w w1 := by
  rw [print_same, if_pos hf] at h
  obtain ⟨⟨y, h1, h2⟩ | ⟨h1, _⟩, hk⟩ := h
  · simp only [Option.some.injEq] at h1
    subst h1
    exact ⟨h2, hk⟩
  · cases h1

set_option maxHeartbeats 8000000 in
set_option maxRecDepth 100000 in
theorem walk (x : Ln) (line : ByteArray) (hline : line.size ≤ maxLen) (w : World) (hx : LnOk x) (hL : LaidP w) :
    Calls Tryz.prog 4 #[lineV x, .string line] w fun e w' => e = .returned (.bool true) ∧ Below w.heap.size w w' := by
  obtain ⟨W0, hW0⟩ : ∃ W0, w.alloc (.cells (lnCells x) 25) = W0 := ⟨_, rfl⟩
  have hk0 : Kept (fun _ => False) w W0 := by rw [← hW0]; exact (Kept.refl _ w).alloc _
  have hbx : W0.heap[w.heap.size]? = some (.cells (lnCells x) 25 (0, 0)) := by rw [← hW0]; exact heap_new1 w _
  have HX := Lib.hid (fun w1 (hk : Kept (fun _ => False) W0 w1) => (cells7 (hk.at0 hbx)).1)
  have HFIN := Lib.hid (fun w1 (hk : Kept (fun _ => False) W0 w1) => (hk0.trans hk (fun _ _ f => f)).below (Nat.le_refl _) (fun _ f => f.elim))
  have HL := Lib.hid (fun w1 (hk : Kept (fun _ => False) W0 w1) => hL.on0 (hk0.trans hk (fun _ _ f => f)))
  have HU := Lib.hid (up_any W0 (hL.on0 hk0).laid)
  have HXO := Lib.hid hx
  have g1 := guard_line
  have hlt0 : w.heap.size < W0.heap.size := (Array.getElem?_eq_some_iff.1 hbx).1
  clear hk0 hbx hL hx
  by_cases hgo : x.label.length ≤ 1000 ∧ x.target.length ≤ 1000 ∧ line.size ≤ 1000
  case neg =>
    have z1 : (strS x.label).size = x.label.length := strS_size _
    have z3 : (strS x.target).size = x.target.length := strS_size _
    by_cases b1 : x.label.length ≤ 1000
    · have c1 : ¬ (1000 : Int) < ((strS x.label).size : Int) := by omega
      by_cases b3 : x.target.length ≤ 1000
      · have c3 : ¬ (1000 : Int) < ((strS x.target).size : Int) := by omega
        have c4 : (1000 : Int) < (line.size : Int) := by omega
        clear hgo b1 b3 z1 z3
        go_enter Tryz.func4, Tryz.ntmps4
        go_wp2_with fail
        refine (HU.out).mono ?_
        rintro e w1 ⟨rfl, hk1⟩
        have HF := Lib.hid (HFIN.out _ hk1)
        obtain ⟨x0, x1, x2, x3, x4, x5, x6⟩ := HX.out _ hk1
        clear hk1
        go_wp2_with fail
        go_ret
        exact ⟨rfl, HF.out⟩
      · have c3 : (1000 : Int) < ((strS x.target).size : Int) := by omega
        clear hgo b1 b3 z1 z3
        go_enter Tryz.func4, Tryz.ntmps4
        go_wp2_with fail
        refine (HU.out).mono ?_
        rintro e w1 ⟨rfl, hk1⟩
        have HF := Lib.hid (HFIN.out _ hk1)
        obtain ⟨x0, x1, x2, x3, x4, x5, x6⟩ := HX.out _ hk1
        clear hk1
        go_wp2_with fail
        go_ret
        exact ⟨rfl, HF.out⟩
    · have c1 : (1000 : Int) < ((strS x.label).size : Int) := by omega
      clear hgo b1 z1 z3
      go_enter Tryz.func4, Tryz.ntmps4
      go_wp2_with fail
      refine (HU.out).mono ?_
      rintro e w1 ⟨rfl, hk1⟩
      have HF := Lib.hid (HFIN.out _ hk1)
      obtain ⟨x0, x1, x2, x3, x4, x5, x6⟩ := HX.out _ hk1
      clear hk1
      go_wp2_with fail
      go_ret
      exact ⟨rfl, HF.out⟩
  obtain ⟨b1, b3, b4⟩ := hgo
  have c1 : ¬ (1000 : Int) < ((strS x.label).size : Int) := by rw [strS_size]; omega
  have c3 : ¬ (1000 : Int) < ((strS x.target).size : Int) := by rw [strS_size]; omega
  have c4 : ¬ (1000 : Int) < (line.size : Int) := by omega
  go_enter Tryz.func4, Tryz.ntmps4
  go_wp2_with fail
  refine (HU.out).mono ?_
  rintro e w1 ⟨rfl, hk1⟩
  have HPX := Lib.hid (Print_any x w1 (HL.out _ hk1) (by omega) (by omega) HXO.out.op.1 HXO.out.op.2)
  have HK1 := Lib.hid hk1
  obtain ⟨x0, x1, x2, x3, x4, x5, x6⟩ := HX.out _ hk1
  clear hk1 HU
  go_wp2_with fail
  refine HPX.out.mono ?_
  rintro e w2 ⟨hcase, hk2⟩
  have HK2 := Lib.hid (HK1.out.trans hk2 (fun _ _ f => f))
  obtain ⟨s, es, he, hc⟩ : ∃ s es, e = .returned (.tuple #[.string (strS s), es]) ∧ ((printP x = some s ∧ es = .nilIface) ∨ (printP x = none ∧ es = .iface 33 (.int .i64 1))) := by
    rcases hcase with ⟨s, h1, h2⟩ | ⟨h1, h2⟩
    · exact ⟨s, _, h2, .inl ⟨h1, rfl⟩⟩
    · exact ⟨[], _, h2, .inr ⟨h1, rfl⟩⟩
  subst he
  clear hcase hk2 x0 x1 x2 x3 x4 x5 x6 HPX HK1
  have HB4 := Lib.hid b4
  have HSEC := Lib.hid (fun wz (hkz : Kept (fun _ => False) W0 wz) => parse_any line wz (HL.out _ hkz).laid (by have := HB4.out; omega))
  rcases hc with ⟨p1, rfl⟩ | ⟨_, rfl⟩
  case' inl =>
    obtain ⟨f1, q1⟩ := printed_is p1
    subst q1
    have htl := text_len x b1 b3
    have hp1 := parse_any (strS (printL x)) w2 (HL.out _ HK2.out).laid (by rw [strS_size]; omega)
    rw [bytesS_str, core_back f1] at hp1
    have HP1 := Lib.hid hp1
    have HF1 := Lib.hid f1
    have HTL := Lib.hid htl
    clear hp1 p1 f1 htl b1 b3 b4 c1 c3 c4
    go_wp2_with fail
    refine HP1.out.mono ?_
    intro e w3 hend
    obtain ⟨rfl, hk3⟩ := parse_some hend
    have HM3 := Lib.hid (heap_new1 w3 (.cells (lnCells x) 25))
    have HK3 := Lib.hid ((HK2.out.trans hk3 (fun _ _ f => f)).alloc (.cells (lnCells x) 25))
    have hlt3 : W0.heap.size ≤ w3.heap.size := (HK2.out.trans hk3 (fun _ _ f => f)).size
    have hadd1 : ∀ (w' : World), (Op.stringOp .add ({ data := #[32, 9] } : ByteArray) (strS (printL x))).run Tryz.prog w' = .ok (.string (strS (32 :: 9 :: printL x))) w' := fun w' => by
      have := run_string_add_sum (P := Tryz.prog) w' (strS [32, 9]) (strS (printL x)) (by rw [strS_size, strS_size]; have := HTL.out; simp; omega)
      rw [strS_add] at this
      exact this
    have hadd2 : ∀ (w' : World), (Op.stringOp .add (strS (32 :: 9 :: printL x)) ({ data := #[32] } : ByteArray)).run Tryz.prog w' = .ok (.string (strS ([32, 9] ++ printL x ++ [32]))) w' := fun w' => by
      have := run_string_add_sum (P := Tryz.prog) w' (strS (32 :: 9 :: printL x)) (strS [32]) (by rw [strS_size, strS_size]; have := HTL.out; simp; omega)
      rw [strS_add] at this
      exact this
    have hp2 := parse_any (strS ([32, 9] ++ printL x ++ [32])) (w3.alloc (.cells (lnCells x) 25)) (HL.out _ HK3.out).laid (by rw [strS_size]; have := HTL.out; simp; omega)
    rw [bytesS_str, parse_back HF1.out (by decide) (by decide)] at hp2
    have HP2 := Lib.hid hp2
    clear hp2 hend hk3 HP1
    go_wp2_with fail
    refine HP2.out.mono ?_
    intro e w4 hend
    obtain ⟨rfl, hk4⟩ := parse_some hend
    have HK4 := Lib.hid ((HK3.out.trans hk4 (fun _ _ f => f)).alloc (.cells (lnCells x) 25))
    have hlt4 : w3.heap.size < w4.heap.size := (Array.getElem?_eq_some_iff.1 (hk4.at0 HM3.out)).1
    have HM4 := Lib.hid (cells7 (((Kept.refl (fun _ => False) w4).alloc (.cells (lnCells x) 25)).at0 (hk4.at0 HM3.out))).1
    obtain ⟨x0, x1, x2, x3, x4, x5, x6⟩ := HX.out _ HK4.out
    obtain ⟨m0, m1, m2, m3, m4, m5, m6⟩ := HM4.out
    have he : ∀ w, (Op.equalIn 10000 25 (.agg #[.string (strS x.label), .int .i64 x.op, .int .i64 x.a, .int .i64 x.b, .int .i64 x.c, .int .i64 x.n, .string (strS x.target)]) (.agg #[.string (strS x.label), .int .i64 x.op, .int .i64 x.a, .int .i64 x.b, .int .i64 x.c, .int .i64 x.n, .string (strS x.target)])).run Tryz.prog w = .ok true w := fun w => by
      have := eq_line x x w
      rw [decide_eq_true rfl] at this
      exact this
    have hkz := HK4.out
    have HP := Lib.hid (HSEC.out _ hkz)
    have HKZ := Lib.hid hkz
    clear hend hk4 HP2 hkz hadd1 hadd2
  case' inr =>
    have hkz := HK2.out
    have HP := Lib.hid (HSEC.out _ hkz)
    have HKZ := Lib.hid hkz
    clear hkz b1 b3 b4 c1 c3 c4
  all_goals (
    go_wp2_with fail
    refine HP.out.mono ?_
    rintro e w6 ⟨hcase, hk6⟩
    rcases hcase with ⟨y, hy, rfl⟩ | ⟨_, rfl⟩
    case inr =>
      have HF := Lib.hid (HFIN.out _ ((HKZ.out.trans hk6 (fun _ _ f => f)).alloc (.cells (lnCells zeroLn) 25)))
      clear hk6
      go_wp2_with fail
      go_ret
      exact ⟨rfl, HF.out⟩
    have hfy := core_fits hy
    obtain ⟨n1, n2, n3, n4⟩ := fits_short hfy
    have HFY := Lib.hid hfy
    have HMY := Lib.hid (heap_new1 w6 (.cells (lnCells y) 25))
    have HK6 := Lib.hid ((HKZ.out.trans hk6 (fun _ _ f => f)).alloc (.cells (lnCells y) 25))
    have HPR := Lib.hid (Print_any y (w6.alloc (.cells (lnCells y) 25)) (HL.out _ HK6.out) (by omega) (by omega) (by omega) (by omega))
    have HTY := Lib.hid (text_len y (by omega) (by omega))
    clear hfy n1 n2 n3 n4 hy hk6 HP
    go_wp2_with fail
    refine HPR.out.mono ?_
    intro e w7 hend
    obtain ⟨rfl, hk7⟩ := print_some hend HFY.out
    have HK7 := Lib.hid (HK6.out.trans hk7 (fun _ _ f => f))
    have HMY7 := Lib.hid (hk7.at0 HMY.out)
    have hp3 := parse_any (strS (printL y)) w7 (HL.out _ HK7.out).laid (by rw [strS_size]; have := HTY.out; omega)
    rw [bytesS_str, core_back HFY.out] at hp3
    have HP3 := Lib.hid hp3
    clear hp3 hend hk7 HPR
    go_wp2_with fail
    refine HP3.out.mono ?_
    intro e w8 hend
    obtain ⟨rfl, hk8⟩ := parse_some hend
    have hlt8 : w6.heap.size < w8.heap.size := (Array.getElem?_eq_some_iff.1 (hk8.at0 HMY7.out)).1
    obtain ⟨k0, k1, k2, k3, k4, k5, k6⟩ := (cells7 (((Kept.refl (fun _ => False) w8).alloc (.cells (lnCells y) 25)).at0 (hk8.at0 HMY7.out))).1
    have HF := Lib.hid (HFIN.out _ ((HK7.out.trans hk8 (fun _ _ f => f)).alloc (.cells (lnCells y) 25)))
    have hey : ∀ w, (Op.equalIn 10000 25 (.agg #[.string (strS y.label), .int .i64 y.op, .int .i64 y.a, .int .i64 y.b, .int .i64 y.c, .int .i64 y.n, .string (strS y.target)]) (.agg #[.string (strS y.label), .int .i64 y.op, .int .i64 y.a, .int .i64 y.b, .int .i64 y.c, .int .i64 y.n, .string (strS y.target)])).run Tryz.prog w = .ok true w := fun w => by
      have := eq_line y y w
      rw [decide_eq_true rfl] at this
      exact this
    clear hend hk8 HP3
    go_wp2_with fail
    go_ret
    exact ⟨rfl, HF.out⟩)

theorem own : ownKnob Tryz.prog.godebug = none := by kernel_rfl
theorem laidOut : laidOutB Tryz.prog = true := by kernel_rfl

set_option maxRecDepth 100000 in
theorem lifted (os : Os) (started : os.Started) (H : Type) (enc : TypeId × Value → H) :
    ReturnsInHanded {} Tryz.checked os 4 .any (fun w args => (Rows.insBackSpec.pre enc Tryz.prog Tryz.f4 [] false w args ∧ laidMetH Tryz.prog rowLaid w) ∧ sizedMet enc Tryz.prog Tryz.f4 (OpenSpec.ofChange Rows.insBackSpec) false w args) (Rows.insBackSpec.post enc Tryz.prog Tryz.f4 false true false false) := by
  refine handed_laid (C := Tryz.checked) (X := fun w _ => laidMetH Tryz.prog rowLaid w) (fun _ _ _ hh h => h.of_heap hh) own started (by kernel_rfl) Tryz.func4
    (ChangeSpec.witness_shaped (enc := enc) (C := Tryz.checked) (os := os) (X := fun w _ => laidMetH Tryz.prog rowLaid w) false (World.laidAll Tryz.prog os rowLaid) #[.agg #[.string ByteArray.empty, .int .i64 0, .int .i64 0, .int .i64 0, .int .i64 0, .int .i64 0, .string ByteArray.empty], .string ByteArray.empty] 8 (World.laidAll_os _ _ _)
      (World.shaped_of_ZipB (by kernel_rfl) (by kernel_rfl)) (by kernel_rfl) (by kernel_rfl) (by kernel_rfl)
      (by rw [MakeChecks.laidMetH_plain _ _ _ (by kernel_rfl)]; exact laidMet_laidAll _ (by kernel_rfl) (by kernel_rfl))) ?_
  intro W base args ds gs before hval0 hW hL hsh
  rw [MakeChecks.laidMetH_plain _ _ _ (by kernel_rfl)] at hL
  have hLaid := laid_of hL hsh
  have hval : ∀ (j : Nat) t v, Tryz.f4.params[j]? = some t → args[j]? = some v → Value.okWide Tryz.prog W .any base t v := hval0
  have hW' := hW
  obtain ⟨p, q, hA0, hV, rfl, hfz, hnd⟩ := hW
  have hA : DataW.TrodAll enc Tryz.prog W 0 (fun _ => true) true Tryz.f4.params.toList args.toList ds p := hA0
  rw [Tryz.params4] at hA hval
  obtain ⟨v0, vs0, d0, ds0, p0, q0, hargs, rfl, rfl, h0, r0⟩ := trodAll_cons hA
  obtain ⟨v1, vs1, d1, ds1, p1, q1, rfl, rfl, rfl, h1, r1⟩ := trodAll_cons r0
  obtain ⟨rfl, rfl, rfl⟩ := trodAll_nil r1
  obtain rfl : args = #[v0, v1] := by cases args; simp_all
  obtain ⟨rfl, rfl⟩ := trodVars_none hV
  have k0 := h0
  have lt0 : ∀ x ∈ p0, x.block < W.heap.size := by obtain ⟨m, hm⟩ := k0; exact DataW.trod_lt m _ _ _ hm
  obtain ⟨x0, rfl, hx0⟩ := ln_of (okWide_struct Tryz.underlying25 (hval 0 25 v0 rfl rfl)) k0
  obtain ⟨a1, rfl, rfl, rfl, w1⟩ := Go.ChangeMaps.open_string Tryz.underlying9 (hval 1 9 v1 rfl rfl) h1
  clear hA0 hval0
  refine (walk x0 a1 w1 W hx0 (laidP_of hL hsh)).mono fun e W' ⟨he, bel⟩ => ?_
  subst he
  exact ⟨_, rfl, _, _, _, [], _, [], hW', trodAll_mk1 (shut_bool Tryz.underlying4 _), (trodAll_cons_mk (Below.trod laidOut (by kernel_rfl) (of_decide_eq_true (by kernel_rfl)) k0 bel lt0) (trodAll_cons_mk (Go.ChangeMaps.shut_string Tryz.underlying9 w1) trodAll_mk0)), rfl, bel.frame _, fun h => by cases h⟩

theorem over : Rows.insBackRow.holds Tryz.pinned (OpenSpec.ofChange Rows.insBackSpec) :=
  OpenClaim.holds_of_wide 4 Tryz.f4 rfl rfl rfl rfl rfl rfl rfl ⟨rfl, rfl, rfl, rfl, rfl⟩ rfl rfl rfl rfl rfl (by kernel_rfl) Tryz.func4 (by kernel_rfl)
    (of_decide_eq_true (by kernel_rfl)) (by unfold Func.isWrapper; first | (rw [if_pos (by decide +kernel)]; kernel_rfl) | (rw [if_neg (by decide +kernel)]; exact ⟨rfl, rfl⟩))
    (fun os started H enc _ => lifted os started H enc)

end insBack
/-- The row's statement. -/
theorem insBack_row : Rows.InsBackSaid := insBack.over
/-- The statement: the card. -/
theorem insBack_holds : Rows.InsBackCardSaid :=
  Claim7.holds_tied_plain_at .later [] Rows.insBackCard.laidKinds true Rows.insBackCard.stood.harness Rows.insBackCard.stood.looks
    insBack_row (fun _ h => by cases h) (by kernel_rfl) (fun _ h => by cases h) insBack_row_tie rfl ⟨rfl, rfl⟩ (by kernel_rfl) rfl
    (fun f fn hf hfn => by
      obtain rfl : f = 4 := Option.some.inj ((show Tryz.prog.funcNamed "thole/tholelaw07.InsBack" = some 4 by kernel_rfl).symm.trans hf) |>.symm
      obtain rfl : fn = Tryz.f4 := (Option.some.inj (Tryz.func4.symm.trans hfn)).symm
      exact ⟨by kernel_rfl, fun j t ht => by
        rw [Tryz.params4] at ht
        have hm : t ∈ [25, 9] := by simpa using Array.mem_of_getElem? ht
        have hall : ([25, 9].all fun u => !Tryz.prog.wantsStandIn u) = true := by kernel_rfl
        exact (show Tryz.prog.wantsStandIn t = false by simpa using List.all_eq_true.1 hall t hm)⟩)
    (by kernel_rfl)
end Go.Proofs.YtibgkhfadlgonaaGreatDoor
