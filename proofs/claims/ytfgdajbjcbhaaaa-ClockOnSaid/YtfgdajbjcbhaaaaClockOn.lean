/-
  For every input the statement ClockOn answers true: the time never goes back; a deadline of no wait is due at once; what is due stays so.
  Conditions: none.
-/
import Derived.Test.YtfgdajbjcbhaaaaClockUp
import Derived.WalkKit
import Derived.ProofKit
import Derived.OpenShut
import Derived.LoopTactic
import Derived.Deep.QuietTactic
import Derived.BigQuiet
namespace Go.Proofs.Ytfgdajbjcbhaaaa
namespace clockOn
open Go.ChangeShapes Go.WideShapes Go.ChangeAt Go.RowKit
set_option linter.unusedVariables false

theorem below_of {W w : World} (h : Kept (fun k => W.heap.size ≤ k) W w) : Below W.heap.size W w := h.below (Nat.le_refl _) (fun _ h => h)

theorem head (a0 a1 a2 a3 : Int) (b0 : -9223372036854775808 ≤ a0 ∧ a0 ≤ 9223372036854775807) (b1 : -9223372036854775808 ≤ a1 ∧ a1 ≤ 9223372036854775807) (b2 : -9223372036854775808 ≤ a2 ∧ a2 ≤ 9223372036854775807) (w : World)
    (h : a0 < 0 ∨ a1 < -1 ∨ a2 < 0) :
    Calls Try.prog 5 #[.int .i64 a0, .int .i64 a1, .int .i64 a2, .int .i64 a3] w fun e w' => e = .returned (.bool true) ∧ Below w.heap.size w w' := by
  by_cases h1 : a0 < 0 ∨ a1 < -1
  · by_cases h2 : a0 < 0 ∨ a2 < 0
    · go_enter Try.func5, Try.ntmps5
      go_wp2_with fail
      refine (clockUp_any _).mono ?_
      rintro e w1 ⟨rfl, hk⟩
      go_wp2_with fail
      refine (deadline_bad a0 a1 _ h1).mono ?_
      rintro e w2 ⟨rfl, rfl⟩
      go_wp2_with fail
      refine (add_bad a0 a2 _ h2).mono ?_
      rintro e w2 ⟨rfl, rfl⟩
      go_wp2_with fail
      go_ret
      exact ⟨rfl, below_of hk⟩
    · go_enter Try.func5, Try.ntmps5
      go_wp2_with fail
      refine (clockUp_any _).mono ?_
      rintro e w1 ⟨rfl, hk⟩
      go_wp2_with fail
      refine (deadline_bad a0 a1 _ h1).mono ?_
      rintro e w2 ⟨rfl, rfl⟩
      go_wp2_with fail
      refine (add_ok a0 a2 _ (by omega) (by omega) (by omega) (by omega) _ rfl).mono ?_
      rintro e w2 ⟨rfl, rfl⟩
      go_wp2_with fail
      go_ret
      exact ⟨rfl, below_of hk⟩
  · have h2 : a2 < 0 := by omega
    by_cases h3 : a1 = -1
    · subst h3
      go_enter Try.func5, Try.ntmps5
      go_wp2_with fail
      refine (clockUp_any _).mono ?_
      rintro e w1 ⟨rfl, hk⟩
      go_wp2_with fail
      refine (deadline_forever a0 _ (by omega)).mono ?_
      rintro e w2 ⟨rfl, rfl⟩
      go_wp2_with fail
      refine (add_bad a0 a2 _ (.inr h2)).mono ?_
      rintro e w2 ⟨rfl, rfl⟩
      go_wp2_with fail
      go_ret
      exact ⟨rfl, below_of hk⟩
    · go_enter Try.func5, Try.ntmps5
      go_wp2_with fail
      refine (clockUp_any _).mono ?_
      rintro e w1 ⟨rfl, hk⟩
      go_wp2_with fail
      refine (deadline_ok a0 a1 _ (by omega) (by omega) (by omega) (by omega) _ rfl).mono ?_
      rintro e w2 ⟨rfl, rfl⟩
      go_wp2_with fail
      refine (add_bad a0 a2 _ (.inr h2)).mono ?_
      rintro e w2 ⟨rfl, rfl⟩
      go_wp2_with fail
      go_ret
      exact ⟨rfl, below_of hk⟩

/-- What a wait comes to. -/
def waitF (now n : Int) : Int := if n = -1 then -1 else laterF now n

theorem deadline_any (now n : Int) (w : World) (h : 0 ≤ now) (h1 : now ≤ 9223372036854775807) (h2 : -1 ≤ n) (h3 : n ≤ 9223372036854775807) (r : Int) (hr : waitF now n = r) :
    Calls Try.prog 9 #[.int .i64 now, .int .i64 n] w fun e w' => e = .returned (.tuple #[.int .i64 r, .nilIface]) ∧ w = w' := by
  by_cases hn : n = -1
  · subst hn
    subst hr
    exact deadline_forever now w h
  · exact deadline_ok now n w h h1 (by omega) h3 r (by rw [← hr, waitF, if_neg hn])

theorem walk (a0 a1 a2 a3 : Int) (w0 : (Lit.int .i64 a0).wf = true) (w1 : (Lit.int .i64 a1).wf = true) (w2 : (Lit.int .i64 a2).wf = true) (w3 : (Lit.int .i64 a3).wf = true) (w : World) :
    Calls Try.prog 5 #[.int .i64 a0, .int .i64 a1, .int .i64 a2, .int .i64 a3] w fun e w' => e = .returned (.bool true) ∧ Below w.heap.size w w' := by
  have b0 := bounds_i64 w0
  have b1 := bounds_i64 w1
  have b2 := bounds_i64 w2
  have b3 := bounds_i64 w3
  clear w0 w1 w2 w3
  by_cases h : a0 < 0 ∨ a1 < -1 ∨ a2 < 0
  · exact head a0 a1 a2 a3 b0 b1 b2 w h
  have hx := laterF_in a0 a2 (by omega) (by omega) (by omega)
  obtain ⟨x, hx0⟩ : ∃ x, laterF a0 a2 = x := ⟨_, rfl⟩
  rw [hx0] at hx
  have HX := Lib.hid hx0; clear hx0
  obtain ⟨d, hd0⟩ : ∃ d, waitF a0 a1 = d := ⟨_, rfl⟩
  have HD := Lib.hid hd0; clear hd0
  by_cases h3 : a3 < 0
  · go_enter Try.func5, Try.ntmps5
    go_wp2_with fail
    refine (clockUp_any _).mono ?_
    rintro e w1 ⟨rfl, hk⟩
    go_wp2_with fail
    refine (deadline_any a0 a1 _ (by omega) (by omega) (by omega) (by omega) _ HD.out).mono ?_
    rintro e w2 ⟨rfl, rfl⟩
    go_wp2_with fail
    refine (add_ok a0 a2 _ (by omega) (by omega) (by omega) (by omega) _ HX.out).mono ?_
    rintro e w2 ⟨rfl, rfl⟩
    go_wp2_with fail
    refine (add_bad x a3 _ (.inr h3)).mono ?_
    rintro e w2 ⟨rfl, rfl⟩
    go_wp2_with fail
    go_ret
    exact ⟨rfl, below_of hk⟩
  have hy := laterF_in x a3 (by omega) (by omega) (by omega)
  obtain ⟨y, hy0⟩ : ∃ y, laterF x a3 = y := ⟨_, rfl⟩
  rw [hy0] at hy
  have HY := Lib.hid hy0; clear hy0
  have hz : waitF a0 0 = a0 := by unfold waitF laterF; omega
  have HZ := Lib.hid hz; clear hz
  have hnow : dueF a0 a0 = true := (dueF_iff _ _).2 (by omega)
  have HN := Lib.hid hnow; clear hnow
  obtain ⟨p, hp0⟩ : ∃ p, dueF x d = p := ⟨_, rfl⟩
  obtain ⟨q, hq0⟩ : ∃ q, dueF y d = q := ⟨_, rfl⟩
  have hpq : p = true → q = true := by
    intro h; rw [← hp0, dueF_iff] at h; rw [← hq0, dueF_iff]; omega
  have hq1 : a1 = -1 → q = false := by
    intro h
    have hd : d = -1 := by rw [← HD.out, waitF, if_pos h]
    cases q with
    | false => rfl
    | true => rw [dueF_iff] at hq0; omega
  have HP := Lib.hid hp0; clear hp0
  have HQ := Lib.hid hq0; clear hq0
  by_cases h4 : a1 = -1
  · obtain rfl := hq1 h4
    obtain rfl : p = false := by cases p with
      | false => rfl
      | true => exact absurd (hpq rfl) (by simp)
    subst h4
    clear hpq hq1
    go_enter Try.func5, Try.ntmps5
    go_wp2_with fail
    refine (clockUp_any _).mono ?_
    rintro e w1 ⟨rfl, hk⟩
    go_wp2_with fail
    refine (deadline_any a0 _ _ (by omega) (by omega) (by omega) (by omega) _ HD.out).mono ?_
    rintro e w2 ⟨rfl, rfl⟩
    go_wp2_with fail
    refine (add_ok a0 a2 _ (by omega) (by omega) (by omega) (by omega) _ HX.out).mono ?_
    rintro e w2 ⟨rfl, rfl⟩
    go_wp2_with fail
    refine (add_ok x a3 _ (by omega) (by omega) (by omega) (by omega) _ HY.out).mono ?_
    rintro e w2 ⟨rfl, rfl⟩
    go_wp2_with fail
    refine (due_any x d _ _ HP.out).mono ?_
    rintro e w2 ⟨rfl, rfl⟩
    go_wp2_with fail
    refine (deadline_any a0 0 _ (by omega) (by omega) (by omega) (by omega) _ HZ.out).mono ?_
    rintro e w2 ⟨rfl, rfl⟩
    go_wp2_with fail
    refine (due_any a0 a0 _ _ HN.out).mono ?_
    rintro e w2 ⟨rfl, rfl⟩
    go_wp2_with fail
    refine (due_any y d _ _ HQ.out).mono ?_
    rintro e w2 ⟨rfl, rfl⟩
    go_wp2_with fail
    go_ret
    exact ⟨rfl, below_of hk⟩
  · clear hq1
    cases p with
    | true =>
      obtain rfl := hpq rfl
      clear hpq
      go_enter Try.func5, Try.ntmps5
      go_wp2_with fail
      refine (clockUp_any _).mono ?_
      rintro e w1 ⟨rfl, hk⟩
      go_wp2_with fail
      refine (deadline_any a0 _ _ (by omega) (by omega) (by omega) (by omega) _ HD.out).mono ?_
      rintro e w2 ⟨rfl, rfl⟩
      go_wp2_with fail
      refine (add_ok a0 a2 _ (by omega) (by omega) (by omega) (by omega) _ HX.out).mono ?_
      rintro e w2 ⟨rfl, rfl⟩
      go_wp2_with fail
      refine (add_ok x a3 _ (by omega) (by omega) (by omega) (by omega) _ HY.out).mono ?_
      rintro e w2 ⟨rfl, rfl⟩
      go_wp2_with fail
      refine (due_any x d _ _ HP.out).mono ?_
      rintro e w2 ⟨rfl, rfl⟩
      go_wp2_with fail
      refine (due_any y d _ _ HQ.out).mono ?_
      rintro e w2 ⟨rfl, rfl⟩
      go_wp2_with fail
      refine (deadline_any a0 0 _ (by omega) (by omega) (by omega) (by omega) _ HZ.out).mono ?_
      rintro e w2 ⟨rfl, rfl⟩
      go_wp2_with fail
      refine (due_any a0 a0 _ _ HN.out).mono ?_
      rintro e w2 ⟨rfl, rfl⟩
      go_wp2_with fail
      go_ret
      exact ⟨rfl, below_of hk⟩
    | false =>
      clear hpq
      go_enter Try.func5, Try.ntmps5
      go_wp2_with fail
      refine (clockUp_any _).mono ?_
      rintro e w1 ⟨rfl, hk⟩
      go_wp2_with fail
      refine (deadline_any a0 _ _ (by omega) (by omega) (by omega) (by omega) _ HD.out).mono ?_
      rintro e w2 ⟨rfl, rfl⟩
      go_wp2_with fail
      refine (add_ok a0 a2 _ (by omega) (by omega) (by omega) (by omega) _ HX.out).mono ?_
      rintro e w2 ⟨rfl, rfl⟩
      go_wp2_with fail
      refine (add_ok x a3 _ (by omega) (by omega) (by omega) (by omega) _ HY.out).mono ?_
      rintro e w2 ⟨rfl, rfl⟩
      go_wp2_with fail
      refine (due_any x d _ _ HP.out).mono ?_
      rintro e w2 ⟨rfl, rfl⟩
      go_wp2_with fail
      refine (deadline_any a0 0 _ (by omega) (by omega) (by omega) (by omega) _ HZ.out).mono ?_
      rintro e w2 ⟨rfl, rfl⟩
      go_wp2_with fail
      refine (due_any a0 a0 _ _ HN.out).mono ?_
      rintro e w2 ⟨rfl, rfl⟩
      go_wp2_with fail
      go_ret
      exact ⟨rfl, below_of hk⟩

theorem own : ownKnob Try.prog.godebug = none := by kernel_rfl

set_option maxRecDepth 100000 in
theorem lifted (os : Os) (started : os.Started) (H : Type) (enc : TypeId × Value → H) :
    ReturnsInHanded {} Try.checked os 5 .any (Rows.clockOnSpec.pre6 enc Try.prog Try.f5 Rows.clockOnRow.domain false) (Rows.clockOnSpec.post enc Try.prog Try.f5 false true false false) := by
  refine returnsInHanded_of_change (C := Try.checked) own started (by kernel_rfl) Try.func5
    (ChangeSpec.witness6 (enc := enc) (C := Try.checked) false ⟨#[], #[.int .i64 0, .int .i64 0, .int .i64 0, .int .i64 0], []⟩ 8 (by kernel_rfl) (by kernel_rfl) (by kernel_rfl) (by kernel_rfl)) ?_
  intro W base args ds gs before hval0 hW hcnd _
  have hval : ∀ (j : Nat) t v, Try.f5.params[j]? = some t → args[j]? = some v → Value.okWide Try.prog W .any base t v := hval0
  have hW' := hW
  obtain ⟨p, q, hA0, hV, rfl, hfz, hnd⟩ := hW
  have hA : DataW.TrodAll enc Try.prog W 0 (fun _ => true) true Try.f5.params.toList args.toList ds p := hA0
  rw [Try.params5] at hA hval
  obtain ⟨v0, vs0, d0, ds0, p0, q0, hargs, rfl, rfl, h0, r0⟩ := trodAll_cons hA
  obtain ⟨v1, vs1, d1, ds1, p1, q1, rfl, rfl, rfl, h1, r1⟩ := trodAll_cons r0
  obtain ⟨v2, vs2, d2, ds2, p2, q2, rfl, rfl, rfl, h2, r2⟩ := trodAll_cons r1
  obtain ⟨v3, vs3, d3, ds3, p3, q3, rfl, rfl, rfl, h3, r3⟩ := trodAll_cons r2
  obtain ⟨rfl, rfl, rfl⟩ := trodAll_nil r3
  obtain rfl : args = #[v0, v1, v2, v3] := by cases args; simp_all
  obtain ⟨rfl, rfl⟩ := trodVars_none hV
  obtain ⟨a0, rfl, rfl, rfl, w0⟩ := open_int Try.underlying2 (hval 0 2 v0 rfl rfl) h0
  obtain ⟨a1, rfl, rfl, rfl, w1⟩ := open_int Try.underlying2 (hval 1 2 v1 rfl rfl) h1
  obtain ⟨a2, rfl, rfl, rfl, w2⟩ := open_int Try.underlying2 (hval 2 2 v2 rfl rfl) h2
  obtain ⟨a3, rfl, rfl, rfl, w3⟩ := open_int Try.underlying2 (hval 3 2 v3 rfl rfl) h3
  clear hA0 hval0
  refine (walk a0 a1 a2 a3 w0 w1 w2 w3 W).mono fun e W' ⟨he, bel⟩ => ?_
  subst he
  exact ⟨_, rfl, _, _, _, [], _, [], hW', trodAll_mk1 (shut_bool Try.underlying4 _), (trodAll_cons_mk (shut_int Try.underlying2 w0) (trodAll_cons_mk (shut_int Try.underlying2 w1) (trodAll_cons_mk (shut_int Try.underlying2 w2) (trodAll_cons_mk (shut_int Try.underlying2 w3) trodAll_mk0)))), rfl, bel.frame _, fun h => by cases h⟩

theorem over : Rows.clockOnRow.holds Try.pinned (OpenSpec.ofChange Rows.clockOnSpec) :=
  OpenClaim.holds_of_wide 5 Try.f5 rfl rfl rfl rfl rfl rfl rfl ⟨rfl, rfl, rfl, rfl, rfl⟩ rfl rfl rfl rfl rfl (by kernel_rfl) Try.func5 (by kernel_rfl)
    (of_decide_eq_true (by kernel_rfl)) (by unfold Func.isWrapper; first | (rw [if_pos (by decide +kernel)]; kernel_rfl) | (rw [if_neg (by decide +kernel)]; exact ⟨rfl, rfl⟩))
    (fun os started H enc _ => lifted os started H enc)

end clockOn
/-- The statement. -/
theorem clockOn_holds : Rows.ClockOnSaid := clockOn.over
end Go.Proofs.Ytfgdajbjcbhaaaa
