/-
  For every input the statement WordBack answers true: what was packed has its counts; more, and less again, is the same.
  Conditions: none.
-/
import Derived.Test.YtbhoilbkeoebgaaWords
import Derived.WalkKit
import Derived.ProofKit
import Derived.OpenShut
import Derived.LoopTactic
import Derived.Deep.QuietTactic
import Derived.BigQuiet
namespace Go.Proofs.Ytbhoilbkeoebgaa
namespace wordBack
open Go.ChangeShapes Go.WideShapes Go.ChangeAt Go.RowKit
set_option linter.unusedVariables false

theorem walk (a0 a1 a2 a3 : Int) (w0 : (Lit.int .i64 a0).wf = true) (w1 : (Lit.int .i64 a1).wf = true) (w2 : (Lit.int .i64 a2).wf = true) (w3 : (Lit.int .i64 a3).wf = true) (w : World) :
    Calls Try.prog 5 #[.int .i64 a0, .int .i64 a1, .int .i64 a2, .int .i64 a3] w fun e w' => e = .returned (.bool true) ∧ Below w.heap.size w w' := by
  have b0 := bounds_i64 w0
  have b1 := bounds_i64 w1
  have b2 := bounds_i64 w2
  have b3 := bounds_i64 w3
  clear w0 w1 w2 w3
  by_cases h : (isCnt a0 && isCnt a1) = false
  · go_enter Try.func5, Try.ntmps5
    go_wp2_with fail
    refine (wordUp_any _).mono ?_
    rintro e wx ⟨rfl, rfl⟩
    go_wp2_with fail
    refine (pack_bad a0 a1 _ b0.1 b0.2 b1.1 b1.2 h).mono ?_
    rintro e wx ⟨rfl, rfl⟩
    go_wp2_with fail
    go_ret
    exact ⟨rfl, Below.refl _ _⟩
  have h' : isCnt a0 = true ∧ isCnt a1 = true := by simpa using h
  clear h
  have hr := (isCnt_iff a0).1 h'.1
  have hs := (isCnt_iff a1).1 h'.2
  obtain ⟨v, hv⟩ : ∃ v, a0 * 65536 + a1 = v := ⟨_, rfl⟩
  have d1 : v / 65536 = a0 := by omega
  have d2 : v % 65536 = a1 := by omega
  have hw : isWord v = true := (isWord_iff v).2 (by omega)
  have v1 : -9223372036854775808 ≤ v := by omega
  have v2 : v ≤ 9223372036854775807 := by omega
  have hp := pack_ok a0 a1
  rw [hv] at hp
  clear h'
  by_cases c : (isCnt (v / 65536 + a2) && isCnt (v % 65536 + a3)) = false
  · go_enter Try.func5, Try.ntmps5
    go_wp2_with fail
    refine (wordUp_any _).mono ?_
    rintro e wx ⟨rfl, rfl⟩
    go_wp2_with fail
    refine (hp _ hr.1 hr.2 hs.1 hs.2).mono ?_
    rintro e wx ⟨rfl, rfl⟩
    go_wp2_with fail
    refine (readers_any v _ v1 v2 a0 (by rw [rdF, hw]; exact d1)).mono ?_
    rintro e wx ⟨rfl, rfl⟩
    go_wp2_with fail
    refine (writes_any v _ v1 v2 a1 (by rw [wrF, hw]; exact d2)).mono ?_
    rintro e wx ⟨rfl, rfl⟩
    go_wp2_with fail
    refine (more_large v a2 a3 _ b2.1 b2.2 b3.1 b3.2 hw c).mono ?_
    rintro e wx ⟨rfl, rfl⟩
    go_wp2_with fail
    go_ret
    exact ⟨rfl, Below.refl _ _⟩
  have c' : isCnt (v / 65536 + a2) = true ∧ isCnt (v % 65536 + a3) = true := by simpa using c
  have e2 := (isCnt_iff _).1 c'.1
  have e3 := (isCnt_iff _).1 c'.2
  obtain ⟨x, hx⟩ : ∃ x, (v / 65536 + a2) * 65536 + (v % 65536 + a3) = x := ⟨_, rfl⟩
  have x1 : x / 65536 = v / 65536 + a2 := by omega
  have x2 : x % 65536 = v % 65536 + a3 := by omega
  have hxw : isWord x = true := (isWord_iff x).2 (by omega)
  have g2 : isCnt (x / 65536 + -a2) = true := (isCnt_iff _).2 (by omega)
  have g3 : isCnt (x % 65536 + -a3) = true := (isCnt_iff _).2 (by omega)
  have n2 : -1000 ≤ a2 ∧ a2 ≤ 1000 := by omega
  have n3 : -1000 ≤ a3 ∧ a3 ≤ 1000 := by omega
  have hy : (x / 65536 + -a2) * 65536 + (x % 65536 + -a3) = v := by omega
  go_enter Try.func5, Try.ntmps5
  go_wp2_with fail
  refine (wordUp_any _).mono ?_
  rintro e wx ⟨rfl, rfl⟩
  go_wp2_with fail
  refine (hp _ hr.1 hr.2 hs.1 hs.2).mono ?_
  rintro e wx ⟨rfl, rfl⟩
  go_wp2_with fail
  refine (readers_any v _ v1 v2 a0 (by rw [rdF, hw]; exact d1)).mono ?_
  rintro e wx ⟨rfl, rfl⟩
  go_wp2_with fail
  refine (writes_any v _ v1 v2 a1 (by rw [wrF, hw]; exact d2)).mono ?_
  rintro e wx ⟨rfl, rfl⟩
  go_wp2_with fail
  refine (more_ok v a2 a3 _ b2.1 b2.2 b3.1 b3.2 hw c'.1 c'.2 x hx).mono ?_
  rintro e wx ⟨rfl, rfl⟩
  go_wp2_with fail
  refine (more_ok x (-a2) (-a3) _ (by omega) (by omega) (by omega) (by omega) hxw g2 g3 v hy).mono ?_
  rintro e wx ⟨rfl, rfl⟩
  go_wp2_with fail
  go_ret
  exact ⟨rfl, Below.refl _ _⟩

theorem own : ownKnob Try.prog.godebug = none := by kernel_rfl

set_option maxRecDepth 100000 in
theorem lifted (os : Os) (started : os.Started) (H : Type) (enc : TypeId × Value → H) :
    ReturnsInHanded {} Try.checked os 5 .any (Rows.wordBackSpec.pre6 enc Try.prog Try.f5 Rows.wordBackRow.domain false) (Rows.wordBackSpec.post enc Try.prog Try.f5 false true false false) := by
  refine returnsInHanded_of_change (C := Try.checked) own started (by kernel_rfl) Try.func5
    (ChangeSpec.witness6 (enc := enc) (C := Try.checked) false ⟨#[], #[.int .i64 0, .int .i64 0, .int .i64 0, .int .i64 0], []⟩ 8 (by kernel_rfl) (by kernel_rfl) (by kernel_rfl) (by kernel_rfl)) ?_
  intro W base args ds gs before hval0 hW hcnd _
  have hval : ∀ (j : Nat) t v, Try.f5.params[j]? = some t → args[j]? = some v → Value.okWide Try.prog W .any base t v := hval0
  have hW' := hW
  obtain ⟨p, q, hA0, hV, rfl, hfz, hnd⟩ := hW
  have hA : DataW.TrodAll enc Try.prog W 0 (fun _ => true) true Try.f5.params.toList args.toList ds p := hA0
  rw [Try.params5] at hA hval
  obtain ⟨v0, vs0, d0, ds0, p0, q0, hargs, rfl, rfl, h0, r0⟩ := trodAll_cons hA
  obtain ⟨v1, vs1, d1, ds1, p1, q1, rfl, rfl, rfl, h1, r1⟩ := trodAll_cons r0
  obtain ⟨v2, vs2, d2, ds2, p2, q2, rfl, rfl, rfl, h2, r2⟩ := trodAll_cons r1
  obtain ⟨v3, vs3, d3, ds3, p3, q3, rfl, rfl, rfl, h3, r3⟩ := trodAll_cons r2
  obtain ⟨rfl, rfl, rfl⟩ := trodAll_nil r3
  obtain rfl : args = #[v0, v1, v2, v3] := by cases args; simp_all
  obtain ⟨rfl, rfl⟩ := trodVars_none hV
  obtain ⟨a0, rfl, rfl, rfl, w0⟩ := open_int Try.underlying3 (hval 0 3 v0 rfl rfl) h0
  obtain ⟨a1, rfl, rfl, rfl, w1⟩ := open_int Try.underlying3 (hval 1 3 v1 rfl rfl) h1
  obtain ⟨a2, rfl, rfl, rfl, w2⟩ := open_int Try.underlying3 (hval 2 3 v2 rfl rfl) h2
  obtain ⟨a3, rfl, rfl, rfl, w3⟩ := open_int Try.underlying3 (hval 3 3 v3 rfl rfl) h3
  clear hA0 hval0
  refine (walk a0 a1 a2 a3 w0 w1 w2 w3 W).mono fun e W' ⟨he, bel⟩ => ?_
  subst he
  exact ⟨_, rfl, _, _, _, [], _, [], hW', trodAll_mk1 (shut_bool Try.underlying4 _), (trodAll_cons_mk (shut_int Try.underlying3 w0) (trodAll_cons_mk (shut_int Try.underlying3 w1) (trodAll_cons_mk (shut_int Try.underlying3 w2) (trodAll_cons_mk (shut_int Try.underlying3 w3) trodAll_mk0)))), rfl, bel.frame _, fun h => by cases h⟩

theorem over : Rows.wordBackRow.holds Try.pinned (OpenSpec.ofChange Rows.wordBackSpec) :=
  OpenClaim.holds_of_wide 5 Try.f5 rfl rfl rfl rfl rfl rfl rfl ⟨rfl, rfl, rfl, rfl, rfl⟩ rfl rfl rfl rfl rfl (by kernel_rfl) Try.func5 (by kernel_rfl)
    (of_decide_eq_true (by kernel_rfl)) (by unfold Func.isWrapper; first | (rw [if_pos (by decide +kernel)]; kernel_rfl) | (rw [if_neg (by decide +kernel)]; exact ⟨rfl, rfl⟩))
    (fun os started H enc _ => lifted os started H enc)

end wordBack
/-- The statement. -/
theorem wordBack_holds : Rows.WordBackSaid := wordBack.over
end Go.Proofs.Ytbhoilbkeoebgaa
