/-
  For every input the statement WordPacks answers true: the word of any two counts, whether any number is one, and its counts.
  Conditions: none.
-/
import Derived.Test.YtbhoilbkeoebgaaWords
import Derived.WalkKit
import Derived.ProofKit
import Derived.OpenShut
import Derived.LoopTactic
import Derived.Deep.QuietTactic
import Derived.BigQuiet
namespace Go.Proofs.Ytbhoilbkeoebgaa
namespace wordPacks
open Go.ChangeShapes Go.WideShapes Go.ChangeAt Go.RowKit
set_option linter.unusedVariables false

theorem walk (a0 a1 a2 : Int) (w0 : (Lit.int .i64 a0).wf = true) (w1 : (Lit.int .i64 a1).wf = true) (w2 : (Lit.int .i64 a2).wf = true) (w : World) :
    Calls Try.prog 3 #[.int .i64 a0, .int .i64 a1, .int .i64 a2] w fun e w' => e = .returned (.bool true) ∧ Below w.heap.size w w' := by
  have b0 := bounds_i64 w0
  have b1 := bounds_i64 w1
  have b2 := bounds_i64 w2
  clear w0 w1 w2
  have hq : ∀ (w : World) (a b : Int), (binOp .eql 24 (.iface 28 (.int .i64 a)) (.iface 28 (.int .i64 b))).run Try.prog w = .ok (.bool (a == b)) w := eql_codes
  have hn : ∀ (w : World) (a : Int), (binOp .neq 24 (.iface 28 (.int .i64 a)) (.iface 28 (.int .i64 a))).run Try.prog w = .ok (.bool false) w := fun w a => (neq_codes w a a).trans (by simp)
  cases hr : isCnt a0
  · cases hv : isWord a2
    · go_enter Try.func3, Try.ntmps3
      go_wp2_with fail
      refine (wordUp_any _).mono ?_
      rintro e wx ⟨rfl, rfl⟩
      go_wp2_with fail
      refine (pack_bad a0 a1 _ b0.1 b0.2 b1.1 b1.2 (by rw [hr]; rfl)).mono ?_
      rintro e wx ⟨rfl, rfl⟩
      go_wp2_with fail
      refine (countUp_any a0 _ _ hr).mono ?_
      rintro e wx ⟨rfl, rfl⟩
      go_wp2_with fail
      refine (mayUp_any a2 _ b2.1 b2.2 _ hv).mono ?_
      rintro e wx ⟨rfl, rfl⟩
      go_wp2_with fail
      refine (may_any a2 _ b2.1 b2.2 _ hv).mono ?_
      rintro e wx ⟨rfl, rfl⟩
      go_wp2_with fail
      refine (readers_any a2 _ b2.1 b2.2 0 (by rw [rdF, hv]; rfl)).mono ?_
      rintro e wx ⟨rfl, rfl⟩
      go_wp2_with fail
      refine (writes_any a2 _ b2.1 b2.2 0 (by rw [wrF, hv]; rfl)).mono ?_
      rintro e wx ⟨rfl, rfl⟩
      go_wp2_with fail
      go_ret
      exact ⟨rfl, Below.refl _ _⟩
    · have hw := (isWord_iff a2).1 hv
      go_enter Try.func3, Try.ntmps3
      go_wp2_with fail
      refine (wordUp_any _).mono ?_
      rintro e wx ⟨rfl, rfl⟩
      go_wp2_with fail
      refine (pack_bad a0 a1 _ b0.1 b0.2 b1.1 b1.2 (by rw [hr]; rfl)).mono ?_
      rintro e wx ⟨rfl, rfl⟩
      go_wp2_with fail
      refine (countUp_any a0 _ _ hr).mono ?_
      rintro e wx ⟨rfl, rfl⟩
      go_wp2_with fail
      refine (mayUp_any a2 _ b2.1 b2.2 _ hv).mono ?_
      rintro e wx ⟨rfl, rfl⟩
      go_wp2_with fail
      refine (may_any a2 _ b2.1 b2.2 _ hv).mono ?_
      rintro e wx ⟨rfl, rfl⟩
      go_wp2_with fail
      refine (readers_any a2 _ b2.1 b2.2 (a2 / 65536) (by rw [rdF, hv]; rfl)).mono ?_
      rintro e wx ⟨rfl, rfl⟩
      go_wp2_with fail
      refine (writes_any a2 _ b2.1 b2.2 (a2 % 65536) (by rw [wrF, hv]; rfl)).mono ?_
      rintro e wx ⟨rfl, rfl⟩
      go_wp2_with fail
      go_ret
      exact ⟨rfl, Below.refl _ _⟩
  cases hs : isCnt a1
  · cases hv : isWord a2
    · go_enter Try.func3, Try.ntmps3
      go_wp2_with fail
      refine (wordUp_any _).mono ?_
      rintro e wx ⟨rfl, rfl⟩
      go_wp2_with fail
      refine (pack_bad a0 a1 _ b0.1 b0.2 b1.1 b1.2 (by rw [hr, hs]; rfl)).mono ?_
      rintro e wx ⟨rfl, rfl⟩
      go_wp2_with fail
      refine (countUp_any a0 _ _ hr).mono ?_
      rintro e wx ⟨rfl, rfl⟩
      go_wp2_with fail
      refine (countUp_any a1 _ _ hs).mono ?_
      rintro e wx ⟨rfl, rfl⟩
      go_wp2_with fail
      refine (mayUp_any a2 _ b2.1 b2.2 _ hv).mono ?_
      rintro e wx ⟨rfl, rfl⟩
      go_wp2_with fail
      refine (may_any a2 _ b2.1 b2.2 _ hv).mono ?_
      rintro e wx ⟨rfl, rfl⟩
      go_wp2_with fail
      refine (readers_any a2 _ b2.1 b2.2 0 (by rw [rdF, hv]; rfl)).mono ?_
      rintro e wx ⟨rfl, rfl⟩
      go_wp2_with fail
      refine (writes_any a2 _ b2.1 b2.2 0 (by rw [wrF, hv]; rfl)).mono ?_
      rintro e wx ⟨rfl, rfl⟩
      go_wp2_with fail
      go_ret
      exact ⟨rfl, Below.refl _ _⟩
    · have hw := (isWord_iff a2).1 hv
      go_enter Try.func3, Try.ntmps3
      go_wp2_with fail
      refine (wordUp_any _).mono ?_
      rintro e wx ⟨rfl, rfl⟩
      go_wp2_with fail
      refine (pack_bad a0 a1 _ b0.1 b0.2 b1.1 b1.2 (by rw [hr, hs]; rfl)).mono ?_
      rintro e wx ⟨rfl, rfl⟩
      go_wp2_with fail
      refine (countUp_any a0 _ _ hr).mono ?_
      rintro e wx ⟨rfl, rfl⟩
      go_wp2_with fail
      refine (countUp_any a1 _ _ hs).mono ?_
      rintro e wx ⟨rfl, rfl⟩
      go_wp2_with fail
      refine (mayUp_any a2 _ b2.1 b2.2 _ hv).mono ?_
      rintro e wx ⟨rfl, rfl⟩
      go_wp2_with fail
      refine (may_any a2 _ b2.1 b2.2 _ hv).mono ?_
      rintro e wx ⟨rfl, rfl⟩
      go_wp2_with fail
      refine (readers_any a2 _ b2.1 b2.2 (a2 / 65536) (by rw [rdF, hv]; rfl)).mono ?_
      rintro e wx ⟨rfl, rfl⟩
      go_wp2_with fail
      refine (writes_any a2 _ b2.1 b2.2 (a2 % 65536) (by rw [wrF, hv]; rfl)).mono ?_
      rintro e wx ⟨rfl, rfl⟩
      go_wp2_with fail
      go_ret
      exact ⟨rfl, Below.refl _ _⟩
  have hr' := (isCnt_iff a0).1 hr
  have hs' := (isCnt_iff a1).1 hs
  cases hv : isWord a2
  · go_enter Try.func3, Try.ntmps3
    go_wp2_with fail
    refine (wordUp_any _).mono ?_
    rintro e wx ⟨rfl, rfl⟩
    go_wp2_with fail
    refine (pack_ok a0 a1 _ hr'.1 hr'.2 hs'.1 hs'.2).mono ?_
    rintro e wx ⟨rfl, rfl⟩
    go_wp2_with fail
    refine (countUp_any a0 _ _ hr).mono ?_
    rintro e wx ⟨rfl, rfl⟩
    go_wp2_with fail
    refine (countUp_any a1 _ _ hs).mono ?_
    rintro e wx ⟨rfl, rfl⟩
    go_wp2_with fail
    refine (mayUp_any a2 _ b2.1 b2.2 _ hv).mono ?_
    rintro e wx ⟨rfl, rfl⟩
    go_wp2_with fail
    refine (may_any a2 _ b2.1 b2.2 _ hv).mono ?_
    rintro e wx ⟨rfl, rfl⟩
    go_wp2_with fail
    refine (readers_any a2 _ b2.1 b2.2 0 (by rw [rdF, hv]; rfl)).mono ?_
    rintro e wx ⟨rfl, rfl⟩
    go_wp2_with fail
    refine (writes_any a2 _ b2.1 b2.2 0 (by rw [wrF, hv]; rfl)).mono ?_
    rintro e wx ⟨rfl, rfl⟩
    go_wp2_with fail
    go_ret
    exact ⟨rfl, Below.refl _ _⟩
  · have hw := (isWord_iff a2).1 hv
    go_enter Try.func3, Try.ntmps3
    go_wp2_with fail
    refine (wordUp_any _).mono ?_
    rintro e wx ⟨rfl, rfl⟩
    go_wp2_with fail
    refine (pack_ok a0 a1 _ hr'.1 hr'.2 hs'.1 hs'.2).mono ?_
    rintro e wx ⟨rfl, rfl⟩
    go_wp2_with fail
    refine (countUp_any a0 _ _ hr).mono ?_
    rintro e wx ⟨rfl, rfl⟩
    go_wp2_with fail
    refine (countUp_any a1 _ _ hs).mono ?_
    rintro e wx ⟨rfl, rfl⟩
    go_wp2_with fail
    refine (mayUp_any a2 _ b2.1 b2.2 _ hv).mono ?_
    rintro e wx ⟨rfl, rfl⟩
    go_wp2_with fail
    refine (may_any a2 _ b2.1 b2.2 _ hv).mono ?_
    rintro e wx ⟨rfl, rfl⟩
    go_wp2_with fail
    refine (readers_any a2 _ b2.1 b2.2 (a2 / 65536) (by rw [rdF, hv]; rfl)).mono ?_
    rintro e wx ⟨rfl, rfl⟩
    go_wp2_with fail
    refine (writes_any a2 _ b2.1 b2.2 (a2 % 65536) (by rw [wrF, hv]; rfl)).mono ?_
    rintro e wx ⟨rfl, rfl⟩
    go_wp2_with fail
    go_ret
    exact ⟨rfl, Below.refl _ _⟩

theorem own : ownKnob Try.prog.godebug = none := by kernel_rfl

set_option maxRecDepth 100000 in
theorem lifted (os : Os) (started : os.Started) (H : Type) (enc : TypeId × Value → H) :
    ReturnsInHanded {} Try.checked os 3 .any (Rows.wordPacksSpec.pre6 enc Try.prog Try.f3 Rows.wordPacksRow.domain false) (Rows.wordPacksSpec.post enc Try.prog Try.f3 false true false false) := by
  refine returnsInHanded_of_change (C := Try.checked) own started (by kernel_rfl) Try.func3
    (ChangeSpec.witness6 (enc := enc) (C := Try.checked) false ⟨#[], #[.int .i64 0, .int .i64 0, .int .i64 0], []⟩ 8 (by kernel_rfl) (by kernel_rfl) (by kernel_rfl) (by kernel_rfl)) ?_
  intro W base args ds gs before hval0 hW hcnd _
  have hval : ∀ (j : Nat) t v, Try.f3.params[j]? = some t → args[j]? = some v → Value.okWide Try.prog W .any base t v := hval0
  have hW' := hW
  obtain ⟨p, q, hA0, hV, rfl, hfz, hnd⟩ := hW
  have hA : DataW.TrodAll enc Try.prog W 0 (fun _ => true) true Try.f3.params.toList args.toList ds p := hA0
  rw [Try.params3] at hA hval
  obtain ⟨v0, vs0, d0, ds0, p0, q0, hargs, rfl, rfl, h0, r0⟩ := trodAll_cons hA
  obtain ⟨v1, vs1, d1, ds1, p1, q1, rfl, rfl, rfl, h1, r1⟩ := trodAll_cons r0
  obtain ⟨v2, vs2, d2, ds2, p2, q2, rfl, rfl, rfl, h2, r2⟩ := trodAll_cons r1
  obtain ⟨rfl, rfl, rfl⟩ := trodAll_nil r2
  obtain rfl : args = #[v0, v1, v2] := by cases args; simp_all
  obtain ⟨rfl, rfl⟩ := trodVars_none hV
  obtain ⟨a0, rfl, rfl, rfl, w0⟩ := open_int Try.underlying3 (hval 0 3 v0 rfl rfl) h0
  obtain ⟨a1, rfl, rfl, rfl, w1⟩ := open_int Try.underlying3 (hval 1 3 v1 rfl rfl) h1
  obtain ⟨a2, rfl, rfl, rfl, w2⟩ := open_int Try.underlying2 (hval 2 2 v2 rfl rfl) h2
  clear hA0 hval0
  refine (walk a0 a1 a2 w0 w1 w2 W).mono fun e W' ⟨he, bel⟩ => ?_
  subst he
  exact ⟨_, rfl, _, _, _, [], _, [], hW', trodAll_mk1 (shut_bool Try.underlying4 _), (trodAll_cons_mk (shut_int Try.underlying3 w0) (trodAll_cons_mk (shut_int Try.underlying3 w1) (trodAll_cons_mk (shut_int Try.underlying2 w2) trodAll_mk0))), rfl, bel.frame _, fun h => by cases h⟩

theorem over : Rows.wordPacksRow.holds Try.pinned (OpenSpec.ofChange Rows.wordPacksSpec) :=
  OpenClaim.holds_of_wide 3 Try.f3 rfl rfl rfl rfl rfl rfl rfl ⟨rfl, rfl, rfl, rfl, rfl⟩ rfl rfl rfl rfl rfl (by kernel_rfl) Try.func3 (by kernel_rfl)
    (of_decide_eq_true (by kernel_rfl)) (by unfold Func.isWrapper; first | (rw [if_pos (by decide +kernel)]; kernel_rfl) | (rw [if_neg (by decide +kernel)]; exact ⟨rfl, rfl⟩))
    (fun os started H enc _ => lifted os started H enc)

end wordPacks
/-- The statement. -/
theorem wordPacks_holds : Rows.WordPacksSaid := wordPacks.over
end Go.Proofs.Ytbhoilbkeoebgaa
