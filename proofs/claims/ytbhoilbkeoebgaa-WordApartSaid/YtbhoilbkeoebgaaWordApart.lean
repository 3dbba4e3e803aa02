/-
  For every input the statement WordApart answers true: counts go their own ways: more readers leave the writes as they are, and the other way round.
  Conditions: none.
-/
import Derived.Test.YtbhoilbkeoebgaaWords
import Derived.WalkKit
import Derived.ProofKit
import Derived.OpenShut
import Derived.LoopTactic
import Derived.Deep.QuietTactic
import Derived.BigQuiet
namespace Go.Proofs.Ytbhoilbkeoebgaa
namespace wordApart
open Go.ChangeShapes Go.WideShapes Go.ChangeAt Go.RowKit
set_option linter.unusedVariables false

theorem walk (a0 a1 a2 : Int) (w0 : (Lit.int .i64 a0).wf = true) (w1 : (Lit.int .i64 a1).wf = true) (w2 : (Lit.int .i64 a2).wf = true) (w : World) :
    Calls Try.prog 6 #[.int .i64 a0, .int .i64 a1, .int .i64 a2] w fun e w' => e = .returned (.bool true) ∧ Below w.heap.size w w' := by
  have b0 := bounds_i64 w0
  have b1 := bounds_i64 w1
  have b2 := bounds_i64 w2
  clear w0 w1 w2
  cases hv : isWord a0
  · go_enter Try.func6, Try.ntmps6
    go_wp2_with fail
    refine (wordUp_any _).mono ?_
    rintro e wx ⟨rfl, rfl⟩
    go_wp2_with fail
    refine (more_arg a0 a1 0 _ b0.1 b0.2 hv).mono ?_
    rintro e wx ⟨rfl, rfl⟩
    go_wp2_with fail
    refine (more_arg a0 0 a2 _ b0.1 b0.2 hv).mono ?_
    rintro e wx ⟨rfl, rfl⟩
    go_wp2_with fail
    refine (more_arg a0 a1 a2 _ b0.1 b0.2 hv).mono ?_
    rintro e wx ⟨rfl, rfl⟩
    go_wp2_with fail
    go_ret
    exact ⟨rfl, Below.refl _ _⟩
  have hw := (isWord_iff a0).1 hv
  have z1 : isCnt (a0 / 65536 + 0) = true := (isCnt_iff _).2 (by omega)
  have z2 : isCnt (a0 % 65536 + 0) = true := (isCnt_iff _).2 (by omega)
  cases c1 : isCnt (a0 / 65536 + a1)
  · cases c2 : isCnt (a0 % 65536 + a2)
    · go_enter Try.func6, Try.ntmps6
      go_wp2_with fail
      refine (wordUp_any _).mono ?_
      rintro e wx ⟨rfl, rfl⟩
      go_wp2_with fail
      refine (more_large a0 a1 0 _ b1.1 b1.2 (by omega) (by omega) hv (by rw [c1]; rfl)).mono ?_
      rintro e wx ⟨rfl, rfl⟩
      go_wp2_with fail
      refine (more_large a0 0 a2 _ (by omega) (by omega) b2.1 b2.2 hv (by rw [c2, Bool.and_false])).mono ?_
      rintro e wx ⟨rfl, rfl⟩
      go_wp2_with fail
      refine (more_large a0 a1 a2 _ b1.1 b1.2 b2.1 b2.2 hv (by rw [c1]; rfl)).mono ?_
      rintro e wx ⟨rfl, rfl⟩
      go_wp2_with fail
      go_ret
      exact ⟨rfl, Below.refl _ _⟩
    · go_enter Try.func6, Try.ntmps6
      go_wp2_with fail
      refine (wordUp_any _).mono ?_
      rintro e wx ⟨rfl, rfl⟩
      go_wp2_with fail
      refine (more_large a0 a1 0 _ b1.1 b1.2 (by omega) (by omega) hv (by rw [c1]; rfl)).mono ?_
      rintro e wx ⟨rfl, rfl⟩
      go_wp2_with fail
      refine (more_ok a0 0 a2 _ (by omega) (by omega) b2.1 b2.2 hv z1 c2 _ rfl).mono ?_
      rintro e wx ⟨rfl, rfl⟩
      go_wp2_with fail
      refine (more_large a0 a1 a2 _ b1.1 b1.2 b2.1 b2.2 hv (by rw [c1]; rfl)).mono ?_
      rintro e wx ⟨rfl, rfl⟩
      go_wp2_with fail
      go_ret
      exact ⟨rfl, Below.refl _ _⟩
  cases c2 : isCnt (a0 % 65536 + a2)
  · go_enter Try.func6, Try.ntmps6
    go_wp2_with fail
    refine (wordUp_any _).mono ?_
    rintro e wx ⟨rfl, rfl⟩
    go_wp2_with fail
    refine (more_ok a0 a1 0 _ b1.1 b1.2 (by omega) (by omega) hv c1 z2 _ rfl).mono ?_
    rintro e wx ⟨rfl, rfl⟩
    go_wp2_with fail
    refine (more_large a0 0 a2 _ (by omega) (by omega) b2.1 b2.2 hv (by rw [c2, Bool.and_false])).mono ?_
    rintro e wx ⟨rfl, rfl⟩
    go_wp2_with fail
    refine (more_large a0 a1 a2 _ b1.1 b1.2 b2.1 b2.2 hv (by rw [c2, Bool.and_false])).mono ?_
    rintro e wx ⟨rfl, rfl⟩
    go_wp2_with fail
    go_ret
    exact ⟨rfl, Below.refl _ _⟩
  have e1 := (isCnt_iff _).1 c1
  have e2 := (isCnt_iff _).1 c2
  obtain ⟨x, hx⟩ : ∃ x, (a0 / 65536 + a1) * 65536 + (a0 % 65536 + 0) = x := ⟨_, rfl⟩
  obtain ⟨y, hy⟩ : ∃ y, (a0 / 65536 + 0) * 65536 + (a0 % 65536 + a2) = y := ⟨_, rfl⟩
  obtain ⟨z, hz⟩ : ∃ z, (a0 / 65536 + a1) * 65536 + (a0 % 65536 + a2) = z := ⟨_, rfl⟩
  have xw : isWord x = true := (isWord_iff x).2 (by omega)
  have yw : isWord y = true := (isWord_iff y).2 (by omega)
  have zw : isWord z = true := (isWord_iff z).2 (by omega)
  have x1 : isCnt (x / 65536 + 0) = true := (isCnt_iff _).2 (by omega)
  have x2 : isCnt (x % 65536 + a2) = true := (isCnt_iff _).2 (by omega)
  have hxz : (x / 65536 + 0) * 65536 + (x % 65536 + a2) = z := by omega
  have p0 : 0 ≤ a0 / 65536 ∧ a0 / 65536 ≤ 1000 := hw.1
  obtain ⟨k, hk⟩ : ∃ k, a0 % 65536 = k := ⟨_, rfl⟩
  obtain ⟨l, hl⟩ : ∃ l, a0 / 65536 = l := ⟨_, rfl⟩
  have r1 : wrF x = k := by rw [wrF, xw]; show x % 65536 = k; omega
  have r2 : wrF a0 = k := by rw [wrF, hv]; exact hk
  have r3 : rdF y = l := by rw [rdF, yw]; show y / 65536 = l; omega
  have r4 : rdF a0 = l := by rw [rdF, hv]; exact hl
  have r5 : rdF z = l + a1 := by rw [rdF, zw]; show z / 65536 = l + a1; omega
  have q1 : 0 ≤ l ∧ l ≤ 1000 := by omega
  have q2 : 0 ≤ l + a1 ∧ l + a1 ≤ 1000 := by omega
  go_enter Try.func6, Try.ntmps6
  go_wp2_with fail
  refine (wordUp_any _).mono ?_
  rintro e wx ⟨rfl, rfl⟩
  go_wp2_with fail
  refine (more_ok a0 a1 0 _ b1.1 b1.2 (by omega) (by omega) hv c1 z2 x hx).mono ?_
  rintro e wx ⟨rfl, rfl⟩
  go_wp2_with fail
  refine (more_ok a0 0 a2 _ (by omega) (by omega) b2.1 b2.2 hv z1 c2 y hy).mono ?_
  rintro e wx ⟨rfl, rfl⟩
  go_wp2_with fail
  refine (more_ok a0 a1 a2 _ b1.1 b1.2 b2.1 b2.2 hv c1 c2 z hz).mono ?_
  rintro e wx ⟨rfl, rfl⟩
  go_wp2_with fail
  refine (more_ok x 0 a2 _ (by omega) (by omega) b2.1 b2.2 xw x1 x2 z hxz).mono ?_
  rintro e wx ⟨rfl, rfl⟩
  go_wp2_with fail
  refine (writes_any x _ (by omega) (by omega) k r1).mono ?_
  rintro e wx ⟨rfl, rfl⟩
  go_wp2_with fail
  refine (writes_any a0 _ (by omega) (by omega) k r2).mono ?_
  rintro e wx ⟨rfl, rfl⟩
  go_wp2_with fail
  refine (readers_any y _ (by omega) (by omega) l r3).mono ?_
  rintro e wx ⟨rfl, rfl⟩
  go_wp2_with fail
  refine (readers_any a0 _ (by omega) (by omega) l r4).mono ?_
  rintro e wx ⟨rfl, rfl⟩
  go_wp2_with fail
  refine (readers_any z _ (by omega) (by omega) (l + a1) r5).mono ?_
  rintro e wx ⟨rfl, rfl⟩
  go_wp2_with fail
  refine (readers_any a0 _ (by omega) (by omega) l r4).mono ?_
  rintro e wx ⟨rfl, rfl⟩
  go_wp2_with fail
  go_ret
  exact ⟨rfl, Below.refl _ _⟩

theorem own : ownKnob Try.prog.godebug = none := by kernel_rfl

set_option maxRecDepth 100000 in
theorem lifted (os : Os) (started : os.Started) (H : Type) (enc : TypeId × Value → H) :
    ReturnsInHanded {} Try.checked os 6 .any (Rows.wordApartSpec.pre6 enc Try.prog Try.f6 Rows.wordApartRow.domain false) (Rows.wordApartSpec.post enc Try.prog Try.f6 false true false false) := by
  refine returnsInHanded_of_change (C := Try.checked) own started (by kernel_rfl) Try.func6
    (ChangeSpec.witness6 (enc := enc) (C := Try.checked) false ⟨#[], #[.int .i64 0, .int .i64 0, .int .i64 0], []⟩ 8 (by kernel_rfl) (by kernel_rfl) (by kernel_rfl) (by kernel_rfl)) ?_
  intro W base args ds gs before hval0 hW hcnd _
  have hval : ∀ (j : Nat) t v, Try.f6.params[j]? = some t → args[j]? = some v → Value.okWide Try.prog W .any base t v := hval0
  have hW' := hW
  obtain ⟨p, q, hA0, hV, rfl, hfz, hnd⟩ := hW
  have hA : DataW.TrodAll enc Try.prog W 0 (fun _ => true) true Try.f6.params.toList args.toList ds p := hA0
  rw [Try.params6] at hA hval
  obtain ⟨v0, vs0, d0, ds0, p0, q0, hargs, rfl, rfl, h0, r0⟩ := trodAll_cons hA
  obtain ⟨v1, vs1, d1, ds1, p1, q1, rfl, rfl, rfl, h1, r1⟩ := trodAll_cons r0
  obtain ⟨v2, vs2, d2, ds2, p2, q2, rfl, rfl, rfl, h2, r2⟩ := trodAll_cons r1
  obtain ⟨rfl, rfl, rfl⟩ := trodAll_nil r2
  obtain rfl : args = #[v0, v1, v2] := by cases args; simp_all
  obtain ⟨rfl, rfl⟩ := trodVars_none hV
  obtain ⟨a0, rfl, rfl, rfl, w0⟩ := open_int Try.underlying2 (hval 0 2 v0 rfl rfl) h0
  obtain ⟨a1, rfl, rfl, rfl, w1⟩ := open_int Try.underlying3 (hval 1 3 v1 rfl rfl) h1
  obtain ⟨a2, rfl, rfl, rfl, w2⟩ := open_int Try.underlying3 (hval 2 3 v2 rfl rfl) h2
  clear hA0 hval0
  refine (walk a0 a1 a2 w0 w1 w2 W).mono fun e W' ⟨he, bel⟩ => ?_
  subst he
  exact ⟨_, rfl, _, _, _, [], _, [], hW', trodAll_mk1 (shut_bool Try.underlying4 _), (trodAll_cons_mk (shut_int Try.underlying2 w0) (trodAll_cons_mk (shut_int Try.underlying3 w1) (trodAll_cons_mk (shut_int Try.underlying3 w2) trodAll_mk0))), rfl, bel.frame _, fun h => by cases h⟩

theorem over : Rows.wordApartRow.holds Try.pinned (OpenSpec.ofChange Rows.wordApartSpec) :=
  OpenClaim.holds_of_wide 6 Try.f6 rfl rfl rfl rfl rfl rfl rfl ⟨rfl, rfl, rfl, rfl, rfl⟩ rfl rfl rfl rfl rfl (by kernel_rfl) Try.func6 (by kernel_rfl)
    (of_decide_eq_true (by kernel_rfl)) (by unfold Func.isWrapper; first | (rw [if_pos (by decide +kernel)]; kernel_rfl) | (rw [if_neg (by decide +kernel)]; exact ⟨rfl, rfl⟩))
    (fun os started H enc _ => lifted os started H enc)

end wordApart
/-- The statement. -/
theorem wordApart_holds : Rows.WordApartSaid := wordApart.over
end Go.Proofs.Ytbhoilbkeoebgaa
