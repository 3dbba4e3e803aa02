/-
  For every input the statement ProgWaiters answers true: each kind of calls that may wait is of a kind of objects; what is of none doesn't wait.
  Conditions: none.
-/
import Derived.Test.YtgdagmiiobbeeaaScriptUp
import Derived.WalkKit
import Derived.ProofKit
import Derived.OpenShut
namespace Go.Proofs.Ytgdagmiiobbeeaa
namespace progWaiters
open Go.ChangeShapes Go.WideShapes Go.ChangeAt Go.RowKit
set_option linter.unusedVariables false

theorem of_in (k : Int) (h1 : 1 ≤ k) (h2 : k ≤ 19) : 1 ≤ ofF k ∧ ofF k ≤ 5 := by
  rcases kinds k with rfl | rfl | rfl | rfl | rfl | rfl | rfl | rfl | rfl | rfl | rfl | rfl | rfl | rfl | rfl | rfl | rfl | rfl | rfl | h
  rotate_left 19
  · omega
  all_goals decide
theorem of_out (k : Int) (h : ¬ (1 ≤ k ∧ k ≤ 19)) : ofF k = 0 ∧ waitsF k = false := by
  unfold ofF waitsF
  rw [if_neg (by omega), if_neg (by omega), if_neg (by omega), if_neg (by omega), if_neg (by omega)]
  exact ⟨rfl, decide_eq_false (by omega)⟩

theorem walk (a0 : Int) (w0 : (Lit.int .i64 a0).wf = true) (w : World) :
    Calls Try.prog 6 #[.int .i64 a0] w fun e w' => e = .returned (.bool true) ∧ Below w.heap.size w w' := by
  clear w0
  by_cases h1 : 1 ≤ a0
  · by_cases h2 : a0 ≤ 19
    · have hin := of_in a0 h1 h2
      obtain ⟨o, ho⟩ : ∃ o, ofF a0 = o := ⟨_, rfl⟩
      rw [ho] at hin
      have o1 : 0 ≤ o := by omega
      have o2 : o ≤ 5 := hin.2
      have o3 : (o != 0) = true := bne_iff_ne.2 (by omega)
      have HO := Lib.hid ho
      clear ho hin
      go_enter Try.func6, Try.ntmps6
      go_wp2_with fail
      refine (progUp_any _).mono ?_
      rintro e w1 ⟨rfl, hk⟩
      go_wp2_with fail
      refine (of_any a0 _ _ HO.out).mono ?_
      rintro e wx ⟨rfl, rfl⟩
      go_wp2_with fail
      go_ret
      exact ⟨rfl, hk.below (Nat.le_refl _) (fun _ f => f.elim)⟩
    · have ho := of_out a0 (fun h => h2 h.2)
      have h3 : decide (a0 ≤ 19) = false := decide_eq_false h2
      go_enter Try.func6, Try.ntmps6
      go_wp2_with fail
      refine (progUp_any _).mono ?_
      rintro e w1 ⟨rfl, hk⟩
      go_wp2_with fail
      refine (of_any a0 _ _ ho.1).mono ?_
      rintro e wx ⟨rfl, rfl⟩
      go_wp2_with fail
      refine (waits_any a0 _ _ ho.2).mono ?_
      rintro e wx ⟨rfl, rfl⟩
      go_wp2_with fail
      go_ret
      exact ⟨rfl, hk.below (Nat.le_refl _) (fun _ f => f.elim)⟩
  · have ho := of_out a0 (fun h => h1 h.1)
    go_enter Try.func6, Try.ntmps6
    go_wp2_with fail
    refine (progUp_any _).mono ?_
    rintro e w1 ⟨rfl, hk⟩
    go_wp2_with fail
    refine (of_any a0 _ _ ho.1).mono ?_
    rintro e wx ⟨rfl, rfl⟩
    go_wp2_with fail
    refine (waits_any a0 _ _ ho.2).mono ?_
    rintro e wx ⟨rfl, rfl⟩
    go_wp2_with fail
    go_ret
    exact ⟨rfl, hk.below (Nat.le_refl _) (fun _ f => f.elim)⟩

theorem own : ownKnob Try.prog.godebug = none := by kernel_rfl

set_option maxRecDepth 100000 in
theorem lifted (os : Os) (started : os.Started) (H : Type) (enc : TypeId × Value → H) :
    ReturnsInHanded {} Try.checked os 6 .any (Rows.progWaitersSpec.pre6 enc Try.prog Try.f6 Rows.progWaitersRow.domain false) (Rows.progWaitersSpec.post enc Try.prog Try.f6 false true false false) := by
  refine returnsInHanded_of_change (C := Try.checked) own started (by kernel_rfl) Try.func6
    (ChangeSpec.witness6 (enc := enc) (C := Try.checked) false ⟨#[], #[.int .i64 0], []⟩ 8 (by kernel_rfl) (by kernel_rfl) (by kernel_rfl) (by kernel_rfl)) ?_
  intro W base args ds gs before hval0 hW hcnd _
  have hval : ∀ (j : Nat) t v, Try.f6.params[j]? = some t → args[j]? = some v → Value.okWide Try.prog W .any base t v := hval0
  have hW' := hW
  obtain ⟨p, q, hA0, hV, rfl, hfz, hnd⟩ := hW
  have hA : DataW.TrodAll enc Try.prog W 0 (fun _ => true) true Try.f6.params.toList args.toList ds p := hA0
  rw [Try.params6] at hA hval
  obtain ⟨v0, vs0, d0, ds0, p0, q0, hargs, rfl, rfl, h0, r0⟩ := trodAll_cons hA
  obtain ⟨rfl, rfl, rfl⟩ := trodAll_nil r0
  obtain rfl : args = #[v0] := by cases args; simp_all
  obtain ⟨rfl, rfl⟩ := trodVars_none hV
  obtain ⟨a0, rfl, rfl, rfl, w0⟩ := open_int Try.underlying3 (hval 0 3 v0 rfl rfl) h0
  clear hA0 hval0
  refine (walk a0 w0 W).mono fun e W' ⟨he, bel⟩ => ?_
  subst he
  exact ⟨_, rfl, _, _, _, [], _, [], hW', trodAll_mk1 (shut_bool Try.underlying4 _), (trodAll_cons_mk (shut_int Try.underlying3 w0) trodAll_mk0), rfl, bel.frame _, fun h => by cases h⟩

theorem over : Rows.progWaitersRow.holds Try.pinned (OpenSpec.ofChange Rows.progWaitersSpec) :=
  OpenClaim.holds_of_wide 6 Try.f6 rfl rfl rfl rfl rfl rfl rfl ⟨rfl, rfl, rfl, rfl, rfl⟩ rfl rfl rfl rfl rfl (by kernel_rfl) Try.func6 (by kernel_rfl)
    (of_decide_eq_true (by kernel_rfl)) (by unfold Func.isWrapper; first | (rw [if_pos (by decide +kernel)]; kernel_rfl) | (rw [if_neg (by decide +kernel)]; exact ⟨rfl, rfl⟩))
    (fun os started H enc _ => lifted os started H enc)

end progWaiters
/-- The statement. -/
theorem progWaiters_holds : Rows.ProgWaitersSaid := progWaiters.over
end Go.Proofs.Ytgdagmiiobbeeaa
