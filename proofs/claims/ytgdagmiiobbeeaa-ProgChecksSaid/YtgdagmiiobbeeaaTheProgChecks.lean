/-
  For every input the statement ProgChecks answers true: whether any script may be, or what is amiss.
  Conditions: none.
-/
import Derived.Test.YtgdagmiiobbeeaaScriptUp
import Derived.Test.YtgdagmiiobbeeaaCheckSame
import Derived.Test.YtgdagmiiobbeeaaCodes
import Derived.WalkKit
import Derived.ProofKit
import Derived.OpenShut
import Derived.Deep.RegionWith
namespace Go.Proofs.Ytgdagmiiobbeeaa
namespace progChecks
open Go.ChangeShapes Go.WideShapes Go.ChangeAt Go.RowKit
set_option linter.unusedVariables false

set_option maxHeartbeats 1000000 in
theorem walk (x : Sc) (w : World) (hx : Lies w w.heap.size x) :
    Calls Try.prog 3 #[x.agg] w fun e w' => e = .returned (.bool true) ∧ Below w.heap.size w w' := by
  have h1 : Lies (boxSc w (.slice x.os x.obs.length x.oc) (.slice x.ps x.prs.length x.pc) (.slice x.ks x.pis.length x.kc)) w.heap.size x := hx.kept ((Kept.refl (fun _ => False) w).alloc _) (Nat.le_refl _) (fun _ _ f => f)
  have hBB : w.heap.size ≤ (boxSc w (.slice x.os x.obs.length x.oc) (.slice x.ps x.prs.length x.pc) (.slice x.ks x.pis.length x.kc)).heap.size := by simp
  have hk0 : Kept (fun _ => False) w (boxSc w (.slice x.os x.obs.length x.oc) (.slice x.ps x.prs.length x.pc) (.slice x.ks x.pis.length x.kc)) := (Kept.refl _ w).alloc _
  have HX := Lib.hid h1
  have HB := Lib.hid hBB
  have HK0 := Lib.hid hk0
  clear h1 hBB hk0 hx
  cases hf : fewF x
  · have HF := Lib.hid hf; clear hf
    go_enter Try.func3, Try.ntmps3
    go_wp2_with fail
    refine (progUp_any _).mono ?_
    rintro e w1 ⟨rfl, hk1⟩
    obtain ⟨p0, p1, p2⟩ := box3 hk1
    have HK1 := Lib.hid hk1; clear hk1
    go_wp2_with fail
    refine (few_any (HX.out.kept HK1.out HB.out (fun _ _ f => f)) (Nat.le_trans HB.out HK1.out.size) _ HF.out).mono ?_
    rintro e w2 ⟨rfl, hk2⟩
    go_wp2_with fail
    go_ret
    exact ⟨rfl, ((HK0.out.trans HK1.out (fun _ _ f => f)).trans hk2 (fun _ _ f => f)).below (Nat.le_refl _) (fun _ f => f.elim)⟩
  · have HF := Lib.hid hf; clear hf
    go_enter Try.func3, Try.ntmps3
    go_wp2_with fail
    refine (progUp_any _).mono ?_
    rintro e w1 ⟨rfl, hk1⟩
    obtain ⟨p0, p1, p2⟩ := box3 hk1
    have HK1 := Lib.hid hk1; clear hk1
    go_wp2_with fail
    refine (few_any (HX.out.kept HK1.out HB.out (fun _ _ f => f)) (Nat.le_trans HB.out HK1.out.size) _ HF.out).mono ?_
    rintro e w2 ⟨rfl, hk2⟩
    have HK2 := Lib.hid (HK1.out.trans hk2 (fun _ _ f => f)); clear hk2
    obtain ⟨q0, q1, q2⟩ := box3 HK2.out
    cases hl : largeF x
    · have HL := Lib.hid hl; clear hl
      cases hg : goodF x
      · have HG := Lib.hid hg; clear hg
        go_wp2_with fail
        refine (check_small (HX.out.kept HK2.out HB.out (fun _ _ f => f)) (Nat.le_trans HB.out HK2.out.size) HL.out _ HG.out).mono ?_
        rintro e w3 ⟨rfl, hk3⟩
        have HK3 := Lib.hid (HK2.out.trans hk3 (fun _ _ f => f)); clear hk3
        obtain ⟨r0, r1, r2⟩ := box3 HK3.out
        clear p0 p1 p2 q0 q1 q2
        have HFIN : ∀ n w', Kept (fun _ => False) (w3.drewN n) w' → Below w.heap.size w w' := fun n w' hk4 => ((HK0.out.trans HK3.out (fun _ _ f => f)).trans ((Kept.refl (fun _ => False) w3).drewN n |>.trans hk4 (fun _ _ f => f)) (fun _ _ f => f)).below (Nat.le_refl _) (fun _ f => f.elim)
        go_wp2_with fail
        go_region_with ((first | (go_at_call 11; refine (code_of 1 (by omega) (by omega) _).mono ?_; rintro e w' ⟨rfl, rfl⟩) | (go_at_call 12; refine (ref_small (HX.out.kept (HK3.out.drewN _) HB.out (fun _ _ f => f)) (Nat.le_trans HB.out HK3.out.size) HL.out _ HG.out).mono ?_; rintro e w' ⟨rfl, hk4⟩)))
        all_goals
          go_wp2_with fail
          go_ret
          exact ⟨rfl, HFIN _ _ hk4⟩
      · have HG := Lib.hid hg; clear hg
        go_wp2_with fail
        refine (check_small (HX.out.kept HK2.out HB.out (fun _ _ f => f)) (Nat.le_trans HB.out HK2.out.size) HL.out _ HG.out).mono ?_
        rintro e w3 ⟨rfl, hk3⟩
        have HK3 := Lib.hid (HK2.out.trans hk3 (fun _ _ f => f)); clear hk3
        obtain ⟨r0, r1, r2⟩ := box3 HK3.out
        clear p0 p1 p2 q0 q1 q2
        have HFIN : ∀ n w', Kept (fun _ => False) (w3.drewN n) w' → Below w.heap.size w w' := fun n w' hk4 => ((HK0.out.trans HK3.out (fun _ _ f => f)).trans ((Kept.refl (fun _ => False) w3).drewN n |>.trans hk4 (fun _ _ f => f)) (fun _ _ f => f)).below (Nat.le_refl _) (fun _ f => f.elim)
        go_wp2_with fail
        go_region_with ((first | (go_at_call 11; refine (code_nil _).mono ?_; rintro e w' ⟨rfl, rfl⟩) | (go_at_call 12; refine (ref_small (HX.out.kept (HK3.out.drewN _) HB.out (fun _ _ f => f)) (Nat.le_trans HB.out HK3.out.size) HL.out _ HG.out).mono ?_; rintro e w' ⟨rfl, hk4⟩)))
        all_goals
          go_wp2_with fail
          go_ret
          exact ⟨rfl, HFIN _ _ hk4⟩
    · have HL := Lib.hid hl; clear hl
      go_wp2_with fail
      refine (check_large (HX.out.kept HK2.out HB.out (fun _ _ f => f)) (Nat.le_trans HB.out HK2.out.size) HL.out).mono ?_
      rintro e w3 ⟨rfl, hk3⟩
      have HK3 := Lib.hid (HK2.out.trans hk3 (fun _ _ f => f)); clear hk3
      obtain ⟨r0, r1, r2⟩ := box3 HK3.out
      clear p0 p1 p2 q0 q1 q2
      have HFIN : ∀ n w', Kept (fun _ => False) (w3.drewN n) w' → Below w.heap.size w w' := fun n w' hk4 => ((HK0.out.trans HK3.out (fun _ _ f => f)).trans ((Kept.refl (fun _ => False) w3).drewN n |>.trans hk4 (fun _ _ f => f)) (fun _ _ f => f)).below (Nat.le_refl _) (fun _ f => f.elim)
      go_wp2_with fail
      go_region_with ((first | (go_at_call 11; refine (code_of 8 (by omega) (by omega) _).mono ?_; rintro e w' ⟨rfl, rfl⟩) | (go_at_call 12; refine (ref_large (HX.out.kept (HK3.out.drewN _) HB.out (fun _ _ f => f)) (Nat.le_trans HB.out HK3.out.size) HL.out).mono ?_; rintro e w' ⟨rfl, hk4⟩)))
      all_goals
        go_wp2_with fail
        go_ret
        exact ⟨rfl, HFIN _ _ hk4⟩

theorem own : ownKnob Try.prog.godebug = none := by kernel_rfl
theorem laidOut : laidOutB Try.prog = true := by kernel_rfl

set_option maxRecDepth 100000 in
theorem lifted (os : Os) (started : os.Started) (H : Type) (enc : TypeId × Value → H) :
    ReturnsInHanded {} Try.checked os 3 .any (Rows.progChecksSpec.pre6 enc Try.prog Try.f3 Rows.progChecksRow.domain false) (Rows.progChecksSpec.post enc Try.prog Try.f3 false true false false) := by
  refine returnsInHanded_of_change (C := Try.checked) own started (by kernel_rfl) Try.func3
    (ChangeSpec.witness6 (enc := enc) (C := Try.checked) false ⟨#[], #[.agg #[.slice none 0 0, .slice none 0 0, .slice none 0 0]], []⟩ 8 (by kernel_rfl) (by kernel_rfl) (by kernel_rfl) (by kernel_rfl)) ?_
  intro W base args ds gs before hval0 hW hcnd _
  have hval : ∀ (j : Nat) t v, Try.f3.params[j]? = some t → args[j]? = some v → Value.okWide Try.prog W .any base t v := hval0
  have hW' := hW
  obtain ⟨p, q, hA0, hV, rfl, hfz, hnd⟩ := hW
  have hA : DataW.TrodAll enc Try.prog W 0 (fun _ => true) true Try.f3.params.toList args.toList ds p := hA0
  rw [Try.params3] at hA hval
  obtain ⟨v0, vs0, d0, ds0, p0, q0, hargs, rfl, rfl, h0, r0⟩ := trodAll_cons hA
  obtain ⟨rfl, rfl, rfl⟩ := trodAll_nil r0
  obtain rfl : args = #[v0] := by cases args; simp_all
  obtain ⟨rfl, rfl⟩ := trodVars_none hV
  have k0 := h0
  have lt0 : ∀ x ∈ p0, x.block < W.heap.size := by obtain ⟨m, hm⟩ := k0; exact DataW.trod_lt m _ _ _ hm
  obtain ⟨x0, rfl, hx0⟩ := sc_of (okWide_struct Try.underlying26 (hval 0 26 v0 rfl rfl)) k0
  clear hA0 hval0
  refine (walk x0 W hx0).mono fun e W' ⟨he, bel⟩ => ?_
  subst he
  exact ⟨_, rfl, _, _, _, [], _, [], hW', trodAll_mk1 (shut_bool Try.underlying4 _), (trodAll_cons_mk (Below.trod laidOut (by kernel_rfl) (of_decide_eq_true (by kernel_rfl)) k0 bel lt0) trodAll_mk0), rfl, bel.frame _, fun h => by cases h⟩

theorem over : Rows.progChecksRow.holds Try.pinned (OpenSpec.ofChange Rows.progChecksSpec) :=
  OpenClaim.holds_of_wide 3 Try.f3 rfl rfl rfl rfl rfl rfl rfl ⟨rfl, rfl, rfl, rfl, rfl⟩ rfl rfl rfl rfl rfl (by kernel_rfl) Try.func3 (by kernel_rfl)
    (of_decide_eq_true (by kernel_rfl)) (by unfold Func.isWrapper; first | (rw [if_pos (by decide +kernel)]; kernel_rfl) | (rw [if_neg (by decide +kernel)]; exact ⟨rfl, rfl⟩))
    (fun os started H enc _ => lifted os started H enc)

end progChecks
/-- The statement. -/
theorem progChecks_holds : Rows.ProgChecksSaid := progChecks.over
end Go.Proofs.Ytgdagmiiobbeeaa
