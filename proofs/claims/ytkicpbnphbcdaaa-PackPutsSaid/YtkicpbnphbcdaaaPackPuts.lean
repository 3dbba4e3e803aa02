/-
  For every input the statement PackPuts answers true: any script's bytes, or that it may not be.
  Conditions: none.
-/
import Derived.Test.YtkicpbnphbcdaaaRefPut
import Derived.Test.YtkicpbnphbcdaaaCheckSame
import Derived.Test.YtkicpbnphbcdaaaCodes
import Derived.WalkKit
import Derived.ProofKit
import Derived.OpenShut
import Derived.Deep.RegionWith
namespace Go.Proofs.Ytkicpbnphbcdaaa
namespace packPuts
open Go.ChangeShapes Go.WideShapes Go.ChangeAt Go.RowKit
set_option linter.unusedVariables false

set_option maxHeartbeats 4000000 in
set_option maxRecDepth 100000 in
theorem walk (x : Sc) (w : World) (hx : Lies w w.heap.size x) :
    Calls Try.prog 3 #[x.agg] w fun e w' => e = .returned (.bool true) ∧ Below w.heap.size w w' := by
  obtain ⟨W0, hW0⟩ : ∃ W0, w.alloc (.cells #[.slice x.os x.obs.length x.oc, .slice x.ps x.prs.length x.pc, .slice x.ks x.pis.length x.kc] 26) = W0 := ⟨_, rfl⟩
  have hk0 : Kept (fun _ => False) w W0 := by rw [← hW0]; exact (Kept.refl _ w).alloc _
  have hs0 : W0.heap.size = w.heap.size + 1 := by rw [← hW0]; simp
  have hb0 : W0.heap[w.heap.size]? = some (.cells #[.slice x.os x.obs.length x.oc, .slice x.ps x.prs.length x.pc, .slice x.ks x.pis.length x.kc] 26 (0, 0)) := by rw [← hW0]; exact heap_alloc_new w _
  have HX := Lib.hid (fun (w' : World) (hk : Kept (fun _ => False) W0 w') => hx.kept (hk0.trans hk (fun _ _ f => f)) (Nat.le_refl _) (fun _ _ f => f))
  have HP := Lib.hid (fun (w' : World) (hk : Kept (fun _ => False) W0 w') => res_cells ((hk.block w.heap.size (by omega) (fun f => f)).trans hb0))
  have HFIN := Lib.hid (fun (w' : World) (hk : Kept (fun _ => False) W0 w') => (hk0.trans hk (fun _ _ f => f)).below (Nat.le_refl _) (fun _ f => f.elim))
  have HSZ := Lib.hid (fun (w' : World) (hk : Kept (fun _ => False) W0 w') => (show w.heap.size ≤ w'.heap.size from Nat.le_trans (by omega) hk.size))
  have HW0 := Lib.hid hW0
  clear hx hk0 hs0 hb0 hW0
  unfold Sc.agg
  go_enter Try.func3, Try.ntmps3
  go_wp2_with fail
  rw [HW0.out]
  clear HW0
  refine (packUp_any _).mono ?_
  rintro e w1 ⟨rfl, hk1⟩
  obtain ⟨p0, p1, p2⟩ := HP.out w1 hk1
  have HK1 := Lib.hid hk1
  clear hk1
  cases hfx : fewF x
  · go_wp2_with fail
    refine (few_any (x := x) (HX.out w1 HK1.out) (HSZ.out w1 HK1.out) false hfx).mono ?_
    rintro e w2 ⟨rfl, hk2⟩
    have HF := Lib.hid (HFIN.out w2 (HK1.out.trans hk2 (fun _ _ f => f)))
    clear hk2
    go_wp2_with fail
    go_ret
    exact ⟨rfl, HF.out⟩
  go_wp2_with fail
  refine (few_any (x := x) (HX.out w1 HK1.out) (HSZ.out w1 HK1.out) true hfx).mono ?_
  rintro e w2 ⟨rfl, hk2⟩
  have HK2 := Lib.hid (HK1.out.trans hk2 (fun _ _ f => f))
  clear hk2 p0 p1 p2 hfx
  obtain ⟨p0, p1, p2⟩ := HP.out w2 HK2.out
  cases hl : largeF x
  case true =>
    go_wp2_with fail
    refine (putTop_large (x := x) (HX.out w2 HK2.out) (HSZ.out w2 HK2.out) hl).mono ?_
    rintro e w3 ⟨rfl, hk3⟩
    have HK3 := Lib.hid (HK2.out.trans hk3 (fun _ _ f => f))
    clear hk3 p0 p1 p2
    obtain ⟨p0, p1, p2⟩ := HP.out w3 HK3.out
    go_wp2_with fail
    refine (ref_large (x := x) (HX.out w3 HK3.out) (HSZ.out w3 HK3.out) hl).mono ?_
    rintro e w4 ⟨rfl, hk4⟩
    have HF := Lib.hid (HFIN.out w4 (HK3.out.trans hk4 (fun _ _ f => f)))
    clear hk4 hl
    go_wp2_with fail
    refine (code_of 8 (by omega) (by omega) _).mono ?_
    rintro e wx ⟨rfl, rfl⟩
    go_wp2_with fail
    go_ret
    exact ⟨rfl, HF.out⟩
  cases hg : goodF x
  · go_wp2_with fail
    refine (putTop_bad (x := x) (HX.out w2 HK2.out) (HSZ.out w2 HK2.out) hl hg).mono ?_
    rintro e w3 ⟨rfl, hk3⟩
    have HK3 := Lib.hid (HK2.out.trans hk3 (fun _ _ f => f))
    clear hk3 p0 p1 p2
    obtain ⟨p0, p1, p2⟩ := HP.out w3 HK3.out
    go_wp2_with fail
    refine (ref_small (x := x) (HX.out w3 HK3.out) (HSZ.out w3 HK3.out) hl _ hg).mono ?_
    rintro e w4 ⟨rfl, hk4⟩
    have HF := Lib.hid (HFIN.out w4 (HK3.out.trans hk4 (fun _ _ f => f)))
    clear hk4 hl hg
    go_wp2_with fail
    refine (code_of 1 (by omega) (by omega) _).mono ?_
    rintro e wx ⟨rfl, rfl⟩
    go_wp2_with fail
    go_ret
    exact ⟨rfl, HF.out⟩
  have hmx : mayF x = true := by unfold mayF; rw [hl, hg]; rfl
  go_wp2_with fail
  refine (put_may (x := x) (HX.out w2 HK2.out) (HSZ.out w2 HK2.out) hmx).mono ?_
  rintro e w3 ⟨A, c, rfl, hox, hk3⟩
  obtain ⟨A1, c1, e1, _, hEx⟩ := hox.elems (by have := may_len hmx; unfold maxLen; omega)
  simp only [Value.slice.injEq, true_and] at e1
  obtain ⟨rfl, rfl⟩ := e1
  have HEX := Lib.hid hEx
  have HK3 := Lib.hid (HK2.out.trans hk3 (fun _ _ f => f))
  have HMX := Lib.hid hmx
  clear hk3 p0 p1 p2 hmx hox hEx
  obtain ⟨p0, p1, p2⟩ := HP.out w3 HK3.out
  go_wp2_with fail
  refine (ref_small (x := x) (HX.out w3 HK3.out) (HSZ.out w3 HK3.out) hl _ hg).mono ?_
  rintro e w4 ⟨rfl, hk4⟩
  have HK4 := Lib.hid (HK3.out.trans hk4 (fun _ _ f => f))
  obtain ⟨n, hn⟩ : ∃ n, (scE byteTok (partsOf x)).length = n := ⟨_, rfl⟩
  have hcp : ∀ w', Kept (fun _ => False) w4 w' → (convert 29 9 (.slice A n c)).run Try.prog w' = .ok (.string (strOf (scE byteTok (partsOf x)))) w' := fun w' hk => by
    rw [← hn]
    exact conv_bytes ((HEX.out.kept hk4 (Nat.le_refl _) (fun _ _ f => f)).kept hk hk4.size (fun _ _ f => f))
  rw [hn]
  have HCP := Lib.hid hcp
  have HNN := Lib.hid hn
  clear hk4 p0 p1 p2 hl hg hn hcp
  have hsf : ∀ w', Kept (fun _ => False) w4 w' → w'.cell? ⟨w.heap.size, 0, none⟩ = some (.slice x.os x.obs.length x.oc) ∧ w'.cell? ⟨w.heap.size, 1, none⟩ = some (.slice x.ps x.prs.length x.pc) ∧ w'.cell? ⟨w.heap.size, 2, none⟩ = some (.slice x.ks x.pis.length x.kc) ∧
      (convert 29 9 (.slice A n c)).run Try.prog w' = .ok (.string (strOf (scE byteTok (partsOf x)))) w' := by
    intro w' hk
    have a := HP.out w' (HK4.out.trans hk (fun _ _ f => f))
    exact ⟨a.1, a.2.1, a.2.2, HCP.out w' hk⟩
  have SF := Lib.hid hsf
  have hst := strOf_is (scE byteTok (partsOf x))
  have HST := Lib.hid hst
  clear hsf hst
  go_wp2_with fail
  obtain ⟨p0, p1, p2, c1⟩ := SF.out w4.drew (Kept.refl _ _).drew
  go_region_with ((go_at_call 13; refine (refPut_any (x := x) (B := w.heap.size) (HX.out _ HK4.out.drew) (HSZ.out _ HK4.out.drew) HMX.out).mono ?_; rintro e w6 ⟨v6, rfl, hown6, hk6⟩; have HK6 := (Kept.refl _ w4).drew.trans hk6 (fun _ _ f => f); have hel6 := hown6.elems (by have := may_len HMX.out; unfold maxLen; omega); obtain ⟨A6, c6, rfl, _, hE6⟩ := hel6; have d6 := conv_bytes (c := c6) hE6; rw [HNN.out] at d6 ⊢; have e6 := HCP.out w6 HK6; clear hE6 hown6 hk6))
  all_goals
    have HF := Lib.hid (HFIN.out w6 (HK4.out.trans HK6 (fun _ _ f => f)))
    have hst := HST.out
    clear HK6 d6 e6
    go_wp2_with fail
    go_ret
    exact ⟨by first | rfl | (rw [hst]; rfl) | (simp only [hst]; rfl), HF.out⟩

theorem own : ownKnob Try.prog.godebug = none := by kernel_rfl
theorem laidOut : laidOutB Try.prog = true := by kernel_rfl

set_option maxRecDepth 100000 in
theorem lifted (os : Os) (started : os.Started) (H : Type) (enc : TypeId × Value → H) :
    ReturnsInHanded {} Try.checked os 3 .any (Rows.packPutsSpec.pre6 enc Try.prog Try.f3 Rows.packPutsRow.domain false) (Rows.packPutsSpec.post enc Try.prog Try.f3 false true false false) := by
  refine returnsInHanded_of_change (C := Try.checked) own started (by kernel_rfl) Try.func3
    (ChangeSpec.witness6 (enc := enc) (C := Try.checked) false ⟨#[], #[.agg #[.slice none 0 0, .slice none 0 0, .slice none 0 0]], []⟩ 8 (by kernel_rfl) (by kernel_rfl) (by kernel_rfl) (by kernel_rfl)) ?_
  intro W base args ds gs before hval0 hW hcnd _
  have hval : ∀ (j : Nat) t v, Try.f3.params[j]? = some t → args[j]? = some v → Value.okWide Try.prog W .any base t v := hval0
  have hW' := hW
  obtain ⟨p, q, hA0, hV, rfl, hfz, hnd⟩ := hW
  have hA : DataW.TrodAll enc Try.prog W 0 (fun _ => true) true Try.f3.params.toList args.toList ds p := hA0
  rw [Try.params3] at hA hval
  obtain ⟨v0, vs0, d0, ds0, p0, q0, hargs, rfl, rfl, h0, r0⟩ := trodAll_cons hA
  obtain ⟨rfl, rfl, rfl⟩ := trodAll_nil r0
  obtain rfl : args = #[v0] := by cases args; simp_all
  obtain ⟨rfl, rfl⟩ := trodVars_none hV
  have k0 := h0
  have lt0 : ∀ x ∈ p0, x.block < W.heap.size := by obtain ⟨m, hm⟩ := k0; exact DataW.trod_lt m _ _ _ hm
  obtain ⟨x0, rfl, hx0⟩ := sc_of (okWide_struct Try.underlying26 (hval 0 26 v0 rfl rfl)) k0
  clear hA0 hval0
  refine (walk x0 W hx0).mono fun e W' ⟨he, bel⟩ => ?_
  subst he
  exact ⟨_, rfl, _, _, _, [], _, [], hW', trodAll_mk1 (shut_bool Try.underlying4 _), (trodAll_cons_mk (Below.trod laidOut (by kernel_rfl) (of_decide_eq_true (by kernel_rfl)) k0 bel lt0) trodAll_mk0), rfl, bel.frame _, fun h => by cases h⟩

theorem over : Rows.packPutsRow.holds Try.pinned (OpenSpec.ofChange Rows.packPutsSpec) :=
  OpenClaim.holds_of_wide 3 Try.f3 rfl rfl rfl rfl rfl rfl rfl ⟨rfl, rfl, rfl, rfl, rfl⟩ rfl rfl rfl rfl rfl (by kernel_rfl) Try.func3 (by kernel_rfl)
    (of_decide_eq_true (by kernel_rfl)) (by unfold Func.isWrapper; first | (rw [if_pos (by decide +kernel)]; kernel_rfl) | (rw [if_neg (by decide +kernel)]; exact ⟨rfl, rfl⟩))
    (fun os started H enc _ => lifted os started H enc)

end packPuts
/-- The statement. -/
theorem packPuts_holds : Rows.PackPutsSaid := packPuts.over
end Go.Proofs.Ytkicpbnphbcdaaa
