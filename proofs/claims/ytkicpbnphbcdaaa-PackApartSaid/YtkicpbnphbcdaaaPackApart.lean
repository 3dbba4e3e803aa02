/-
  For every input the statement PackApart answers true: scripts that are unlike have unlike bytes.
  Conditions: none.
-/
import Derived.Test.YtkicpbnphbcdaaaPackKit
import Derived.WalkKit
import Derived.ProofKit
import Derived.OpenShut
import Derived.Deep.RegionHeld3
namespace Go.Proofs.Ytkicpbnphbcdaaa
namespace packApart
open Go.ChangeShapes Go.WideShapes Go.ChangeAt Go.RowKit
set_option linter.unusedVariables false

set_option maxHeartbeats 4000000 in
set_option maxRecDepth 100000 in
theorem walk (x y : Sc) (w : World) (hx : Lies w w.heap.size x) (hy : Lies w w.heap.size y) :
    Calls Try.prog 7 #[x.agg, y.agg] w fun e w' => e = .returned (.bool true) ∧ Below w.heap.size w w' := by
  obtain ⟨W0, hW0⟩ : ∃ W0, (w.alloc (.cells #[.slice x.os x.obs.length x.oc, .slice x.ps x.prs.length x.pc, .slice x.ks x.pis.length x.kc] 26)).alloc (.cells #[.slice y.os y.obs.length y.oc, .slice y.ps y.prs.length y.pc, .slice y.ks y.pis.length y.kc] 26) = W0 := ⟨_, rfl⟩
  have hk0 : Kept (fun _ => False) w W0 := by rw [← hW0]; exact ((Kept.refl _ w).alloc _).alloc _
  have hs0 : W0.heap.size = w.heap.size + 1 + 1 := by rw [← hW0]; simp
  have hb1 : W0.heap[w.heap.size + 1]? = some (.cells #[.slice y.os y.obs.length y.oc, .slice y.ps y.prs.length y.pc, .slice y.ks y.pis.length y.kc] 26 (0, 0)) := by
    rw [← hW0]
    have := heap_alloc_new (w.alloc (.cells #[.slice x.os x.obs.length x.oc, .slice x.ps x.prs.length x.pc, .slice x.ks x.pis.length x.kc] 26)) (.cells #[.slice y.os y.obs.length y.oc, .slice y.ps y.prs.length y.pc, .slice y.ks y.pis.length y.kc] 26)
    rwa [World.size_alloc] at this
  have hb0 : W0.heap[w.heap.size]? = some (.cells #[.slice x.os x.obs.length x.oc, .slice x.ps x.prs.length x.pc, .slice x.ks x.pis.length x.kc] 26 (0, 0)) := by
    rw [← hW0]
    exact ((Kept.refl (fun _ => False) (w.alloc (.cells #[.slice x.os x.obs.length x.oc, .slice x.ps x.prs.length x.pc, .slice x.ks x.pis.length x.kc] 26))).alloc _).block _ (by simp) (fun f => f) |>.trans (heap_alloc_new w _)
  have HX := Lib.hid (fun (w' : World) (hk : Kept (fun _ => False) W0 w') => hx.kept (hk0.trans hk (fun _ _ f => f)) (Nat.le_refl _) (fun _ _ f => f))
  have HY := Lib.hid (fun (w' : World) (hk : Kept (fun _ => False) W0 w') => hy.kept (hk0.trans hk (fun _ _ f => f)) (Nat.le_refl _) (fun _ _ f => f))
  have HP := Lib.hid (fun (w' : World) (hk : Kept (fun _ => False) W0 w') => res_cells ((hk.block w.heap.size (by omega) (fun f => f)).trans hb0))
  have HQ := Lib.hid (fun (w' : World) (hk : Kept (fun _ => False) W0 w') => res_cells ((hk.block (w.heap.size + 1) (by omega) (fun f => f)).trans hb1))
  have HFIN := Lib.hid (fun (w' : World) (hk : Kept (fun _ => False) W0 w') => (hk0.trans hk (fun _ _ f => f)).below (Nat.le_refl _) (fun _ f => f.elim))
  have HSZ := Lib.hid (fun (w' : World) (hk : Kept (fun _ => False) W0 w') => (show w.heap.size ≤ w'.heap.size from Nat.le_trans (by omega) hk.size))
  have HW0 := Lib.hid hW0
  clear hx hy hk0 hs0 hb0 hb1 hW0
  unfold Sc.agg
  go_enter Try.func7, Try.ntmps7
  go_wp2_with fail
  rw [HW0.out]
  clear HW0
  refine (packUp_any _).mono ?_
  rintro e w1 ⟨rfl, hk1⟩
  obtain ⟨p0, p1, p2⟩ := HP.out w1 hk1
  have HK1 := Lib.hid hk1
  clear hk1
  cases hfx : fewF x
  · go_wp2_with fail
    refine (few_any (x := x) (HX.out w1 HK1.out) (HSZ.out w1 HK1.out) false hfx).mono ?_
    rintro e w2 ⟨rfl, hk2⟩
    have HF := Lib.hid (HFIN.out w2 (HK1.out.trans hk2 (fun _ _ f => f)))
    clear hk2
    go_wp2_with fail
    go_ret
    exact ⟨rfl, HF.out⟩
  go_wp2_with fail
  refine (few_any (x := x) (HX.out w1 HK1.out) (HSZ.out w1 HK1.out) true hfx).mono ?_
  rintro e w2 ⟨rfl, hk2⟩
  have HK2 := Lib.hid (HK1.out.trans hk2 (fun _ _ f => f))
  clear hk2 p0 p1 p2 hfx
  obtain ⟨p0, p1, p2⟩ := HP.out w2 HK2.out
  obtain ⟨q0, q1, q2⟩ := HQ.out w2 HK2.out
  cases hfy : fewF y
  · go_wp2_with fail
    refine (few_any (x := y) (HY.out w2 HK2.out) (HSZ.out w2 HK2.out) false hfy).mono ?_
    rintro e w3 ⟨rfl, hk3⟩
    have HF := Lib.hid (HFIN.out w3 (HK2.out.trans hk3 (fun _ _ f => f)))
    clear hk3
    go_wp2_with fail
    go_ret
    exact ⟨rfl, HF.out⟩
  go_wp2_with fail
  refine (few_any (x := y) (HY.out w2 HK2.out) (HSZ.out w2 HK2.out) true hfy).mono ?_
  rintro e w3 ⟨rfl, hk3⟩
  have HK3 := Lib.hid (HK2.out.trans hk3 (fun _ _ f => f))
  clear hk3 p0 p1 p2 q0 q1 q2 hfy
  obtain ⟨p0, p1, p2⟩ := HP.out w3 HK3.out
  cases hmx : mayF x
  · go_wp2_with fail
    refine (put_not (x := x) (HX.out w3 HK3.out) (HSZ.out w3 HK3.out) hmx).mono ?_
    rintro e w4 ⟨c, hc, rfl, hk4⟩
    have HK4 := Lib.hid (HK3.out.trans hk4 (fun _ _ f => f))
    clear hk4 p0 p1 p2 hmx hc
    obtain ⟨q0, q1, q2⟩ := HQ.out w4 HK4.out
    cases hmy : mayF y
    · go_wp2_with fail
      refine (put_not (x := y) (HY.out w4 HK4.out) (HSZ.out w4 HK4.out) hmy).mono ?_
      rintro e w5 ⟨d, hd, rfl, hk5⟩
      have HF := Lib.hid (HFIN.out w5 (HK4.out.trans hk5 (fun _ _ f => f)))
      clear hk5 hd
      go_wp2_with fail
      go_ret
      exact ⟨rfl, HF.out⟩
    · go_wp2_with fail
      refine (put_may (x := y) (HY.out w4 HK4.out) (HSZ.out w4 HK4.out) hmy).mono ?_
      rintro e w5 ⟨A, d, rfl, ho, hk5⟩
      have HF := Lib.hid (HFIN.out w5 (HK4.out.trans hk5 (fun _ _ f => f)))
      clear hk5 ho
      go_wp2_with fail
      go_ret
      exact ⟨rfl, HF.out⟩
  go_wp2_with fail
  refine (put_may (x := x) (HX.out w3 HK3.out) (HSZ.out w3 HK3.out) hmx).mono ?_
  rintro e w4 ⟨A, c, rfl, hox, hk4⟩
  obtain ⟨A1, c1, e1, _, hEx⟩ := hox.elems (by have := may_len hmx; unfold maxLen; omega)
  simp only [Value.slice.injEq, true_and] at e1
  obtain ⟨rfl, rfl⟩ := e1
  have HEX := Lib.hid hEx
  have HK4 := Lib.hid (HK3.out.trans hk4 (fun _ _ f => f))
  have HMX := Lib.hid hmx
  clear hk4 p0 p1 p2 hmx hox hEx
  obtain ⟨q0, q1, q2⟩ := HQ.out w4 HK4.out
  cases hmy : mayF y
  · go_wp2_with fail
    refine (put_not (x := y) (HY.out w4 HK4.out) (HSZ.out w4 HK4.out) hmy).mono ?_
    rintro e w5 ⟨d, hd, rfl, hk5⟩
    have HF := Lib.hid (HFIN.out w5 (HK4.out.trans hk5 (fun _ _ f => f)))
    clear hk5 hd
    go_wp2_with fail
    go_ret
    exact ⟨rfl, HF.out⟩
  go_wp2_with fail
  refine (put_may (x := y) (HY.out w4 HK4.out) (HSZ.out w4 HK4.out) hmy).mono ?_
  rintro e w5 ⟨A2, c2, rfl, hoy, hk5⟩
  obtain ⟨A3, c3, e1, _, hEy⟩ := hoy.elems (by have := may_len hmy; unfold maxLen; omega)
  simp only [Value.slice.injEq, true_and] at e1
  obtain ⟨rfl, rfl⟩ := e1
  have hcp : ∀ w', Kept (fun _ => False) w5 w' → (convert 29 9 (.slice A (scE byteTok (partsOf x)).length c)).run Try.prog w' = .ok (.string (strOf (scE byteTok (partsOf x)))) w' := fun w' hk => conv_bytes ((HEX.out.kept hk5 (Nat.le_refl _) (fun _ _ f => f)).kept hk hk5.size (fun _ _ f => f))
  have hcq : ∀ w', Kept (fun _ => False) w5 w' → (convert 29 9 (.slice A2 (scE byteTok (partsOf y)).length c2)).run Try.prog w' = .ok (.string (strOf (scE byteTok (partsOf y)))) w' := fun w' hk => conv_bytes (hEy.kept hk (Nat.le_refl _) (fun _ _ f => f))
  have HCP := Lib.hid hcp
  have HCQ := Lib.hid hcq
  have HK5 := Lib.hid (HK4.out.trans hk5 (fun _ _ f => f))
  have HMY := Lib.hid hmy
  clear hk5 q0 q1 q2 hmy hoy hEy hcp hcq
  have hsf : ∀ w', Kept (fun _ => False) w5 w' → w'.cell? ⟨w.heap.size, 0, none⟩ = some (.slice x.os x.obs.length x.oc) ∧ w'.cell? ⟨w.heap.size, 1, none⟩ = some (.slice x.ps x.prs.length x.pc) ∧ w'.cell? ⟨w.heap.size, 2, none⟩ = some (.slice x.ks x.pis.length x.kc) ∧
      w'.cell? ⟨w.heap.size + 1, 0, none⟩ = some (.slice y.os y.obs.length y.oc) ∧ w'.cell? ⟨w.heap.size + 1, 1, none⟩ = some (.slice y.ps y.prs.length y.pc) ∧ w'.cell? ⟨w.heap.size + 1, 2, none⟩ = some (.slice y.ks y.pis.length y.kc) ∧
      (convert 29 9 (.slice A (scE byteTok (partsOf x)).length c)).run Try.prog w' = .ok (.string (strOf (scE byteTok (partsOf x)))) w' ∧
      (convert 29 9 (.slice A2 (scE byteTok (partsOf y)).length c2)).run Try.prog w' = .ok (.string (strOf (scE byteTok (partsOf y)))) w' := by
    intro w' hk
    have a := HP.out w' (HK5.out.trans hk (fun _ _ f => f))
    have b := HQ.out w' (HK5.out.trans hk (fun _ _ f => f))
    exact ⟨a.1, a.2.1, a.2.2, b.1, b.2.1, b.2.2, HCP.out w' hk, HCQ.out w' hk⟩
  have SF := Lib.hid hsf
  clear hsf
  by_cases he : partsOf x = partsOf y
  · have HE := Lib.hid he
    clear he
    go_wp2_with fail
    go_region_held3 (fun w' => w'.cell? ⟨w.heap.size, 0, none⟩ = some (.slice x.os x.obs.length x.oc) ∧ w'.cell? ⟨w.heap.size, 1, none⟩ = some (.slice x.ps x.prs.length x.pc) ∧ w'.cell? ⟨w.heap.size, 2, none⟩ = some (.slice x.ks x.pis.length x.kc) ∧
      w'.cell? ⟨w.heap.size + 1, 0, none⟩ = some (.slice y.os y.obs.length y.oc) ∧ w'.cell? ⟨w.heap.size + 1, 1, none⟩ = some (.slice y.ps y.prs.length y.pc) ∧ w'.cell? ⟨w.heap.size + 1, 2, none⟩ = some (.slice y.ks y.pis.length y.kc) ∧
      (convert 29 9 (.slice A (scE byteTok (partsOf x)).length c)).run Try.prog w' = .ok (.string (strOf (scE byteTok (partsOf x)))) w' ∧
      (convert 29 9 (.slice A2 (scE byteTok (partsOf y)).length c2)).run Try.prog w' = .ok (.string (strOf (scE byteTok (partsOf y)))) w')
      (first | exact SF.out _ (Kept.refl _ _) | exact SF.out _ (Kept.refl _ _).drew | exact SF.out _ HK6)
      (first | (go_at_call 16; refine (same_is (y := x) (x := y) (HY.out _ HK5.out.drew) (HX.out _ HK5.out.drew) (HSZ.out _ HK5.out.drew) HE.out).mono ?_; rintro e w6 ⟨rfl, hk6⟩; have HK6 := (Kept.refl _ w5).drew.trans hk6 (fun _ _ f => f)))
    have hst : ((strOf (scE byteTok (partsOf x))).toList == (strOf (scE byteTok (partsOf y))).toList) = true := by rw [HE.out]; exact strOf_is _
    have HF := Lib.hid (HFIN.out w6 (HK5.out.trans HK6 (fun _ _ f => f)))
    clear hk6 HK6
    go_wp2_with fail
    go_ret
    exact ⟨by first | (rw [hst]; rfl) | (simp only [hst]; rfl), HF.out⟩
  · have HE : Hid (partsOf x ≠ partsOf y) := Lib.hid he
    clear he
    go_wp2_with fail
    go_region_held3 (fun w' => w'.cell? ⟨w.heap.size, 0, none⟩ = some (.slice x.os x.obs.length x.oc) ∧ w'.cell? ⟨w.heap.size, 1, none⟩ = some (.slice x.ps x.prs.length x.pc) ∧ w'.cell? ⟨w.heap.size, 2, none⟩ = some (.slice x.ks x.pis.length x.kc) ∧
      w'.cell? ⟨w.heap.size + 1, 0, none⟩ = some (.slice y.os y.obs.length y.oc) ∧ w'.cell? ⟨w.heap.size + 1, 1, none⟩ = some (.slice y.ps y.prs.length y.pc) ∧ w'.cell? ⟨w.heap.size + 1, 2, none⟩ = some (.slice y.ks y.pis.length y.kc) ∧
      (convert 29 9 (.slice A (scE byteTok (partsOf x)).length c)).run Try.prog w' = .ok (.string (strOf (scE byteTok (partsOf x)))) w' ∧
      (convert 29 9 (.slice A2 (scE byteTok (partsOf y)).length c2)).run Try.prog w' = .ok (.string (strOf (scE byteTok (partsOf y)))) w')
      (first | exact SF.out _ (Kept.refl _ _) | exact SF.out _ (Kept.refl _ _).drew | exact SF.out _ HK6)
      (first | (go_at_call 16; refine (same_not (y := x) (x := y) (HY.out _ HK5.out.drew) (HX.out _ HK5.out.drew) (HSZ.out _ HK5.out.drew) HE.out).mono ?_; rintro e w6 ⟨rfl, hk6⟩; have HK6 := (Kept.refl _ w5).drew.trans hk6 (fun _ _ f => f)))
    have hst : ((strOf (scE byteTok (partsOf x))).toList == (strOf (scE byteTok (partsOf y))).toList) = false := strOf_ne (scE_lt _) (scE_lt _) (fun e => HE.out (sc_inj byteTok (may_ok HMX.out) (may_ok HMY.out) e))
    have HF := Lib.hid (HFIN.out w6 (HK5.out.trans HK6 (fun _ _ f => f)))
    clear hk6 HK6
    go_wp2_with fail
    go_ret
    exact ⟨by first | (rw [hst]; rfl) | (simp only [hst]; rfl), HF.out⟩

theorem own : ownKnob Try.prog.godebug = none := by kernel_rfl
theorem laidOut : laidOutB Try.prog = true := by kernel_rfl

set_option maxRecDepth 100000 in
theorem lifted (os : Os) (started : os.Started) (H : Type) (enc : TypeId × Value → H) :
    ReturnsInHanded {} Try.checked os 7 .any (Rows.packApartSpec.pre6 enc Try.prog Try.f7 Rows.packApartRow.domain false) (Rows.packApartSpec.post enc Try.prog Try.f7 false true false false) := by
  refine returnsInHanded_of_change (C := Try.checked) own started (by kernel_rfl) Try.func7
    (ChangeSpec.witness6 (enc := enc) (C := Try.checked) false ⟨#[], #[.agg #[.slice none 0 0, .slice none 0 0, .slice none 0 0], .agg #[.slice none 0 0, .slice none 0 0, .slice none 0 0]], []⟩ 8 (by kernel_rfl) (by kernel_rfl) (by kernel_rfl) (by kernel_rfl)) ?_
  intro W base args ds gs before hval0 hW hcnd _
  have hval : ∀ (j : Nat) t v, Try.f7.params[j]? = some t → args[j]? = some v → Value.okWide Try.prog W .any base t v := hval0
  have hW' := hW
  obtain ⟨p, q, hA0, hV, rfl, hfz, hnd⟩ := hW
  have hA : DataW.TrodAll enc Try.prog W 0 (fun _ => true) true Try.f7.params.toList args.toList ds p := hA0
  rw [Try.params7] at hA hval
  obtain ⟨v0, vs0, d0, ds0, p0, q0, hargs, rfl, rfl, h0, r0⟩ := trodAll_cons hA
  obtain ⟨v1, vs1, d1, ds1, p1, q1, rfl, rfl, rfl, h1, r1⟩ := trodAll_cons r0
  obtain ⟨rfl, rfl, rfl⟩ := trodAll_nil r1
  obtain rfl : args = #[v0, v1] := by cases args; simp_all
  obtain ⟨rfl, rfl⟩ := trodVars_none hV
  have k0 := h0
  have lt0 : ∀ x ∈ p0, x.block < W.heap.size := by obtain ⟨m, hm⟩ := k0; exact DataW.trod_lt m _ _ _ hm
  obtain ⟨x0, rfl, hx0⟩ := sc_of (okWide_struct Try.underlying26 (hval 0 26 v0 rfl rfl)) k0
  have k1 := h1
  have lt1 : ∀ x ∈ p1, x.block < W.heap.size := by obtain ⟨m, hm⟩ := k1; exact DataW.trod_lt m _ _ _ hm
  obtain ⟨x1, rfl, hx1⟩ := sc_of (okWide_struct Try.underlying26 (hval 1 26 v1 rfl rfl)) k1
  clear hA0 hval0
  refine (walk x0 x1 W hx0 hx1).mono fun e W' ⟨he, bel⟩ => ?_
  subst he
  exact ⟨_, rfl, _, _, _, [], _, [], hW', trodAll_mk1 (shut_bool Try.underlying4 _), (trodAll_cons_mk (Below.trod laidOut (by kernel_rfl) (of_decide_eq_true (by kernel_rfl)) k0 bel lt0) (trodAll_cons_mk (Below.trod laidOut (by kernel_rfl) (of_decide_eq_true (by kernel_rfl)) k1 bel lt1) trodAll_mk0)), rfl, bel.frame _, fun h => by cases h⟩

theorem over : Rows.packApartRow.holds Try.pinned (OpenSpec.ofChange Rows.packApartSpec) :=
  OpenClaim.holds_of_wide 7 Try.f7 rfl rfl rfl rfl rfl rfl rfl ⟨rfl, rfl, rfl, rfl, rfl⟩ rfl rfl rfl rfl rfl (by kernel_rfl) Try.func7 (by kernel_rfl)
    (of_decide_eq_true (by kernel_rfl)) (by unfold Func.isWrapper; first | (rw [if_pos (by decide +kernel)]; kernel_rfl) | (rw [if_neg (by decide +kernel)]; exact ⟨rfl, rfl⟩))
    (fun os started H enc _ => lifted os started H enc)

end packApart
/-- The statement. -/
theorem packApart_holds : Rows.PackApartSaid := packApart.over
end Go.Proofs.Ytkicpbnphbcdaaa
