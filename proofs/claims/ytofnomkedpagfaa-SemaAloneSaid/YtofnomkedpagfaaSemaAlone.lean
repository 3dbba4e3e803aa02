/-
  For every input the statement SemaAlone answers true: calls of a Sema, each one done alone, without waiting, come to marks and results as the model has them.
  Conditions: none.
-/
import Derived.Test.YtofnomkedpagfaaRunUp
import Derived.Test.YtofnomkedpagfaaRunObj
import Derived.Test.YtofnomkedpagfaaRunMay
import Derived.Deep.RegionLaw
import Derived.WalkKit
import Derived.ProofKit
import Derived.OpenShut
namespace Go.Proofs.Ytofnomkedpagfaa
namespace semaAlone
open Go.ChangeShapes Go.WideShapes Go.ChangeAt Go.RowKit
set_option linter.unusedVariables false
set_option linter.unusedSimpArgs false

theorem step_callR {ops : Array Oper} {o : Oper} {a : Act} {K : Act → World → Prop} {Q : Exit → Act → World → Prop} {E : Prop} {w : World} (hw : Region.wanted o (yielded ops a.tmps) = true) (fi : Operand) {aa : Array Operand} {tt : Array TypeId} (ho : o.op = .call { callee := .value fi, args := aa, argTypes := tt }) {f : FuncId} {args : Array Value} {R : Ending → World → Prop} (hrun : (execOp a.eval o).run Try.prog w = .ok (.enter f args) w) (hc : Calls Try.prog f args w R) (hR : ∀ e w', R e w' → ∃ v, e = .returned v)
    (h : ∀ v w', R (.returned v) w' → K (a.put o.dst v) w') : if Region.wanted o (yielded ops a.tmps) = true then Oper.wp Try.prog o a w K Q else E := by
  rw [if_pos hw]
  unfold Oper.wp
  rw [hrun, Oper.upon_enter]
  refine hc.mono fun e w'' hh => ?_
  obtain ⟨v, rfl⟩ := hR e w'' hh
  exact h v w'' hh
set_option maxHeartbeats 2000000 in
theorem walk (bk bn : Int) (bf : Bool) (L : List Cs) (s : Option Addr) (cap n : Nat) (w : World) (hn : L.length = n) (hE : Elems w w.heap.size s 6 Cs.cells L) (h64 : ∀ x ∈ L, Cs64 x) :
    Calls Try.prog 3 #[.agg #[.int .i64 bk, .bool bf, .int .i64 bn], .slice s n cap] w fun e w' => e = .returned (.bool true) ∧ Below w.heap.size w w' := by
  have HN := Lib.hid hn
  have HE := Lib.hid hE
  have H64 := Lib.hid h64
  have HUP := Lib.hid (fun w' => up14_any w')
  have HMAY := Lib.hid (fun w' => may2_any bk bn bf w')
  clear hn hE h64
  go_enter Try.func3, Try.ntmps3
  go_wp2_with fail
  obtain ⟨b, hb⟩ : ∃ b, w.heap.size = b := ⟨_, rfl⟩
  obtain ⟨W, hW⟩ : ∃ W, w.alloc (.cells #[.int .i64 bk, .bool bf, .int .i64 bn] 23) = W := ⟨_, rfl⟩
  have hb0 : W.heap[b]? = some (.cells #[.int .i64 bk, .bool bf, .int .i64 bn] 23 (0, 0)) := by rw [← hW, ← hb]; exact heap_new1 w _
  have hk0 : Kept (fun _ => False) w W := by rw [← hW]; exact (Kept.refl _ w).alloc _
  have HB := Lib.hid hb
  rw [hW, hb]
  clear hW hb
  refine (HUP.out _).mono ?_
  rintro e w1 ⟨rfl, hk1⟩
  have hb1 := hk1.at0 hb0
  obtain ⟨o0, o1, o2⟩ := cells3 hb1
  have HK1 := Lib.hid (hk0.tr0 hk1)
  clear hb0 hk0 hk1
  go_wp2_with fail
  refine (HMAY.out _).mono ?_
  rintro e w2 ⟨rfl, hk2⟩
  have HB2 := Lib.hid (hk2.at0 hb1)
  have HK2 := Lib.hid (HK1.out.tr0 hk2)
  clear hb1 hk2 o0 o1 o2
  have HEND : Hid (∀ w', Kept (fun _ => False) w w' → Below w.heap.size w w') := Lib.hid (fun w' h => h.below (Nat.le_refl _) (fun _ f => f.elim))
  by_cases hm : bk = 2 ∧ 0 ≤ bn ∧ bn ≤ 1000
  case neg =>
    rw [decide_eq_false hm]
    clear hm
    obtain ⟨o0, o1, o2⟩ := cells3 HB2.out
    go_upto_region 3 with fail
    go_region
    all_goals go_wp2_with fail
    all_goals exact bodyPost_ret (v := .bool true) (by kernel_rfl) (by kernel_rfl) ⟨rfl, HEND.out _ HK2.out.drew⟩
  case pos =>
    rw [decide_eq_true hm]
    obtain ⟨rfl, h0, h1⟩ := hm
    have HTX := Lib.hid (fun w' => texts_any w')
    have HPL : Hid (∀ (wT : World) (a : Nat), Kept (fun _ => False) w wT → Elems wT wT.heap.size (some ⟨a, 0, none⟩) 1 sC textsS → Calls Try.prog 6 #[.slice (some ⟨a, 0, none⟩) 3 3, .agg #[.int .i64 2, .bool bf, .int .i64 bn], .slice s n cap] wT fun e w' => e = .returned (.bool true) ∧ Kept (fun _ => False) w w') := Lib.hid (fun wT a hk hT =>
      (plays_sema wT _ 3 hT bn bf h0 h1 s cap n L ((HE.out.kept hk (Nat.le_refl _) (fun _ _ f => f)).more hk.size) HN.out H64.out).mono (fun e w' h => ⟨h.1, hk.tr0 h.2⟩))
    clear h0 h1
    obtain ⟨o0, o1, o2⟩ := cells3 HB2.out
    go_upto_region 3 with fail
    go_region_law (first
      | (refine step_callR (by rfl) (.func 7) rfl (by kernel_rfl) (HTX.out _) (fun e w' hh => by obtain ⟨a, h, _⟩ := hh; exact ⟨_, h⟩) ?_; rintro v wT ⟨a, hv, hT, hkT⟩; cases hv; obtain ⟨o0, o1, o2⟩ := cells3 (hkT.at0 (show w2.drew.heap[b]? = _ from HB2.out)); have HKT := Lib.hid (show Kept (fun _ => False) w wT from HK2.out.drew.tr0 hkT))
      | (refine step_callR (by rfl) (.func 6) rfl (by kernel_rfl) (HPL.out _ _ HKT.out hT) (fun e w' hh => ⟨_, hh.1⟩) ?_; rintro v wP ⟨hv, hkP⟩; cases hv))
    all_goals clear o0 o1 o2 hT hkT
    all_goals have HKP := Lib.hid hkP
    all_goals clear hkP
    all_goals go_wp2_with fail
    all_goals exact bodyPost_ret (v := .bool true) (by kernel_rfl) (by kernel_rfl) ⟨rfl, HEND.out _ HKP.out⟩

theorem own : ownKnob Try.prog.godebug = none := by kernel_rfl
theorem laidOut : laidOutB Try.prog = true := by kernel_rfl

set_option maxRecDepth 100000 in
theorem lifted (os : Os) (started : os.Started) (H : Type) (enc : TypeId × Value → H) :
    ReturnsInHanded {} Try.checked os 3 .any (Rows.semaAloneSpec.pre6 enc Try.prog Try.f3 Rows.semaAloneRow.domain false) (Rows.semaAloneSpec.post enc Try.prog Try.f3 false true false false) := by
  refine returnsInHanded_of_change (C := Try.checked) own started (by kernel_rfl) Try.func3
    (ChangeSpec.witness6 (enc := enc) (C := Try.checked) false ⟨#[], #[.agg #[.int .i64 0, .bool false, .int .i64 0], .slice none 0 0], []⟩ 8 (by kernel_rfl) (by kernel_rfl) (by kernel_rfl) (by kernel_rfl)) ?_
  intro W base args ds gs before hval0 hW hcnd _
  have hval : ∀ (j : Nat) t v, Try.f3.params[j]? = some t → args[j]? = some v → Value.okWide Try.prog W .any base t v := hval0
  have hW' := hW
  obtain ⟨p, q, hA0, hV, rfl, hfz, hnd⟩ := hW
  have hA : DataW.TrodAll enc Try.prog W 0 (fun _ => true) true Try.f3.params.toList args.toList ds p := hA0
  rw [Try.params3] at hA hval
  obtain ⟨v0, vs0, d0, ds0, p0, q0, hargs, rfl, rfl, h0, r0⟩ := trodAll_cons hA
  obtain ⟨v1, vs1, d1, ds1, p1, q1, rfl, rfl, rfl, h1, r1⟩ := trodAll_cons r0
  obtain ⟨rfl, rfl, rfl⟩ := trodAll_nil r1
  obtain rfl : args = #[v0, v1] := by cases args; simp_all
  obtain ⟨rfl, rfl⟩ := trodVars_none hV
  have k0 := h0
  have lt0 : ∀ x ∈ p0, x.block < W.heap.size := by obtain ⟨m, hm⟩ := k0; exact DataW.trod_lt m _ _ _ hm
  obtain ⟨bk0, bf0, bn0, rfl⟩ := object13_of (okWide_struct Try.underlying23 (hval 0 23 v0 rfl rfl)) k0
  have k1 := h1
  have lt1 : ∀ x ∈ p1, x.block < W.heap.size := by obtain ⟨m, hm⟩ := k1; exact DataW.trod_lt m _ _ _ hm
  obtain ⟨s1, len1, cap1, rfl⟩ := okWide_slice Try.underlying24 (hval 1 24 v1 rfl rfl)
  obtain ⟨L1, hl1, hx1, hq1⟩ := calls_of k1
  clear hA0 hval0
  refine (walk bk0 bn0 bf0 L1 s1 cap1 len1 W hl1 hx1 hq1).mono fun e W' ⟨he, bel⟩ => ?_
  subst he
  exact ⟨_, rfl, _, _, _, [], _, [], hW', trodAll_mk1 (shut_bool Try.underlying4 _), (trodAll_cons_mk (Below.trod laidOut (by kernel_rfl) (of_decide_eq_true (by kernel_rfl)) k0 bel lt0) (trodAll_cons_mk (Below.trod laidOut (by kernel_rfl) (of_decide_eq_true (by kernel_rfl)) k1 bel lt1) trodAll_mk0)), rfl, bel.frame _, fun h => by cases h⟩

theorem over : Rows.semaAloneRow.holds Try.pinned (OpenSpec.ofChange Rows.semaAloneSpec) :=
  OpenClaim.holds_of_wide 3 Try.f3 rfl rfl rfl rfl rfl rfl rfl ⟨rfl, rfl, rfl, rfl, rfl⟩ rfl rfl rfl rfl rfl (by kernel_rfl) Try.func3 (by kernel_rfl)
    (of_decide_eq_true (by kernel_rfl)) (by unfold Func.isWrapper; first | (rw [if_pos (by decide +kernel)]; kernel_rfl) | (rw [if_neg (by decide +kernel)]; exact ⟨rfl, rfl⟩))
    (fun os started H enc _ => lifted os started H enc)

end semaAlone
/-- The statement. -/
theorem semaAlone_holds : Rows.SemaAloneSaid := semaAlone.over
end Go.Proofs.Ytofnomkedpagfaa
