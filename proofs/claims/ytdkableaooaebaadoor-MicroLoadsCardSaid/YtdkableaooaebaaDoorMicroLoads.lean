/-
  For every input the statement MicroLoads answers true: what a step stores the next one loads; each step has one access.
  Conditions: none.
-/
import Derived.Test.YtdkableaooaebaaDoorMicLoadsM
import Derived.Test.YtdkableaooaebaaDoorMicLaid
import Derived.WalkKit
import Derived.ProofKit
import Derived.OpenShut
namespace Go.Proofs.YtdkableaooaebaaDoor
namespace microLoads
open Go.ChangeShapes Go.WideShapes Go.ChangeAt Go.RowKit
set_option linter.unusedVariables false

set_option maxHeartbeats 4000000 in
set_option maxRecDepth 100000 in
theorem walk (v z : Int) (w : World) (hL : Laid w) :
    Calls Tryd.prog 6 #[.int .i64 v, .int .i64 z] w fun e w' => e = .returned (.bool true) ∧ Below w.heap.size w w' := by
  have HU := Lib.hid (up_any w hL)
  have HL := Lib.hid hL
  clear hL
  have HMA : Hid (∀ w' : World, Calls Tryd.prog 8 #[.slice (some ⟨w'.heap.size, 0, none⟩) 2 2, .int .i64 1] (w'.alloc (.cells #[.int .i64 5, .int .i64 6] 2)) (MadeTo (w'.alloc (.cells #[.int .i64 5, .int .i64 6] 2)) [5, 6] 1)) :=
    Lib.hid (fun w' => made_any (cap := 2) [5, 6] 1 (nums_lit w' [5, 6] (by decide)) (by decide) (by decide) (by decide))
  have HSA : Hid (∀ (w' : World) (o : Obj), Calls Tryd.prog 9 #[.int .i64 0, .slice (some ⟨w'.heap.size + 1, 0, none⟩) 3 3] ((w'.alloc o).alloc (.cells #[.int .i64 v, .int .i64 z, .int .i64 1] 2)) (StartTo ((w'.alloc o).alloc (.cells #[.int .i64 v, .int .i64 z, .int .i64 1] 2)) (firstF 0 [v, z, 1]))) :=
    Lib.hid (fun w' o => by
      have h := start_any (cap := 3) 0 [v, z, 1] (nums_lit (w'.alloc o) [v, z, 1] (show 3 ≤ maxLen by decide))
      rw [show (w'.alloc o).heap.size = w'.heap.size + 1 from Array.size_push ..] at h
      exact h)
  go_enter Tryd.func6, Tryd.ntmps6
  go_wp2_with fail
  refine (HU.out).mono ?_
  rintro e w1 ⟨rfl, hk1⟩
  go_wp2_with fail
  refine ((HMA.out _)).mono ?_
  rintro e w2 ⟨ab, tb, tg, tc, og, rfl, hs, hk2⟩
  have hL1 : Laid (w1.alloc (.cells #[.int .i64 5, .int .i64 6] 2)) := (HL.out.on0 hk1).on0 ((Kept.refl _ w1).alloc _)
  have hkW : Kept (fun _ => False) w (w1.alloc (.cells #[.int .i64 5, .int .i64 6] 2)) := hk1.alloc _
  generalize w1.alloc (.cells #[.int .i64 5, .int .i64 6] 2) = W at *
  have HL1 := Lib.hid hL1
  have HKW := Lib.hid hkW
  have HS := Lib.hid (hs.kept0 ((Kept.refl (fun _ => False) w2).alloc (.cells #[.int .i64 6, .int .i64 0, .int .i64 2, .int .i64 0, .int .i64 1, .int .i64 5, .int .i64 3, .int .i64 2, .int .i64 0, .int .i64 1, .int .i64 6, .int .i64 1, .int .i64 2, .int .i64 0, .int .i64 1, .int .i64 22, .int .i64 3, .int .i64 0, .int .i64 0, .int .i64 0] 46)))
  have HK := Lib.hid (hk2.alloc (.cells #[.int .i64 6, .int .i64 0, .int .i64 2, .int .i64 0, .int .i64 1, .int .i64 5, .int .i64 3, .int .i64 2, .int .i64 0, .int .i64 1, .int .i64 6, .int .i64 1, .int .i64 2, .int .i64 0, .int .i64 1, .int .i64 22, .int .i64 3, .int .i64 0, .int .i64 0, .int .i64 0] 46))
  have HCB := Lib.hid (heap_new1 w2 (.cells #[.int .i64 6, .int .i64 0, .int .i64 2, .int .i64 0, .int .i64 1, .int .i64 5, .int .i64 3, .int .i64 2, .int .i64 0, .int .i64 1, .int .i64 6, .int .i64 1, .int .i64 2, .int .i64 0, .int .i64 1, .int .i64 22, .int .i64 3, .int .i64 0, .int .i64 0, .int .i64 0] 46))
  have HZ := Lib.hid hs.lt
  have HFIN : Hid (∀ w', Kept (fun _ => False) W w' → Below w.heap.size w w') := Lib.hid (fun w' hk => (HKW.out.trans hk (fun _ _ f => f)).below (Nat.le_refl _) (fun _ f => f.elim))
  clear hL1 hkW hs hk1 hk2 HU HMA HL HKW
  go_wp2_with fail
  refine ((HSA.out _ _)).mono ?_
  rintro e w3 ⟨g, c, rfl, hg, hR, hk3⟩
  have hk3' := (Kept.refl (fun _ => False) (w2.alloc (.cells #[.int .i64 6, .int .i64 0, .int .i64 2, .int .i64 0, .int .i64 1, .int .i64 5, .int .i64 3, .int .i64 2, .int .i64 0, .int .i64 1, .int .i64 6, .int .i64 1, .int .i64 2, .int .i64 0, .int .i64 1, .int .i64 22, .int .i64 3, .int .i64 0, .int .i64 0, .int .i64 0] 46))).alloc (.cells #[.int .i64 v, .int .i64 z, .int .i64 1] 2) |>.trans hk3 (fun _ _ f => f)
  have hS3 := HS.out.kept0 hk3'
  have hK3 := HK.out.trans hk3' (fun _ _ f => f)
  have hC3 : CodeIn (some ⟨w2.heap.size, 0, none⟩) ldCode (Base ab tb tg og) w3 :=
    code_in (Elems.block (f := Ix.cells) (xs := ldCode) Ix.five (hk3'.at0 HCB.out) rfl (by decide)) (by have := hk3'.size; have := (Array.getElem?_eq_some_iff.1 HCB.out).1; omega) (fun hB => by have := HZ.out _ hB; omega)
  have HST := Lib.hid (one_go (cc := 4) (ld_1 v z) hS3 hK3 HL1.out rfl rfl (by decide) hR hC3 (by decide) ld_wide)
  clear hk3' hS3 hK3 hC3 hk3 hR hg HS HK HCB HZ HSA
  go_wp2_with fail
  refine (HST.out).mono ?_
  rintro e w4 ⟨g4, c4, no4, nc4, og4, rfl, hs4, hk4, hR4, hC4⟩
  have HLD : Hid (Calls Tryd.prog 14 #[.pointer (some ⟨ab, 0, none⟩), .int .i64 2] w4 fun e w' => e = .returned (.tuple #[.int .i64 v, .nilIface]) ∧ w4 = w') := Lib.hid (load_in 2 w4 hs4.ar (by decide) (show (2 : Int) ≤ ((2 : Nat) : Int) by decide))
  have HST4 := Lib.hid (one_go (cc := 4) (ld_2 v z) hs4 hk4 HL1.out rfl rfl (show 2 ≤ 4096 by decide) hR4 hC4 (by decide) ld_wide)
  clear hs4 hk4 hR4 hC4 HST
  go_wp2_with fail
  refine (HLD.out).mono ?_
  rintro e w4' ⟨rfl, rfl⟩
  go_wp2_with fail
  refine (HST4.out).mono ?_
  rintro e w5 ⟨g5, c5, no5, nc5, og5, rfl, hs5, hk5, hR5, hC5⟩
  have HLD5 : Hid (Calls Tryd.prog 14 #[.pointer (some ⟨ab, 0, none⟩), .int .i64 2] w5 fun e w' => e = .returned (.tuple #[.int .i64 v, .nilIface]) ∧ w5 = w') := Lib.hid (load_in 2 w5 hs5.ar (by decide) (show (2 : Int) ≤ ((2 : Nat) : Int) by decide))
  have HST5 := Lib.hid (one_go (cc := 4) (ld_3 v z) hs5 hk5 HL1.out rfl rfl (show 2 ≤ 4096 by decide) hR5 hC5 (by decide) ld_wide)
  clear hs5 hk5 hR5 hC5 HST4 HLD
  go_wp2_with fail
  refine (HLD5.out).mono ?_
  rintro e w5' ⟨rfl, rfl⟩
  go_wp2_with fail
  refine (HST5.out).mono ?_
  rintro e w6 ⟨g6, c6, no6, nc6, og6, rfl, hs6, hk6, hR6, hC6⟩
  have HLD6 : Hid (Calls Tryd.prog 14 #[.pointer (some ⟨ab, 0, none⟩), .int .i64 2] w6 fun e w' => e = .returned (.tuple #[.int .i64 z, .nilIface]) ∧ w6 = w') := Lib.hid (load_in 2 w6 hs6.ar (by decide) (show (2 : Int) ≤ ((2 : Nat) : Int) by decide))
  have HF := Lib.hid (HFIN.out _ hk6)
  clear hs6 hk6 hR6 hC6 HST5 HLD5 HFIN
  go_wp2_with fail
  refine (HLD6.out).mono ?_
  rintro e w6' ⟨rfl, rfl⟩
  go_wp2_with fail
  go_ret
  exact ⟨rfl, HF.out⟩

theorem own : ownKnob Tryd.prog.godebug = none := by kernel_rfl

set_option maxRecDepth 100000 in
theorem lifted (os : Os) (started : os.Started) (H : Type) (enc : TypeId × Value → H) :
    ReturnsInHanded {} Tryd.checked os 6 .any (fun w args => (Rows.microLoadsSpec.pre enc Tryd.prog Tryd.f6 [] false w args ∧ laidMetH Tryd.prog rowLaid w) ∧ sizedMet enc Tryd.prog Tryd.f6 (OpenSpec.ofChange Rows.microLoadsSpec) false w args) (Rows.microLoadsSpec.post enc Tryd.prog Tryd.f6 false true false false) := by
  refine handed_laid (C := Tryd.checked) (X := fun w _ => laidMetH Tryd.prog rowLaid w) (fun _ _ _ hh h => h.of_heap hh) own started (by kernel_rfl) Tryd.func6
    (ChangeSpec.witness_shaped (enc := enc) (C := Tryd.checked) (os := os) (X := fun w _ => laidMetH Tryd.prog rowLaid w) false (World.laidAll Tryd.prog os rowLaid) #[.int .i64 0, .int .i64 0] 8 (World.laidAll_os _ _ _)
      (World.shaped_of_ZipB (by kernel_rfl) (by kernel_rfl)) (by kernel_rfl) (by kernel_rfl) (by kernel_rfl)
      (by rw [MakeChecks.laidMetH_plain _ _ _ (by kernel_rfl)]; exact laidMet_laidAll _ (by kernel_rfl) (by kernel_rfl))) ?_
  intro W base args ds gs before hval0 hW hL hsh
  rw [MakeChecks.laidMetH_plain _ _ _ (by kernel_rfl)] at hL
  have hLaid := laid_of hL hsh
  have hval : ∀ (j : Nat) t v, Tryd.f6.params[j]? = some t → args[j]? = some v → Value.okWide Tryd.prog W .any base t v := hval0
  have hW' := hW
  obtain ⟨p, q, hA0, hV, rfl, hfz, hnd⟩ := hW
  have hA : DataW.TrodAll enc Tryd.prog W 0 (fun _ => true) true Tryd.f6.params.toList args.toList ds p := hA0
  rw [Tryd.params6] at hA hval
  obtain ⟨v0, vs0, d0, ds0, p0, q0, hargs, rfl, rfl, h0, r0⟩ := trodAll_cons hA
  obtain ⟨v1, vs1, d1, ds1, p1, q1, rfl, rfl, rfl, h1, r1⟩ := trodAll_cons r0
  obtain ⟨rfl, rfl, rfl⟩ := trodAll_nil r1
  obtain rfl : args = #[v0, v1] := by cases args; simp_all
  obtain ⟨rfl, rfl⟩ := trodVars_none hV
  obtain ⟨a0, rfl, rfl, rfl, w0⟩ := open_int Tryd.underlying2 (hval 0 2 v0 rfl rfl) h0
  obtain ⟨a1, rfl, rfl, rfl, w1⟩ := open_int Tryd.underlying2 (hval 1 2 v1 rfl rfl) h1
  clear hA0 hval0
  refine (walk a0 a1 W hLaid).mono fun e W' ⟨he, bel⟩ => ?_
  subst he
  exact ⟨_, rfl, _, _, _, [], [], [], hW', trodAll_mk1 (shut_bool Tryd.underlying4 _), (trodAll_cons_mk (shut_int Tryd.underlying2 w0) (trodAll_cons_mk (shut_int Tryd.underlying2 w1) trodAll_mk0)), rfl, bel.frame _, fun h => by cases h⟩

theorem over : Rows.microLoadsRow.holds Tryd.pinned (OpenSpec.ofChange Rows.microLoadsSpec) :=
  OpenClaim.holds_of_wide 6 Tryd.f6 rfl rfl rfl rfl rfl rfl rfl ⟨rfl, rfl, rfl, rfl, rfl⟩ rfl rfl rfl rfl rfl (by kernel_rfl) Tryd.func6 (by kernel_rfl)
    (of_decide_eq_true (by kernel_rfl)) (by unfold Func.isWrapper; first | (rw [if_pos (by decide +kernel)]; kernel_rfl) | (rw [if_neg (by decide +kernel)]; exact ⟨rfl, rfl⟩))
    (fun os started H enc _ => lifted os started H enc)

end microLoads
/-- The row's statement. -/
theorem microLoads_row : Rows.MicroLoadsSaid := microLoads.over
/-- The statement: the card. -/
theorem microLoads_holds : Rows.MicroLoadsCardSaid :=
  Claim7.holds_tied_plain_at .later [] Rows.microLoadsCard.laidKinds true Rows.microLoadsCard.stood.harness Rows.microLoadsCard.stood.looks
    microLoads_row (fun _ h => by cases h) (by kernel_rfl) (fun _ h => by cases h) microLoads_row_tie rfl ⟨rfl, rfl⟩ (by kernel_rfl) rfl
    (fun f fn hf hfn => by
      obtain rfl : f = 6 := Option.some.inj ((show Tryd.prog.funcNamed "thole/tholelaw09.MicroLoads" = some 6 by kernel_rfl).symm.trans hf) |>.symm
      obtain rfl : fn = Tryd.f6 := (Option.some.inj (Tryd.func6.symm.trans hfn)).symm
      exact ⟨by kernel_rfl, fun j t ht => by
        rw [Tryd.params6] at ht
        have hm : t ∈ [2, 2] := by simpa using Array.mem_of_getElem? ht
        have hall : ([2, 2].all fun u => !Tryd.prog.wantsStandIn u) = true := by kernel_rfl
        exact (show Tryd.prog.wantsStandIn t = false by simpa using List.all_eq_true.1 hall t hm)⟩)
    (by kernel_rfl)
end Go.Proofs.YtdkableaooaebaaDoor
