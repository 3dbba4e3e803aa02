/-
  For every input the statement MicroOne answers true: at most one cell is changed by a step, but for new ones.
  Conditions: none.
-/
import Derived.Test.YtdkableaooaebaaDoorMicOneL
import Derived.Test.YtdkableaooaebaaDoorMicLaid
import Derived.WalkKit
import Derived.ProofKit
import Derived.OpenShut
import Derived.LoopTactic
namespace Go.Proofs.YtdkableaooaebaaDoor
namespace microOne
open Go.ChangeShapes Go.WideShapes Go.ChangeAt Go.RowKit
set_option linter.unusedVariables false

set_option maxHeartbeats 8000000 in
set_option maxRecDepth 100000 in
theorem walk (code : List Ix) (so : Option Addr) (cap : Nat) (zs : List Int) (zo : Option Addr) (zc : Nat) (at' : Int) (rs : List Int) (ro : Option Addr) (rc : Nat) (steps : Int) (w : World)
    (hx : Elems w w.heap.size so 5 Ix.cells code) (hcw : ∀ x ∈ code, x.wide) (hz : Nums w w.heap.size zo zs) (hr : Nums w w.heap.size ro rs) (ws : (Lit.int .i64 steps).wf = true) (hL : Laid w) :
    Calls Tryd.prog 3 #[.slice so code.length cap, .slice zo zs.length zc, .int .i64 at', .slice ro rs.length rc, .int .i64 steps] w fun e w' => e = .returned (.bool true) ∧ Below w.heap.size w w' := by
  have HU := Lib.hid (up_any w hL)
  have bs := bounds_i64 ws
  clear ws
  by_cases hbig : (1024 : Int) < (code.length : Int) ∨ (¬ ((1024 : Int) < (code.length : Int)) ∧ ((100 : Int) < (zs.length : Int))) ∨ (¬ ((1024 : Int) < (code.length : Int)) ∧ ¬ ((100 : Int) < (zs.length : Int)) ∧ (40 : Int) < (rs.length : Int))
  · clear hx hcw hz hr bs
    rcases hbig with h1 | ⟨h1, h2⟩ | ⟨h1, h2, h3⟩
    all_goals
      go_enter Tryd.func3, Tryd.ntmps3
      go_wp2_with fail
      refine (HU.out).mono ?_
      rintro e w1 ⟨rfl, hk1⟩
      have HF := Lib.hid (hk1.below (Nat.le_refl _) (fun _ f => f.elim))
      clear hk1 HU
      go_wp2_with fail
      go_ret
      exact ⟨rfl, HF.out⟩
  have l1 : ¬ ((1024 : Int) < (code.length : Int)) := by omega
  have l2 : ¬ ((100 : Int) < (zs.length : Int)) := by omega
  have l3 : ¬ ((40 : Int) < (rs.length : Int)) := by omega
  clear hbig
  have HX := Lib.hid hx
  have HCW := Lib.hid hcw
  have HL := Lib.hid hL
  have HMA : Hid (∀ w', Kept (fun _ => False) w w' → Calls Tryd.prog 8 #[.slice zo zs.length zc, .int .i64 1] w' (MadeTo w' zs 1)) :=
    Lib.hid (fun w' hk => made_any zs 1 ((hz.keep (fun p hp => hk.cell hp (fun f => f))).more hk.size) (by omega) (by decide) (by decide))
  have HSA : Hid (∀ w', Kept (fun _ => False) w w' → Calls Tryd.prog 9 #[.int .i64 at', .slice ro rs.length rc] w' (StartTo w' (firstF at' rs))) :=
    Lib.hid (fun w' hk => start_any at' rs ((hr.keep (fun p hp => hk.cell hp (fun f => f))).more hk.size))
  clear hx hcw hL hz hr
  have pn := pickF_in steps 30 (by decide)
  have HPN := Lib.hid (fun w' => pick_any steps 30 w' bs.1 bs.2 (by decide) (by decide))
  clear bs
  obtain ⟨n, hn⟩ : ∃ n : Nat, pickF steps 30 = n := ⟨(pickF steps 30).toNat, by omega⟩
  rw [hn] at HPN pn
  clear hn
  have hn0 : n < 30 := by omega
  clear pn
  go_enter Tryd.func3, Tryd.ntmps3
  go_wp2_with fail
  refine (HU.out).mono ?_
  rintro e w1 ⟨rfl, hk1⟩
  have HK1 := Lib.hid hk1
  clear hk1 HU
  go_wp2_with fail
  refine ((HMA.out _ HK1.out)).mono ?_
  rintro e w2 ⟨ab, tb, tg, tc, og, rfl, hs, hk2⟩
  have HS := Lib.hid hs
  have HK2 := Lib.hid hk2
  clear hs hk2 HMA
  go_wp2_with fail
  refine ((HSA.out _ (HK1.out.trans HK2.out (fun _ _ f => f)))).mono ?_
  rintro e w3 ⟨g, c, rfl, hg, hR, hk3⟩
  have HAT : Hid (OneAt w1 ab tb tg tc (.slice (some ⟨g, 0, none⟩) 1 c) w3) := Lib.hid ⟨g, c, 1, og, zs, _, [], firstF at' rs, Pk.zero, rfl, rfl, HS.out.kept0 hk3, HK2.out.trans hk3 (fun _ _ f => f), hR, by decide, by omega, rfl, rfl⟩
  have HLA := Lib.hid (HL.out.on0 HK1.out)
  have HXA : Hid (Elems w1 w1.heap.size so 5 Ix.cells code) := Lib.hid ((HX.out.kept HK1.out (Nat.le_refl _) (fun _ _ f => f)).more HK1.out.size)
  have HCL : Hid (code.length ≤ 1000000000) := Lib.hid (by omega)
  have HFIN : Hid (∀ w', Kept (fun _ => False) w1 w' → Below w.heap.size w w') := Lib.hid (fun w' hk => (HK1.out.trans hk (fun _ _ f => f)).below (Nat.le_refl _) (fun _ f => f.elim))
  clear hk3 hR hg HS HK1 HK2 HX HL HSA l1 l2 l3
  go_wp2_with fail
  go_loopw [14, 15, 16, 17, 18, 19, 20, 21, 22, 23, 24, 25, 26, 27] (fun l k _ _ _ _ _ _ _ _ _ _ _ _ wr => ∃ kk : Nat, k = .int .i64 kk ∧ kk ≤ n ∧ OneAt w1 ab tb tg tc l wr) (fun _ k _ _ _ _ _ _ _ _ _ _ _ _ _ => n - (intOf k).toNat)
  case atStart => exact ⟨0, rfl, by omega, HAT.out⟩
  case round =>
    clear HAT
    obtain ⟨kk, rfl, hkk, hat⟩ := hrel
    have HAT := Lib.hid hat
    clear hat
    go_wp2_with fail
    refine ((HPN.out _)).mono ?_
    rintro e wp ⟨rfl, rfl⟩
    by_cases hlt : kk < n
    · have hlt' : (kk : Int) < (n : Int) := by omega
      obtain ⟨fg, fc, m, og, zs, ps, bs, f, p, rfl, hm, hs, hk, hR, hb, hz, hp, hpb⟩ := HAT.out
      have HST := Lib.hid (fun wb b ogb (hkb : Kept (fun _ => False) wr wb) (hA : Arena wb b ogb 4096 zs) (hbn : wr.heap.size ≤ b) (hgn : ∀ g, ogb = some g → wr.heap.size ≤ g) => one_step (cc := cap) hm hs hk hR hb hz hp hpb HLA.out HXA.out HCL.out HCW.out hkb hA hbn hgn)
      have HCLO := Lib.hid (clone_any wr hs.ar hz)
      have HZ := Lib.hid hz
      clear hm hs hk hR hb hz hp hpb HAT hlt
      go_wp2_with fail
      refine (HCLO.out).mono ?_
      rintro e wb ⟨b, ogb, rfl, hbn, hgn, hA, hkb⟩
      have HST2 := Lib.hid (HST.out wb b ogb hkb hA hbn hgn)
      clear hbn hgn hA hkb HST HCLO
      go_wp2_with fail
      refine (HST2.out).mono ?_
      rintro e w4 ⟨fg', fc', no, nn, nc, how, val, m', og', zs', rfl, hto, hk4, hAb, hAa, hone⟩
      have HTO := Lib.hid hto
      have HK4 := Lib.hid hk4
      have HAB := Lib.hid hAb
      have HAA := Lib.hid hAa
      have HONE := Lib.hid hone
      clear hto hk4 hAb hAa hone HST2
      by_cases h0 : how = 0
      · subst h0
        have HAT4 := Lib.hid (HTO.out rfl)
        clear HTO
        go_wp2_with fail
        go_loopw [22, 23, 24, 25, 26, 27] (fun ch i _ _ _ _ wr => ∃ ii : Nat, i = .int .i64 ii ∧ 1 ≤ ii ∧ ii ≤ zs.length + 1 ∧ ch = .int .i64 (cntD zs zs' (ii - 1) : Nat) ∧ wr = w4) (fun _ i _ _ _ _ _ => zs.length + 1 - (intOf i).toNat)
        case atStart => exact ⟨1, rfl, by omega, by omega, rfl, rfl⟩
        case round =>
          obtain ⟨ii, rfl, hi1, hi2, rfl, rfl⟩ := hrel
          go_wp2_with fail
          refine ((len_any _ HAB.out)).mono ?_
          rintro e wx ⟨rfl, rfl⟩
          have hcnt := cntD_le zs zs' (ii - 1)
          have hz4 := HZ.out
          by_cases hle : ii ≤ zs.length
          · have hlei : (ii : Int) ≤ (zs.length : Int) := by omega
            have HLB := Lib.hid (load_in (ii : Int) _ HAB.out (by omega) (by omega))
            have HLAA := Lib.hid (load_in (ii : Int) _ HAA.out (by omega) (by have := HONE.out.1; omega))
            have hnext : cntD zs zs' (ii + 1 - 1) = cntD zs zs' (ii - 1) + if zs.getD (ii - 1) 0 = zs'.getD (ii - 1) 0 then 0 else 1 := by
              rw [show ii + 1 - 1 = (ii - 1) + 1 by omega]
              rfl
            rw [show ((ii : Int)).toNat - 1 = ii - 1 by omega] at HLB HLAA
            generalize zs.getD (ii - 1) 0 = x at HLB hnext
            generalize zs'.getD (ii - 1) 0 = y at HLAA hnext
            generalize cntD zs zs' (ii - 1) = cn at *
            have HNX := Lib.hid hnext
            clear hnext
            have hwr : IntKind.i64.wrap ((cn : Int) + 1) = (cn : Int) + 1 := IntWalk.i64_in _ (by omega)
            go_wp2_with fail
            refine (HLB.out).mono ?_
            rintro e wx ⟨rfl, rfl⟩
            go_wp2_with fail
            refine (HLAA.out).mono ?_
            rintro e wx ⟨rfl, rfl⟩
            clear HLB HLAA
            by_cases hxy : x = y
            · subst hxy
              rw [if_pos rfl] at HNX
              go_wp2_with fail
              go_roundw
              case rel => exact ⟨ii + 1, by go_num, by omega, by omega, by rw [HNX.out]; rfl, trivial⟩
              case measure => simp [intOf]; omega
            · rw [if_neg hxy] at HNX
              have qxy : (x != y) = true := by rw [bne_iff_ne]; exact hxy
              clear hxy
              go_wp2_with fail
              go_roundw
              case rel => exact ⟨ii + 1, by go_num, by omega, by omega, by rw [HNX.out]; go_num, trivial⟩
              case measure => simp [intOf]; omega
          · obtain rfl : ii = zs.length + 1 := by omega
            have hc1 := cntD_one HONE.out zs.length (Nat.le_refl _)
            rw [Nat.add_sub_cancel] at *
            have hge : ¬ (((zs.length + 1 : Nat) : Int) ≤ (zs.length : Int)) := by omega
            generalize cntD zs zs' zs.length = cn at *
            have hcn : ¬ ((1 : Int) < (cn : Int)) := by omega
            have HAT5 := HAT4.out
            clear hcnt hz4 hc1 HZ
            go_wp2_with fail
            go_roundw
            case rel => first | exact ⟨kk + 1, by go_num, by omega, HAT4.out⟩ | ((repeat apply Exists.intro); exact ⟨⟨kk + 1, by go_num, by omega, HAT4.out⟩, rfl⟩)
            case measure => simp [intOf]; omega
      · have q0 : (how != 0) = true := by rw [bne_iff_ne]; exact h0
        have HF := Lib.hid (HFIN.out _ HK4.out)
        clear HTO HK4 HAB HAA HONE h0
        go_wp2_with fail
        go_ret
        exact ⟨rfl, HF.out⟩
    · have HF : Hid (Below w.heap.size w wr) := Lib.hid (by
        obtain ⟨fg, fc, m, og, zs, ps, bs, f, p, rfl, hm, hs, hk, hR, hb, hz, hp, hpb⟩ := HAT.out
        exact HFIN.out _ hk)
      have hge : (n : Int) ≤ (kk : Int) := by omega
      clear HAT hlt
      go_wp2_with fail
      go_ret
      exact ⟨rfl, HF.out⟩

theorem own : ownKnob Tryd.prog.godebug = none := by kernel_rfl
theorem laidOut : laidOutB Tryd.prog = true := by kernel_rfl

set_option maxRecDepth 100000 in
theorem lifted (os : Os) (started : os.Started) (H : Type) (enc : TypeId × Value → H) :
    ReturnsInHanded {} Tryd.checked os 3 .any (fun w args => (Rows.microOneSpec.pre enc Tryd.prog Tryd.f3 [] false w args ∧ laidMetH Tryd.prog rowLaid w) ∧ sizedMet enc Tryd.prog Tryd.f3 (OpenSpec.ofChange Rows.microOneSpec) false w args) (Rows.microOneSpec.post enc Tryd.prog Tryd.f3 false true false false) := by
  refine handed_laid (C := Tryd.checked) (X := fun w _ => laidMetH Tryd.prog rowLaid w) (fun _ _ _ hh h => h.of_heap hh) own started (by kernel_rfl) Tryd.func3
    (ChangeSpec.witness_shaped (enc := enc) (C := Tryd.checked) (os := os) (X := fun w _ => laidMetH Tryd.prog rowLaid w) false (World.laidAll Tryd.prog os rowLaid) #[.slice none 0 0, .slice none 0 0, .int .i64 0, .slice none 0 0, .int .i64 0] 8 (World.laidAll_os _ _ _)
      (World.shaped_of_ZipB (by kernel_rfl) (by kernel_rfl)) (by kernel_rfl) (by kernel_rfl) (by kernel_rfl)
      (by rw [MakeChecks.laidMetH_plain _ _ _ (by kernel_rfl)]; exact laidMet_laidAll _ (by kernel_rfl) (by kernel_rfl))) ?_
  intro W base args ds gs before hval0 hW hL hsh
  rw [MakeChecks.laidMetH_plain _ _ _ (by kernel_rfl)] at hL
  have hLaid := laid_of hL hsh
  have hval : ∀ (j : Nat) t v, Tryd.f3.params[j]? = some t → args[j]? = some v → Value.okWide Tryd.prog W .any base t v := hval0
  have hW' := hW
  obtain ⟨p, q, hA0, hV, rfl, hfz, hnd⟩ := hW
  have hA : DataW.TrodAll enc Tryd.prog W 0 (fun _ => true) true Tryd.f3.params.toList args.toList ds p := hA0
  rw [Tryd.params3] at hA hval
  obtain ⟨v0, vs0, d0, ds0, p0, q0, hargs, rfl, rfl, h0, r0⟩ := trodAll_cons hA
  obtain ⟨v1, vs1, d1, ds1, p1, q1, rfl, rfl, rfl, h1, r1⟩ := trodAll_cons r0
  obtain ⟨v2, vs2, d2, ds2, p2, q2, rfl, rfl, rfl, h2, r2⟩ := trodAll_cons r1
  obtain ⟨v3, vs3, d3, ds3, p3, q3, rfl, rfl, rfl, h3, r3⟩ := trodAll_cons r2
  obtain ⟨v4, vs4, d4, ds4, p4, q4, rfl, rfl, rfl, h4, r4⟩ := trodAll_cons r3
  obtain ⟨rfl, rfl, rfl⟩ := trodAll_nil r4
  obtain rfl : args = #[v0, v1, v2, v3, v4] := by cases args; simp_all
  obtain ⟨rfl, rfl⟩ := trodVars_none hV
  have k0 := h0
  have lt0 : ∀ x ∈ p0, x.block < W.heap.size := by obtain ⟨m, hm⟩ := k0; exact DataW.trod_lt m _ _ _ hm
  obtain ⟨s0, len0, cap0, rfl⟩ := okWide_slice Tryd.underlying22 (hval 0 22 v0 rfl rfl)
  obtain ⟨xs0, rfl, hx0, hw0⟩ := code_of k0
  have k1 := h1
  have lt1 : ∀ x ∈ p1, x.block < W.heap.size := by obtain ⟨m, hm⟩ := k1; exact DataW.trod_lt m _ _ _ hm
  obtain ⟨s1, len1, cap1, rfl⟩ := okWide_slice Tryd.underlying23 (hval 1 23 v1 rfl rfl)
  obtain ⟨xs1, rfl, hx1, _⟩ := nums_of k1
  obtain ⟨a2, rfl, rfl, rfl, w2⟩ := open_int Tryd.underlying3 (hval 2 3 v2 rfl rfl) h2
  have k3 := h3
  have lt3 : ∀ x ∈ p3, x.block < W.heap.size := by obtain ⟨m, hm⟩ := k3; exact DataW.trod_lt m _ _ _ hm
  obtain ⟨s3, len3, cap3, rfl⟩ := okWide_slice Tryd.underlying23 (hval 3 23 v3 rfl rfl)
  obtain ⟨xs3, rfl, hx3, _⟩ := nums_of k3
  obtain ⟨a4, rfl, rfl, rfl, w4⟩ := open_int Tryd.underlying3 (hval 4 3 v4 rfl rfl) h4
  clear hA0 hval0
  refine (walk xs0 s0 cap0 xs1 s1 cap1 a2 xs3 s3 cap3 a4 W hx0 hw0 hx1 hx3 w4 hLaid).mono fun e W' ⟨he, bel⟩ => ?_
  subst he
  exact ⟨_, rfl, _, _, _, [], _, [], hW', trodAll_mk1 (shut_bool Tryd.underlying4 _), (trodAll_cons_mk (Below.trod laidOut (by kernel_rfl) (of_decide_eq_true (by kernel_rfl)) k0 bel lt0) (trodAll_cons_mk (Below.trod laidOut (by kernel_rfl) (of_decide_eq_true (by kernel_rfl)) k1 bel lt1) (trodAll_cons_mk (shut_int Tryd.underlying3 w2) (trodAll_cons_mk (Below.trod laidOut (by kernel_rfl) (of_decide_eq_true (by kernel_rfl)) k3 bel lt3) (trodAll_cons_mk (shut_int Tryd.underlying3 w4) trodAll_mk0))))), rfl, bel.frame _, fun h => by cases h⟩

theorem over : Rows.microOneRow.holds Tryd.pinned (OpenSpec.ofChange Rows.microOneSpec) :=
  OpenClaim.holds_of_wide 3 Tryd.f3 rfl rfl rfl rfl rfl rfl rfl ⟨rfl, rfl, rfl, rfl, rfl⟩ rfl rfl rfl rfl rfl (by kernel_rfl) Tryd.func3 (by kernel_rfl)
    (of_decide_eq_true (by kernel_rfl)) (by unfold Func.isWrapper; first | (rw [if_pos (by decide +kernel)]; kernel_rfl) | (rw [if_neg (by decide +kernel)]; exact ⟨rfl, rfl⟩))
    (fun os started H enc _ => lifted os started H enc)

end microOne
/-- The row's statement. -/
theorem microOne_row : Rows.MicroOneSaid := microOne.over
/-- The statement: the card. -/
theorem microOne_holds : Rows.MicroOneCardSaid :=
  Claim7.holds_tied_plain_at .later [] Rows.microOneCard.laidKinds true Rows.microOneCard.stood.harness Rows.microOneCard.stood.looks
    microOne_row (fun _ h => by cases h) (by kernel_rfl) (fun _ h => by cases h) microOne_row_tie rfl ⟨rfl, rfl⟩ (by kernel_rfl) rfl
    (fun f fn hf hfn => by
      obtain rfl : f = 3 := Option.some.inj ((show Tryd.prog.funcNamed "thole/tholelaw09.MicroOne" = some 3 by kernel_rfl).symm.trans hf) |>.symm
      obtain rfl : fn = Tryd.f3 := (Option.some.inj (Tryd.func3.symm.trans hfn)).symm
      exact ⟨by kernel_rfl, fun j t ht => by
        rw [Tryd.params3] at ht
        have hm : t ∈ [22, 23, 3, 23, 3] := by simpa using Array.mem_of_getElem? ht
        have hall : ([22, 23, 3, 23, 3].all fun u => !Tryd.prog.wantsStandIn u) = true := by kernel_rfl
        exact (show Tryd.prog.wantsStandIn t = false by simpa using List.all_eq_true.1 hall t hm)⟩)
    (by kernel_rfl)
end Go.Proofs.YtdkableaooaebaaDoor
