/-
  For every input the statement InsBlanks answers true: spaces and tabs around a line change nothing of it.
  Conditions: none.
-/
import Derived.Test.YtibgkhfadlgonaaDoorInsUp
import Derived.Test.YtibgkhfadlgonaaDoorInsLaid
import Derived.Laws.Concat
import Derived.Deep.QuietTactic
import Derived.BigQuiet
import Derived.WalkKit
import Derived.ProofKit
import Derived.OpenShut
namespace Go.Proofs.YtibgkhfadlgonaaDoor
namespace insBlanks
open Go.ChangeShapes Go.WideShapes Go.ChangeAt Go.RowKit
set_option linter.unusedVariables false

set_option maxHeartbeats 4000000 in
set_option maxRecDepth 100000 in
theorem walk (s : ByteArray) (p q : Int) (hs : s.size ≤ maxLen) (hp : (Lit.int .i64 p).wf = true) (hq : (Lit.int .i64 q).wf = true) (w : World) (hL : Laid w) :
    Calls Tryd.prog 4 #[.string s, .int .i64 p, .int .i64 q] w fun e w' => e = .returned (.bool true) ∧ Below w.heap.size w w' := by
  have HL := Lib.hid hL
  have HU := Lib.hid (up_any w hL)
  have HFIN := Lib.hid (fun w' (hk : Kept (fun _ => False) w w') => hk.below (Nat.le_refl _) (fun _ f => f.elim))
  have g1 := guard_line
  clear hL hp hq
  by_cases hgo : s.size ≤ 1000 ∧ 0 ≤ p ∧ 0 ≤ q ∧ p ≤ 20 ∧ q ≤ 20
  case neg =>
    by_cases b1 : s.size ≤ 1000
    · have c1 : ¬ (1000 : Int) < (s.size : Int) := by omega
      by_cases b2 : 0 ≤ p
      · have c2 : ¬ p < 0 := by omega
        by_cases b3 : 0 ≤ q
        · have c3 : ¬ q < 0 := by omega
          by_cases b4 : p ≤ 20
          · have c4 : ¬ 20 < p := by omega
            have c5 : 20 < q := by omega
            clear hgo b1 b2 b3 b4
            go_enter Tryd.func4, Tryd.ntmps4
            go_wp2_with fail
            refine (HU.out).mono ?_
            rintro e w1 ⟨rfl, hk1⟩
            have HF := Lib.hid (HFIN.out _ hk1)
            clear hk1
            go_wp2_with fail
            go_ret
            exact ⟨rfl, HF.out⟩
          · have c4 : 20 < p := by omega
            clear hgo b1 b2 b3 b4
            go_enter Tryd.func4, Tryd.ntmps4
            go_wp2_with fail
            refine (HU.out).mono ?_
            rintro e w1 ⟨rfl, hk1⟩
            have HF := Lib.hid (HFIN.out _ hk1)
            clear hk1
            go_wp2_with fail
            go_ret
            exact ⟨rfl, HF.out⟩
        · have c3 : q < 0 := by omega
          clear hgo b1 b2 b3
          go_enter Tryd.func4, Tryd.ntmps4
          go_wp2_with fail
          refine (HU.out).mono ?_
          rintro e w1 ⟨rfl, hk1⟩
          have HF := Lib.hid (HFIN.out _ hk1)
          clear hk1
          go_wp2_with fail
          go_ret
          exact ⟨rfl, HF.out⟩
      · have c2 : p < 0 := by omega
        clear hgo b1 b2
        go_enter Tryd.func4, Tryd.ntmps4
        go_wp2_with fail
        refine (HU.out).mono ?_
        rintro e w1 ⟨rfl, hk1⟩
        have HF := Lib.hid (HFIN.out _ hk1)
        clear hk1
        go_wp2_with fail
        go_ret
        exact ⟨rfl, HF.out⟩
    · have c1 : (1000 : Int) < (s.size : Int) := by omega
      clear hgo b1
      go_enter Tryd.func4, Tryd.ntmps4
      go_wp2_with fail
      refine (HU.out).mono ?_
      rintro e w1 ⟨rfl, hk1⟩
      have HF := Lib.hid (HFIN.out _ hk1)
      clear hk1
      go_wp2_with fail
      go_ret
      exact ⟨rfl, HF.out⟩
  obtain ⟨b1, b2, b3, b4, b5⟩ := hgo
  obtain ⟨m, rfl⟩ : ∃ m : Nat, p = m := ⟨p.toNat, by omega⟩
  obtain ⟨n, rfl⟩ : ∃ n : Nat, q = n := ⟨q.toNat, by omega⟩
  have c1 : ¬ (1000 : Int) < (s.size : Int) := by omega
  have c2 : ¬ (m : Int) < 0 := by omega
  have c3 : ¬ (n : Int) < 0 := by omega
  have c4 : ¬ 20 < (m : Int) := by omega
  have c5 : ¬ 20 < (n : Int) := by omega
  have hm : m ≤ 20 := by omega
  have hn : n ≤ 20 := by omega
  clear b2 b3 b4 b5
  go_enter Tryd.func4, Tryd.ntmps4
  go_wp2_with fail
  refine (HU.out).mono ?_
  rintro e w1 ⟨rfl, hk1⟩
  have HP := Lib.hid (parse_any s w1 (HL.out.on0 hk1) (by omega))
  have HK1 := Lib.hid hk1
  clear hk1
  go_wp2_with fail
  refine HP.out.mono ?_
  rintro e w2 ⟨hcase, hk2⟩
  obtain ⟨x, er, he, hc⟩ : ∃ x er, e = .returned (.tuple #[lnV x, er]) ∧ ((parseL (bytesS s) = some x ∧ er = .nilIface) ∨ (parseL (bytesS s) = none ∧ x = zeroLn ∧ er = .iface 33 (.int .i64 2))) := by
    rcases hcase with ⟨x, h1, h2⟩ | ⟨h1, h2⟩
    · exact ⟨x, _, h2, .inl ⟨h1, rfl⟩⟩
    · exact ⟨zeroLn, _, h2, .inr ⟨h1, rfl, rfl⟩⟩
  subst he
  have HC := Lib.hid hc
  have HX2 := Lib.hid (heap_new1 w2 (.cells (lnCells x) 26))
  have HK2 := Lib.hid ((HK1.out.trans hk2 (fun _ _ f => f)).alloc (.cells (lnCells x) 26))
  obtain ⟨W2, hW2⟩ : ∃ W2, w2.alloc (.cells (lnCells x) 26) = W2 := ⟨_, rfl⟩
  rw [hW2] at HX2 HK2
  clear hcase hc hk2 HP
  go_wp2_with fail
  clear c1 c2 c3 c4 c5 hW2
  have HMS := Lib.hid b1
  have hq := eql_codes
  clear b1
  go_loop [10, 11] (fun v i => ∃ (k : Nat) (t : ByteArray), i = .int .i64 k ∧ v = .string t ∧ k ≤ m ∧ t.size = s.size + k ∧ ∃ a : Str, bytesS t = a ++ bytesS s ∧ a.all isBlank = true) (fun _ i => m - (intOf i).toNat)
  case atStart => exact ⟨0, s, rfl, rfl, by omega, rfl, [], rfl, rfl⟩
  case round =>
    obtain ⟨k, t, rfl, rfl, hk, hts, a, hta, hab⟩ := hrel
    have HTA := Lib.hid hta
    have HAB := Lib.hid hab
    have HTS := Lib.hid hts
    clear hta hab hts
    by_cases hkm : k < m
    · have hkm' : (k : Int) < (m : Int) := by omega
      obtain ⟨t2, ht2⟩ : ∃ t2, strS (32 :: bytesS t) = t2 := ⟨_, rfl⟩
      have hb2 : bytesS t2 = 32 :: bytesS t := by rw [← ht2]; rfl
      have hs2 : t2.size = s.size + (k + 1) := by have := HTS.out; rw [← bytesS_len, hb2, List.length_cons, bytesS_len]; omega
      have hadd : ∀ (w' : World), (Op.stringOp .add ({ data := #[32] } : ByteArray) t).run Tryd.prog w' = .ok (.string t2) w' := fun w' => by
        have := run_string_add_sum (P := Tryd.prog) w' (strS [32]) t (by rw [strS_size]; have := HTS.out; have := HMS.out; simp; omega)
        have e : strS [32] ++ t = t2 := bytesS_inj (by rw [bytesS_add, hb2]; rfl)
        rw [e] at this
        exact this
      have HF : Hid (∃ a : Str, bytesS t2 = a ++ bytesS s ∧ a.all isBlank = true) := Lib.hid ⟨32 :: a, by rw [hb2, HTA.out]; rfl, by rw [List.all_cons, HAB.out]; rfl⟩
      have HS2 := Lib.hid hs2
      clear hb2 hs2 ht2
      go_wp2_with fail
      go_round
      case rel => exact ⟨k + 1, t2, by go_num, rfl, by omega, HS2.out, HF.out⟩
      case measure => simp [intOf]; omega
    · obtain rfl : k = m := by omega
      have hkm' : ¬ (k : Int) < (k : Int) := by omega
      go_wp2_with fail
      clear hkm hkm'
      go_loop [10, 12] (fun v i => ∃ (j : Nat) (t : ByteArray), i = .int .i64 j ∧ v = .string t ∧ j ≤ n ∧ t.size = s.size + k + j ∧ ∃ a b : Str, bytesS t = a ++ bytesS s ++ b ∧ a.all isBlank = true ∧ b.all isBlank = true) (fun _ i => n - (intOf i).toNat)
      case atStart => exact ⟨0, t, rfl, rfl, by omega, HTS.out, a, [], by rw [HTA.out]; simp, HAB.out, rfl⟩
      case round =>
        obtain ⟨j, t, rfl, rfl, hj, hts, a, b, hta, hab, hbb⟩ := hrel
        clear HTA HAB HTS
        have HTA := Lib.hid hta
        have HAB := Lib.hid hab
        have HBB := Lib.hid hbb
        have HTS := Lib.hid hts
        clear hta hab hbb hts
        by_cases hjn : j < n
        · have hjn' : (j : Int) < (n : Int) := by omega
          obtain ⟨t2, ht2⟩ : ∃ t2, strS (bytesS t ++ [9]) = t2 := ⟨_, rfl⟩
          have hb2 : bytesS t2 = bytesS t ++ [9] := by rw [← ht2]; rfl
          have hs2 : t2.size = s.size + k + (j + 1) := by have := HTS.out; rw [← bytesS_len, hb2, List.length_append, bytesS_len]; simp; omega
          have hadd : ∀ (w' : World), (Op.stringOp .add t ({ data := #[9] } : ByteArray)).run Tryd.prog w' = .ok (.string t2) w' := fun w' => by
            have := run_string_add_sum (P := Tryd.prog) w' t (strS [9]) (by rw [strS_size]; have := HTS.out; have := HMS.out; simp; omega)
            have e : t ++ strS [9] = t2 := bytesS_inj (by rw [bytesS_add, hb2]; rfl)
            rw [e] at this
            exact this
          have HF : Hid (∃ a b : Str, bytesS t2 = a ++ bytesS s ++ b ∧ a.all isBlank = true ∧ b.all isBlank = true) := Lib.hid ⟨a, b ++ [9], by rw [hb2, HTA.out]; simp, HAB.out, by rw [List.all_append, HBB.out]; rfl⟩
          have HS2 := Lib.hid hs2
          clear hb2 hs2 ht2
          go_wp2_with fail
          go_round
          case rel => exact ⟨j + 1, t2, by go_num, rfl, by omega, HS2.out, HF.out⟩
          case measure => simp [intOf]; omega
        · obtain rfl : j = n := by omega
          have hjn' : ¬ (j : Int) < (j : Int) := by omega
          have HP := Lib.hid (parse_any t W2 (HL.out.on0 HK2.out) (by have := HTS.out; have := HMS.out; omega))
          have hpp : parseL (bytesS t) = parseL (bytesS s) := by rw [HTA.out]; exact parseL_around _ HAB.out HBB.out
          rw [hpp] at HP
          clear hpp hjn
          go_wp2_with fail
          refine HP.out.mono ?_
          rintro e w4 ⟨hcase, hk4⟩
          have he2 : e = .returned (.tuple #[lnV x, er]) := by
            rcases HC.out with ⟨h1, h2⟩ | ⟨h1, h2, h3⟩
            · rcases hcase with ⟨y, h4, h5⟩ | ⟨h4, h5⟩
              · rw [h1] at h4
                simp only [Option.some.injEq] at h4
                subst h4; rw [h5, h2]
              · rw [h1] at h4; cases h4
            · rcases hcase with ⟨y, h4, h5⟩ | ⟨h4, h5⟩
              · rw [h1] at h4; cases h4
              · rw [h5, h2, h3]
          subst he2
          have HX4 := Lib.hid (fun o => (cells7 (((Kept.refl (fun _ => False) w4).alloc o).at0 (hk4.at0 HX2.out))).1)
          have HF := Lib.hid (fun n => HFIN.out _ (((HK2.out.trans hk4 (fun _ _ f => f)).alloc (.cells (lnCells x) 26)).drewN n))
          have hlt : w2.heap.size < w4.heap.size := (Array.getElem?_eq_some_iff.1 (hk4.at0 HX2.out)).1
          have c0 := fun o => (HX4.out o).1
          have c1 := fun o => (HX4.out o).2.1
          have c2 := fun o => (HX4.out o).2.2.1
          have c3 := fun o => (HX4.out o).2.2.2.1
          have c4 := fun o => (HX4.out o).2.2.2.2.1
          have c5 := fun o => (HX4.out o).2.2.2.2.2.1
          have c6 := fun o => (HX4.out o).2.2.2.2.2.2
          have he : ∀ w, (Op.equalIn 10000 26 (.agg #[.string (strS x.label), .int .i64 x.op, .int .i64 x.a, .int .i64 x.b, .int .i64 x.c, .int .i64 x.n, .string (strS x.target)]) (.agg #[.string (strS x.label), .int .i64 x.op, .int .i64 x.a, .int .i64 x.b, .int .i64 x.c, .int .i64 x.n, .string (strS x.target)])).run Tryd.prog w = .ok true w := fun w => by
            have := eq_line x x w
            rw [decide_eq_true rfl] at this
            exact this
          rcases HC.out with ⟨h1, h2⟩ | ⟨h1, h2, h3⟩
          · subst h2
            clear hcase hk4 HP HC h1
            go_wp2_with fail
            go_quiet (fail)
            go_wp2_with fail
            go_ret
            exact ⟨rfl, HF.out _⟩
          · subst h3
            clear hcase hk4 HP HC h1 h2
            go_wp2_with fail
            go_quiet (fail)
            go_wp2_with fail
            go_ret
            exact ⟨rfl, HF.out _⟩

theorem own : ownKnob Tryd.prog.godebug = none := by kernel_rfl

set_option maxRecDepth 100000 in
theorem lifted (os : Os) (started : os.Started) (H : Type) (enc : TypeId × Value → H) :
    ReturnsInHanded {} Tryd.checked os 4 .any (fun w args => (Rows.insBlanksSpec.pre enc Tryd.prog Tryd.f4 [] false w args ∧ laidMetH Tryd.prog rowLaid w) ∧ sizedMet enc Tryd.prog Tryd.f4 (OpenSpec.ofChange Rows.insBlanksSpec) false w args) (Rows.insBlanksSpec.post enc Tryd.prog Tryd.f4 false true false false) := by
  refine handed_laid (C := Tryd.checked) (X := fun w _ => laidMetH Tryd.prog rowLaid w) (fun _ _ _ hh h => h.of_heap hh) own started (by kernel_rfl) Tryd.func4
    (ChangeSpec.witness_shaped (enc := enc) (C := Tryd.checked) (os := os) (X := fun w _ => laidMetH Tryd.prog rowLaid w) false (World.laidAll Tryd.prog os rowLaid) #[.string ByteArray.empty, .int .i64 0, .int .i64 0] 8 (World.laidAll_os _ _ _)
      (World.shaped_of_ZipB (by kernel_rfl) (by kernel_rfl)) (by kernel_rfl) (by kernel_rfl) (by kernel_rfl)
      (by rw [MakeChecks.laidMetH_plain _ _ _ (by kernel_rfl)]; exact laidMet_laidAll _ (by kernel_rfl) (by kernel_rfl))) ?_
  intro W base args ds gs before hval0 hW hL hsh
  rw [MakeChecks.laidMetH_plain _ _ _ (by kernel_rfl)] at hL
  have hLaid := laid_of hL hsh
  have hval : ∀ (j : Nat) t v, Tryd.f4.params[j]? = some t → args[j]? = some v → Value.okWide Tryd.prog W .any base t v := hval0
  have hW' := hW
  obtain ⟨p, q, hA0, hV, rfl, hfz, hnd⟩ := hW
  have hA : DataW.TrodAll enc Tryd.prog W 0 (fun _ => true) true Tryd.f4.params.toList args.toList ds p := hA0
  rw [Tryd.params4] at hA hval
  obtain ⟨v0, vs0, d0, ds0, p0, q0, hargs, rfl, rfl, h0, r0⟩ := trodAll_cons hA
  obtain ⟨v1, vs1, d1, ds1, p1, q1, rfl, rfl, rfl, h1, r1⟩ := trodAll_cons r0
  obtain ⟨v2, vs2, d2, ds2, p2, q2, rfl, rfl, rfl, h2, r2⟩ := trodAll_cons r1
  obtain ⟨rfl, rfl, rfl⟩ := trodAll_nil r2
  obtain rfl : args = #[v0, v1, v2] := by cases args; simp_all
  obtain ⟨rfl, rfl⟩ := trodVars_none hV
  obtain ⟨a0, rfl, rfl, rfl, w0⟩ := Go.ChangeMaps.open_string Tryd.underlying9 (hval 0 9 v0 rfl rfl) h0
  obtain ⟨a1, rfl, rfl, rfl, w1⟩ := open_int Tryd.underlying3 (hval 1 3 v1 rfl rfl) h1
  obtain ⟨a2, rfl, rfl, rfl, w2⟩ := open_int Tryd.underlying3 (hval 2 3 v2 rfl rfl) h2
  clear hA0 hval0
  refine (walk a0 a1 a2 w0 w1 w2 W hLaid).mono fun e W' ⟨he, bel⟩ => ?_
  subst he
  exact ⟨_, rfl, _, _, _, [], [], [], hW', trodAll_mk1 (shut_bool Tryd.underlying4 _), (trodAll_cons_mk (Go.ChangeMaps.shut_string Tryd.underlying9 w0) (trodAll_cons_mk (shut_int Tryd.underlying3 w1) (trodAll_cons_mk (shut_int Tryd.underlying3 w2) trodAll_mk0))), rfl, bel.frame _, fun h => by cases h⟩

theorem over : Rows.insBlanksRow.holds Tryd.pinned (OpenSpec.ofChange Rows.insBlanksSpec) :=
  OpenClaim.holds_of_wide 4 Tryd.f4 rfl rfl rfl rfl rfl rfl rfl ⟨rfl, rfl, rfl, rfl, rfl⟩ rfl rfl rfl rfl rfl (by kernel_rfl) Tryd.func4 (by kernel_rfl)
    (of_decide_eq_true (by kernel_rfl)) (by unfold Func.isWrapper; first | (rw [if_pos (by decide +kernel)]; kernel_rfl) | (rw [if_neg (by decide +kernel)]; exact ⟨rfl, rfl⟩))
    (fun os started H enc _ => lifted os started H enc)

end insBlanks
/-- The row's statement. -/
theorem insBlanks_row : Rows.InsBlanksSaid := insBlanks.over
/-- The statement: the card. -/
theorem insBlanks_holds : Rows.InsBlanksCardSaid :=
  Claim7.holds_tied_plain_at .later [] Rows.insBlanksCard.laidKinds true Rows.insBlanksCard.stood.harness Rows.insBlanksCard.stood.looks
    insBlanks_row (fun _ h => by cases h) (by kernel_rfl) (fun _ h => by cases h) insBlanks_row_tie rfl ⟨rfl, rfl⟩ (by kernel_rfl) rfl
    (fun f fn hf hfn => by
      obtain rfl : f = 4 := Option.some.inj ((show Tryd.prog.funcNamed "thole/tholelaw07.InsBlanks" = some 4 by kernel_rfl).symm.trans hf) |>.symm
      obtain rfl : fn = Tryd.f4 := (Option.some.inj (Tryd.func4.symm.trans hfn)).symm
      exact ⟨by kernel_rfl, fun j t ht => by
        rw [Tryd.params4] at ht
        have hm : t ∈ [9, 3, 3] := by simpa using Array.mem_of_getElem? ht
        have hall : ([9, 3, 3].all fun u => !Tryd.prog.wantsStandIn u) = true := by kernel_rfl
        exact (show Tryd.prog.wantsStandIn t = false by simpa using List.all_eq_true.1 hall t hm)⟩)
    (by kernel_rfl)
end Go.Proofs.YtibgkhfadlgonaaDoor
