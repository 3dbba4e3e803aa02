/-
  For every input the statement InsParses answers true: any line is parsed as the document says, or told to be none.
  Conditions: none.
-/
import Derived.Test.YtibgkhfadlgonaaDoorInsUp
import Derived.Test.YtibgkhfadlgonaaDoorRefParse
import Derived.Test.YtibgkhfadlgonaaDoorInsLaid
import Derived.WalkKit
import Derived.ProofKit
import Derived.OpenShut
namespace Go.Proofs.YtibgkhfadlgonaaDoor
namespace insParses
open Go.ChangeShapes Go.WideShapes Go.ChangeAt Go.RowKit
set_option linter.unusedVariables false

set_option maxHeartbeats 4000000 in
set_option maxRecDepth 100000 in
theorem walk (s : ByteArray) (hs : s.size ≤ maxLen) (w : World) (hL : Laid w) :
    Calls Tryd.prog 3 #[.string s] w fun e w' => e = .returned (.bool true) ∧ Below w.heap.size w w' := by
  have HL := Lib.hid hL
  have HU := Lib.hid (up_any w hL)
  have hq := eql_codes
  have g1 := guard_line
  have HFIN := Lib.hid (fun w' (hk : Kept (fun _ => False) w w') => hk.below (Nat.le_refl _) (fun _ f => f.elim))
  clear hL
  by_cases h1000 : 1000 < s.size
  · have h1 : (1000 : Int) < (s.size : Int) := by omega
    clear h1000
    go_enter Tryd.func3, Tryd.ntmps3
    go_wp2_with fail
    refine (HU.out).mono ?_
    rintro e w1 ⟨rfl, hk1⟩
    have HF := Lib.hid (HFIN.out _ hk1)
    clear hk1
    go_wp2_with fail
    go_ret
    exact ⟨rfl, HF.out⟩
  have h1 : ¬ (1000 : Int) < (s.size : Int) := by omega
  have hsz : s.size ≤ 100000 := by omega
  clear h1000
  go_enter Tryd.func3, Tryd.ntmps3
  go_wp2_with fail
  refine (HU.out).mono ?_
  rintro e w1 ⟨rfl, hk1⟩
  have HP := Lib.hid (parse_any s w1 (HL.out.on0 hk1) hsz)
  have HK1 := Lib.hid hk1
  clear hk1
  go_wp2_with fail
  refine HP.out.mono ?_
  rintro e w2 ⟨hcase, hk2⟩
  obtain ⟨x, er, he, hc⟩ : ∃ x er, e = .returned (.tuple #[lnV x, er]) ∧ ((parseL (bytesS s) = some x ∧ er = .nilIface) ∨ (parseL (bytesS s) = none ∧ x = zeroLn ∧ er = .iface 33 (.int .i64 2))) := by
    rcases hcase with ⟨x, h1, h2⟩ | ⟨h1, h2⟩
    · exact ⟨x, _, h2, .inl ⟨h1, rfl⟩⟩
    · exact ⟨zeroLn, _, h2, .inr ⟨h1, rfl, rfl⟩⟩
  subst he
  have HC := Lib.hid hc
  have HR := Lib.hid (refParse_any s (w2.alloc (.cells (lnCells x) 26)) hsz)
  have HX2 := Lib.hid (heap_new1 w2 (.cells (lnCells x) 26))
  have HK2 := Lib.hid ((HK1.out.trans hk2 (fun _ _ f => f)).alloc (.cells (lnCells x) 26))
  clear hcase hc hk2 HP
  go_wp2_with fail
  refine HR.out.mono ?_
  rintro e w3 ⟨y, ok, rfl, hy, hz, hk3⟩
  have HX3 := Lib.hid (fun o => (cells7 (((Kept.refl (fun _ => False) w3).alloc o).at0 (hk3.at0 HX2.out))).1)
  have HF := Lib.hid (HFIN.out _ ((HK2.out.trans hk3 (fun _ _ f => f)).alloc (.cells (lnCells y) 26)))
  have hlt : w2.heap.size < w3.heap.size := (Array.getElem?_eq_some_iff.1 (hk3.at0 HX2.out)).1
  have c0 := fun o => (HX3.out o).1
  have c1 := fun o => (HX3.out o).2.1
  have c2 := fun o => (HX3.out o).2.2.1
  have c3 := fun o => (HX3.out o).2.2.2.1
  have c4 := fun o => (HX3.out o).2.2.2.2.1
  have c5 := fun o => (HX3.out o).2.2.2.2.2.1
  have c6 := fun o => (HX3.out o).2.2.2.2.2.2
  have HEQ := Lib.hid (eq_line x y)
  clear hk3
  cases ok
  · rcases HC.out with ⟨h1, h2⟩ | ⟨h1, h2, h3⟩
    · rw [h1] at hy; cases hy
    · subst h2 h3
      have he : ∀ w, (Op.equalIn 10000 26 (.agg #[.string (strS zeroLn.label), .int .i64 zeroLn.op, .int .i64 zeroLn.a, .int .i64 zeroLn.b, .int .i64 zeroLn.c, .int .i64 zeroLn.n, .string (strS zeroLn.target)]) (.agg #[.string { data := #[] }, .int .i64 0, .int .i64 0, .int .i64 0, .int .i64 0, .int .i64 0, .string { data := #[] }])).run Tryd.prog w = .ok true w := fun w => by
        have := eq_line zeroLn zeroLn w
        rw [decide_eq_true rfl] at this
        exact this
      clear hy hz HC
      go_wp2_with fail
      go_ret
      exact ⟨rfl, HF.out⟩
  · rcases HC.out with ⟨h1, h2⟩ | ⟨h1, h2, h3⟩
    · subst h2
      have hxy : x = y := by rw [h1] at hy; simpa using hy
      subst hxy
      have he : ∀ w, (Op.equalIn 10000 26 (.agg #[.string (strS x.label), .int .i64 x.op, .int .i64 x.a, .int .i64 x.b, .int .i64 x.c, .int .i64 x.n, .string (strS x.target)]) (.agg #[.string (strS x.label), .int .i64 x.op, .int .i64 x.a, .int .i64 x.b, .int .i64 x.c, .int .i64 x.n, .string (strS x.target)])).run Tryd.prog w = .ok true w := fun w => by
        have := eq_line x x w
        rw [decide_eq_true rfl] at this
        exact this
      clear hy hz HC
      go_wp2_with fail
      go_ret
      exact ⟨rfl, HF.out⟩
    · rw [h1] at hy; cases hy

theorem own : ownKnob Tryd.prog.godebug = none := by kernel_rfl

set_option maxRecDepth 100000 in
theorem lifted (os : Os) (started : os.Started) (H : Type) (enc : TypeId × Value → H) :
    ReturnsInHanded {} Tryd.checked os 3 .any (fun w args => (Rows.insParsesSpec.pre enc Tryd.prog Tryd.f3 [] false w args ∧ laidMetH Tryd.prog rowLaid w) ∧ sizedMet enc Tryd.prog Tryd.f3 (OpenSpec.ofChange Rows.insParsesSpec) false w args) (Rows.insParsesSpec.post enc Tryd.prog Tryd.f3 false true false false) := by
  refine handed_laid (C := Tryd.checked) (X := fun w _ => laidMetH Tryd.prog rowLaid w) (fun _ _ _ hh h => h.of_heap hh) own started (by kernel_rfl) Tryd.func3
    (ChangeSpec.witness_shaped (enc := enc) (C := Tryd.checked) (os := os) (X := fun w _ => laidMetH Tryd.prog rowLaid w) false (World.laidAll Tryd.prog os rowLaid) #[.string ByteArray.empty] 8 (World.laidAll_os _ _ _)
      (World.shaped_of_ZipB (by kernel_rfl) (by kernel_rfl)) (by kernel_rfl) (by kernel_rfl) (by kernel_rfl)
      (by rw [MakeChecks.laidMetH_plain _ _ _ (by kernel_rfl)]; exact laidMet_laidAll _ (by kernel_rfl) (by kernel_rfl))) ?_
  intro W base args ds gs before hval0 hW hL hsh
  rw [MakeChecks.laidMetH_plain _ _ _ (by kernel_rfl)] at hL
  have hLaid := laid_of hL hsh
  have hval : ∀ (j : Nat) t v, Tryd.f3.params[j]? = some t → args[j]? = some v → Value.okWide Tryd.prog W .any base t v := hval0
  have hW' := hW
  obtain ⟨p, q, hA0, hV, rfl, hfz, hnd⟩ := hW
  have hA : DataW.TrodAll enc Tryd.prog W 0 (fun _ => true) true Tryd.f3.params.toList args.toList ds p := hA0
  rw [Tryd.params3] at hA hval
  obtain ⟨v0, vs0, d0, ds0, p0, q0, hargs, rfl, rfl, h0, r0⟩ := trodAll_cons hA
  obtain ⟨rfl, rfl, rfl⟩ := trodAll_nil r0
  obtain rfl : args = #[v0] := by cases args; simp_all
  obtain ⟨rfl, rfl⟩ := trodVars_none hV
  obtain ⟨a0, rfl, rfl, rfl, w0⟩ := Go.ChangeMaps.open_string Tryd.underlying9 (hval 0 9 v0 rfl rfl) h0
  clear hA0 hval0
  refine (walk a0 w0 W hLaid).mono fun e W' ⟨he, bel⟩ => ?_
  subst he
  exact ⟨_, rfl, _, _, _, [], [], [], hW', trodAll_mk1 (shut_bool Tryd.underlying4 _), (trodAll_cons_mk (Go.ChangeMaps.shut_string Tryd.underlying9 w0) trodAll_mk0), rfl, bel.frame _, fun h => by cases h⟩

theorem over : Rows.insParsesRow.holds Tryd.pinned (OpenSpec.ofChange Rows.insParsesSpec) :=
  OpenClaim.holds_of_wide 3 Tryd.f3 rfl rfl rfl rfl rfl rfl rfl ⟨rfl, rfl, rfl, rfl, rfl⟩ rfl rfl rfl rfl rfl (by kernel_rfl) Tryd.func3 (by kernel_rfl)
    (of_decide_eq_true (by kernel_rfl)) (by unfold Func.isWrapper; first | (rw [if_pos (by decide +kernel)]; kernel_rfl) | (rw [if_neg (by decide +kernel)]; exact ⟨rfl, rfl⟩))
    (fun os started H enc _ => lifted os started H enc)

end insParses
/-- The row's statement. -/
theorem insParses_row : Rows.InsParsesSaid := insParses.over
/-- The statement: the card. -/
theorem insParses_holds : Rows.InsParsesCardSaid :=
  Claim7.holds_tied_plain_at .later [] Rows.insParsesCard.laidKinds true Rows.insParsesCard.stood.harness Rows.insParsesCard.stood.looks
    insParses_row (fun _ h => by cases h) (by kernel_rfl) (fun _ h => by cases h) insParses_row_tie rfl ⟨rfl, rfl⟩ (by kernel_rfl) rfl
    (fun f fn hf hfn => by
      obtain rfl : f = 3 := Option.some.inj ((show Tryd.prog.funcNamed "thole/tholelaw07.InsParses" = some 3 by kernel_rfl).symm.trans hf) |>.symm
      obtain rfl : fn = Tryd.f3 := (Option.some.inj (Tryd.func3.symm.trans hfn)).symm
      exact ⟨by kernel_rfl, fun j t ht => by
        rw [Tryd.params3] at ht
        have hm : t ∈ [9] := by simpa using Array.mem_of_getElem? ht
        have hall : ([9].all fun u => !Tryd.prog.wantsStandIn u) = true := by kernel_rfl
        exact (show Tryd.prog.wantsStandIn t = false by simpa using List.all_eq_true.1 hall t hm)⟩)
    (by kernel_rfl)
end Go.Proofs.YtibgkhfadlgonaaDoor
