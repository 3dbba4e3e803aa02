/-
  For every input the statement CellTwin answers true: what is done with an arena is not seen in its clone, nor the other way round.
  Conditions: none.
-/
import Derived.Test.YtokfkkmkfgdclaaUp
import Derived.Test.YtokfkkmkfgdclaaTwo
import Derived.WalkKit
import Derived.ProofKit
import Derived.OpenShut
namespace Go.Proofs.Ytokfkkmkfgdclaa
namespace cellTwin
open Go.ChangeShapes Go.WideShapes Go.ChangeAt Go.RowKit
set_option linter.unusedVariables false

theorem below_of {W w : World} (h : Kept (fun k => W.heap.size ≤ k) W w) : Below W.heap.size W w := h.below (Nat.le_refl _) (fun _ h => h)

theorem getD_rep (n k : Nat) : (List.replicate n (0 : Int) ++ [0]).getD k 0 = 0 := by
  rw [List.getD]
  by_cases h : k < n
  · simp [List.getElem?_append, h]
  · by_cases h2 : k = n
    · subst h2; simp
    · rw [List.getElem?_eq_none (by simp; omega)]; rfl

theorem walk (a0 a1 a2 : Int) (w0 : (Lit.int .i64 a0).wf = true) (w1 : (Lit.int .i64 a1).wf = true) (w2 : (Lit.int .i64 a2).wf = true) (w : World) :
    Calls Try.prog 7 #[.int .i64 a0, .int .i64 a1, .int .i64 a2] w fun e w' => e = .returned (.bool true) ∧ Below w.heap.size w w' := by
  clear w0 w1 w2
  by_cases h1 : a0 < 1
  · go_enter Try.func7, Try.ntmps7
    go_wp2_with fail
    refine (up_any _).mono ?_
    rintro e w1 ⟨rfl, hk⟩
    go_wp2_with fail
    go_ret
    exact ⟨rfl, below_of hk⟩
  by_cases h2 : 100 < a0
  · go_enter Try.func7, Try.ntmps7
    go_wp2_with fail
    refine (up_any _).mono ?_
    rintro e w1 ⟨rfl, hk⟩
    go_wp2_with fail
    go_ret
    exact ⟨rfl, below_of hk⟩
  obtain ⟨n, rfl⟩ : ∃ n : Nat, a0 = n := ⟨a0.toNat, by omega⟩
  have hn1 : 1 ≤ n := by omega
  have hn2 : n ≤ 100 := by omega
  clear h1 h2
  have q1 : ((n : Int) < 1) = False := by simp; omega
  have q2 : (100 < (n : Int)) = False := by simp; omega
  by_cases h3 : 1 ≤ a1 ∧ a1 ≤ (n : Int)
  · obtain ⟨h4, h5⟩ := h3
    go_enter Try.func7, Try.ntmps7
    go_wp2_with fail
    refine (up_any _).mono ?_
    rintro e w1 ⟨rfl, hk⟩
    go_wp2_with fail
    refine (one_new 200 w _ hk (by omega) (by omega)).mono ?_
    rintro e w2 ⟨rfl, hO⟩
    generalize w1.heap.size = b at *
    clear hk
    go_wp2_with fail
    refine (one_alloc_in n hO (by omega) (by omega) (by omega) (by simp; omega)).mono ?_
    rintro e w3 ⟨rfl, hO3⟩
    replace hO3 : One w w3 b 200 (List.replicate n 0) := hO3
    clear hO
    go_wp2_with fail
    refine (two_clone hO3 (by simp; omega)).mono ?_
    rintro e w4 ⟨c, rfl, hT⟩
    clear hO3
    go_wp2_with fail
    refine (two_store_in a1 a2 hT (by omega) (by simp; omega)).mono ?_
    rintro e w5 ⟨rfl, hT5⟩
    clear hT
    go_wp2_with fail
    refine (two_alloc_in 1 hT5.flip (by omega) (by omega) (by omega) (by simp; omega)).mono ?_
    rintro e w6 ⟨rfl, hT6⟩
    clear hT5
    replace hT6 : Two w w6 c b 200 (List.replicate n 0 ++ [0]) ((List.replicate n 0).set (a1.toNat - 1) a2) := hT6
    go_wp2_with fail
    refine (one_load_in a1 hT6.one (by omega) (by simp; omega)).mono ?_
    rintro e w7 ⟨rfl, rfl⟩
    rw [getD_rep]
    go_wp2_with fail
    refine (one_len hT6.flip.one).mono ?_
    rintro e w8 ⟨rfl, rfl⟩
    go_wp2_with fail
    refine (one_len hT6.one).mono ?_
    rintro e w8 ⟨rfl, rfl⟩
    go_wp2_with fail
    go_ret
    exact ⟨rfl, hT6.one.below⟩
  · have H3 := Lib.hid h3
    clear h3
    by_cases h4 : 1 ≤ a1
    · have h5 : ¬ (a1 ≤ (n : Int)) := by have := H3.out; omega
      by_cases h6 : a1 = n + 1
      · have H6 := Lib.hid h6
        clear h6
        go_enter Try.func7, Try.ntmps7
        go_wp2_with fail
        refine (up_any _).mono ?_
        rintro e w1 ⟨rfl, hk⟩
        go_wp2_with fail
        refine (one_new 200 w _ hk (by omega) (by omega)).mono ?_
        rintro e w2 ⟨rfl, hO⟩
        generalize w1.heap.size = b at *
        clear hk
        go_wp2_with fail
        refine (one_alloc_in n hO (by omega) (by omega) (by omega) (by simp; omega)).mono ?_
        rintro e w3 ⟨rfl, hO3⟩
        replace hO3 : One w w3 b 200 (List.replicate n 0) := hO3
        clear hO
        go_wp2_with fail
        refine (two_clone hO3 (by simp; omega)).mono ?_
        rintro e w4 ⟨c, rfl, hT⟩
        clear hO3
        go_wp2_with fail
        refine (one_store_out a1 a2 hT.one (by have := H3.out; simp; omega)).mono ?_
        rintro e w5 ⟨rfl, rfl⟩
        go_wp2_with fail
        refine (two_alloc_in 1 hT.flip (by omega) (by omega) (by omega) (by simp; omega)).mono ?_
        rintro e w6 ⟨rfl, hT6⟩
        clear hT
        replace hT6 : Two w w6 c b 200 (List.replicate n 0 ++ [0]) (List.replicate n 0) := hT6
        go_wp2_with fail
        refine (one_load_in a1 hT6.one (by omega) (by have := H6.out; simp; omega)).mono ?_
        rintro e w7 ⟨rfl, rfl⟩
        go_wp2_with fail
        refine (one_len hT6.flip.one).mono ?_
        rintro e w8 ⟨rfl, rfl⟩
        go_wp2_with fail
        refine (one_len hT6.one).mono ?_
        rintro e w8 ⟨rfl, rfl⟩
        go_wp2_with fail
        go_ret
        exact ⟨rfl, hT6.one.below⟩
      · have H6 := Lib.hid h6
        clear h6
        go_enter Try.func7, Try.ntmps7
        go_wp2_with fail
        refine (up_any _).mono ?_
        rintro e w1 ⟨rfl, hk⟩
        go_wp2_with fail
        refine (one_new 200 w _ hk (by omega) (by omega)).mono ?_
        rintro e w2 ⟨rfl, hO⟩
        generalize w1.heap.size = b at *
        clear hk
        go_wp2_with fail
        refine (one_alloc_in n hO (by omega) (by omega) (by omega) (by simp; omega)).mono ?_
        rintro e w3 ⟨rfl, hO3⟩
        replace hO3 : One w w3 b 200 (List.replicate n 0) := hO3
        clear hO
        go_wp2_with fail
        refine (two_clone hO3 (by simp; omega)).mono ?_
        rintro e w4 ⟨c, rfl, hT⟩
        clear hO3
        go_wp2_with fail
        refine (one_store_out a1 a2 hT.one (by have := H3.out; simp; omega)).mono ?_
        rintro e w5 ⟨rfl, rfl⟩
        go_wp2_with fail
        refine (two_alloc_in 1 hT.flip (by omega) (by omega) (by omega) (by simp; omega)).mono ?_
        rintro e w6 ⟨rfl, hT6⟩
        clear hT
        replace hT6 : Two w w6 c b 200 (List.replicate n 0 ++ [0]) (List.replicate n 0) := hT6
        go_wp2_with fail
        refine (one_load_out a1 hT6.one (by have := H6.out; have := H3.out; simp; omega)).mono ?_
        rintro e w7 ⟨rfl, rfl⟩
        go_wp2_with fail
        refine (one_len hT6.flip.one).mono ?_
        rintro e w8 ⟨rfl, rfl⟩
        go_wp2_with fail
        refine (one_len hT6.one).mono ?_
        rintro e w8 ⟨rfl, rfl⟩
        go_wp2_with fail
        go_ret
        exact ⟨rfl, hT6.one.below⟩
    · have h5 : a1 < 1 := by omega
      go_enter Try.func7, Try.ntmps7
      go_wp2_with fail
      refine (up_any _).mono ?_
      rintro e w1 ⟨rfl, hk⟩
      go_wp2_with fail
      refine (one_new 200 w _ hk (by omega) (by omega)).mono ?_
      rintro e w2 ⟨rfl, hO⟩
      generalize w1.heap.size = b at *
      clear hk
      go_wp2_with fail
      refine (one_alloc_in n hO (by omega) (by omega) (by omega) (by simp; omega)).mono ?_
      rintro e w3 ⟨rfl, hO3⟩
      replace hO3 : One w w3 b 200 (List.replicate n 0) := hO3
      clear hO
      go_wp2_with fail
      refine (two_clone hO3 (by simp; omega)).mono ?_
      rintro e w4 ⟨c, rfl, hT⟩
      clear hO3
      go_wp2_with fail
      refine (one_store_out a1 a2 hT.one (by have := H3.out; simp; omega)).mono ?_
      rintro e w5 ⟨rfl, rfl⟩
      go_wp2_with fail
      refine (two_alloc_in 1 hT.flip (by omega) (by omega) (by omega) (by simp; omega)).mono ?_
      rintro e w6 ⟨rfl, hT6⟩
      clear hT
      replace hT6 : Two w w6 c b 200 (List.replicate n 0 ++ [0]) (List.replicate n 0) := hT6
      go_wp2_with fail
      refine (one_load_out a1 hT6.one (by have := H3.out; simp; omega)).mono ?_
      rintro e w7 ⟨rfl, rfl⟩
      go_wp2_with fail
      refine (one_len hT6.flip.one).mono ?_
      rintro e w8 ⟨rfl, rfl⟩
      go_wp2_with fail
      refine (one_len hT6.one).mono ?_
      rintro e w8 ⟨rfl, rfl⟩
      go_wp2_with fail
      go_ret
      exact ⟨rfl, hT6.one.below⟩

theorem own : ownKnob Try.prog.godebug = none := by kernel_rfl

set_option maxRecDepth 100000 in
theorem lifted (os : Os) (started : os.Started) (H : Type) (enc : TypeId × Value → H) :
    ReturnsInHanded {} Try.checked os 7 .any (Rows.cellTwinSpec.pre6 enc Try.prog Try.f7 Rows.cellTwinRow.domain false) (Rows.cellTwinSpec.post enc Try.prog Try.f7 false true false false) := by
  refine returnsInHanded_of_change (C := Try.checked) own started (by kernel_rfl) Try.func7
    (ChangeSpec.witness6 (enc := enc) (C := Try.checked) false ⟨#[], #[.int .i64 0, .int .i64 0, .int .i64 0], []⟩ 8 (by kernel_rfl) (by kernel_rfl) (by kernel_rfl) (by kernel_rfl)) ?_
  intro W base args ds gs before hval0 hW hcnd _
  have hval : ∀ (j : Nat) t v, Try.f7.params[j]? = some t → args[j]? = some v → Value.okWide Try.prog W .any base t v := hval0
  have hW' := hW
  obtain ⟨p, q, hA0, hV, rfl, hfz, hnd⟩ := hW
  have hA : DataW.TrodAll enc Try.prog W 0 (fun _ => true) true Try.f7.params.toList args.toList ds p := hA0
  rw [Try.params7] at hA hval
  obtain ⟨v0, vs0, d0, ds0, p0, q0, hargs, rfl, rfl, h0, r0⟩ := trodAll_cons hA
  obtain ⟨v1, vs1, d1, ds1, p1, q1, rfl, rfl, rfl, h1, r1⟩ := trodAll_cons r0
  obtain ⟨v2, vs2, d2, ds2, p2, q2, rfl, rfl, rfl, h2, r2⟩ := trodAll_cons r1
  obtain ⟨rfl, rfl, rfl⟩ := trodAll_nil r2
  obtain rfl : args = #[v0, v1, v2] := by cases args; simp_all
  obtain ⟨rfl, rfl⟩ := trodVars_none hV
  obtain ⟨a0, rfl, rfl, rfl, w0⟩ := open_int Try.underlying3 (hval 0 3 v0 rfl rfl) h0
  obtain ⟨a1, rfl, rfl, rfl, w1⟩ := open_int Try.underlying2 (hval 1 2 v1 rfl rfl) h1
  obtain ⟨a2, rfl, rfl, rfl, w2⟩ := open_int Try.underlying2 (hval 2 2 v2 rfl rfl) h2
  clear hA0 hval0
  refine (walk a0 a1 a2 w0 w1 w2 W).mono fun e W' ⟨he, bel⟩ => ?_
  subst he
  exact ⟨_, rfl, _, _, _, [], _, [], hW', trodAll_mk1 (shut_bool Try.underlying4 _), (trodAll_cons_mk (shut_int Try.underlying3 w0) (trodAll_cons_mk (shut_int Try.underlying2 w1) (trodAll_cons_mk (shut_int Try.underlying2 w2) trodAll_mk0))), rfl, bel.frame _, fun h => by cases h⟩

theorem over : Rows.cellTwinRow.holds Try.pinned (OpenSpec.ofChange Rows.cellTwinSpec) :=
  OpenClaim.holds_of_wide 7 Try.f7 rfl rfl rfl rfl rfl rfl rfl ⟨rfl, rfl, rfl, rfl, rfl⟩ rfl rfl rfl rfl rfl (by kernel_rfl) Try.func7 (by kernel_rfl)
    (of_decide_eq_true (by kernel_rfl)) (by unfold Func.isWrapper; first | (rw [if_pos (by decide +kernel)]; kernel_rfl) | (rw [if_neg (by decide +kernel)]; exact ⟨rfl, rfl⟩))
    (fun os started H enc _ => lifted os started H enc)

end cellTwin
/-- The statement. -/
theorem cellTwin_holds : Rows.CellTwinSaid := cellTwin.over
end Go.Proofs.Ytokfkkmkfgdclaa
