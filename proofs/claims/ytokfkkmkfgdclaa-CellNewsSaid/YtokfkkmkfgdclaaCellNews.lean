/-
  For every input the statement CellNews answers true: new cells are 0 and behind all that were there, which stay as they were.
  Conditions: none.
-/
import Derived.Test.YtokfkkmkfgdclaaUp
import Derived.WalkKit
import Derived.ProofKit
import Derived.OpenShut
import Derived.LoopTactic
namespace Go.Proofs.Ytokfkkmkfgdclaa
namespace cellNews
open Go.ChangeShapes Go.WideShapes Go.ChangeAt Go.RowKit
set_option linter.unusedVariables false

theorem below_of {W w : World} (h : Kept (fun k => W.heap.size ≤ k) W w) : Below W.heap.size W w := h.below (Nat.le_refl _) (fun _ h => h)

def cells (m p : Nat) (v : Int) : List Int := (List.replicate (1 + m) (0 : Int)).set m v ++ List.replicate (1 + p) 0

theorem cells_len (m p : Nat) (v : Int) : (cells m p v).length = 2 + m + p := by simp [cells]; omega

theorem cells_new (m p : Nat) (v : Int) (k : Nat) (h : m < k) : (cells m p v).getD k 0 = 0 := by
  rw [List.getD, cells]
  by_cases h2 : k < 2 + m + p
  · rw [List.getElem?_append_right (by simp; omega)]
    rw [List.getElem?_replicate, if_pos (by simp; omega)]
    rfl
  · rw [List.getElem?_eq_none (by simp; omega)]; rfl

theorem cells_old (m p : Nat) (v : Int) : (cells m p v).getD m 0 = v := by
  rw [List.getD, cells, List.getElem?_append_left (by simp)]
  simp

theorem walk (a0 a1 a2 : Int) (w0 : (Lit.int .i64 a0).wf = true) (w1 : (Lit.int .i64 a1).wf = true) (w2 : (Lit.int .i64 a2).wf = true) (w : World) :
    Calls Try.prog 6 #[.int .i64 a0, .int .i64 a1, .int .i64 a2] w fun e w' => e = .returned (.bool true) ∧ Below w.heap.size w w' := by
  have b0 := bounds_i64 w0
  have b1 := bounds_i64 w1
  clear w0 w1 w2
  go_enter Try.func6, Try.ntmps6
  go_wp2_with fail
  refine (up_any _).mono ?_
  rintro e w1 ⟨rfl, hk⟩
  go_wp2_with fail
  refine (pick_any a0 100 _ (by omega) (by omega) (by omega) (by omega)).mono ?_
  rintro e w2 ⟨rfl, rfl⟩
  have hp := pickF_in a0 100 (by omega)
  generalize pickF a0 100 = p0 at *
  obtain ⟨m, rfl⟩ : ∃ m : Nat, p0 = m := ⟨p0.toNat, by omega⟩
  go_wp2_with fail
  refine (pick_any a1 100 _ (by omega) (by omega) (by omega) (by omega)).mono ?_
  rintro e w2 ⟨rfl, rfl⟩
  have hp1 := pickF_in a1 100 (by omega)
  generalize pickF a1 100 = p1 at *
  obtain ⟨p, rfl⟩ : ∃ m : Nat, p1 = m := ⟨p1.toNat, by omega⟩
  go_wp2_with fail
  refine (one_new 200 w _ hk (by omega) (by omega)).mono ?_
  rintro e w2 ⟨rfl, hO⟩
  generalize w1.heap.size = b at *
  clear hk
  go_wp2_with fail
  refine (one_alloc_in (1 + m) hO (by omega) (by omega) (by omega) (by simp; omega)).mono ?_
  rintro e w3 ⟨rfl, hO3⟩
  clear hO
  rw [show ((1 : Int) + (m : Int)).toNat = 1 + m from by omega, List.nil_append] at hO3
  go_wp2_with fail
  refine (one_store_in (1 + m) a2 hO3 (by omega) (by simp)).mono ?_
  rintro e w4 ⟨rfl, hO4⟩
  clear hO3
  rw [show ((1 : Int) + (m : Int)).toNat - 1 = m from by omega] at hO4
  go_wp2_with fail
  refine (one_alloc_in (1 + p) hO4 (by omega) (by omega) (by omega) (by simp; omega)).mono ?_
  rintro e w5 ⟨rfl, hO5⟩
  clear hO4
  rw [show ((1 : Int) + (p : Int)).toNat = 1 + p from by omega] at hO5
  replace hO5 : One w w5 b 200 (cells m p a2) := hO5
  rw [show ((((List.replicate (1 + m) (0 : Int)).set m a2).length : Nat) : Int) = 1 + m from by simp]
  go_wp2_with fail
  refine (one_len hO5).mono ?_
  rintro e w6 ⟨rfl, rfl⟩
  rw [cells_len, show ((2 + m + p : Nat) : Int) = 1 + (m : Int) + (1 + (p : Int)) from by omega]
  go_wp2_with fail
  go_loop [15] (fun i => ∃ k : Int, i = .int .i64 k ∧ 2 + (m : Int) ≤ k ∧ k ≤ 3 + m + p) (fun i => (3 + m + p - intOf i).toNat)
  case atStart => exact ⟨_, rfl, by omega, by omega⟩
  case round =>
    obtain ⟨k, rfl, hk1, hk2⟩ := hrel
    by_cases hk3 : k ≤ 1 + (m : Int) + (1 + p)
    · go_wp2_with fail
      refine (one_load_in k hO5 (by omega) (by rw [cells_len]; omega)).mono ?_
      rintro e w6 ⟨rfl, rfl⟩
      rw [cells_new m p a2 _ (by omega)]
      go_wp2_with fail
      go_round
      case rel => exact ⟨_, rfl, by omega, by omega⟩
      case measure => simp [intOf]; omega
    · go_wp2_with fail
      refine (one_load_in (1 + m) hO5 (by omega) (by rw [cells_len]; omega)).mono ?_
      rintro e w6 ⟨rfl, rfl⟩
      rw [show ((1 : Int) + (m : Int)).toNat - 1 = m from by omega, cells_old]
      go_wp2_with fail
      go_ret
      exact ⟨rfl, hO5.below⟩

theorem own : ownKnob Try.prog.godebug = none := by kernel_rfl

set_option maxRecDepth 100000 in
theorem lifted (os : Os) (started : os.Started) (H : Type) (enc : TypeId × Value → H) :
    ReturnsInHanded {} Try.checked os 6 .any (Rows.cellNewsSpec.pre6 enc Try.prog Try.f6 Rows.cellNewsRow.domain false) (Rows.cellNewsSpec.post enc Try.prog Try.f6 false true false false) := by
  refine returnsInHanded_of_change (C := Try.checked) own started (by kernel_rfl) Try.func6
    (ChangeSpec.witness6 (enc := enc) (C := Try.checked) false ⟨#[], #[.int .i64 0, .int .i64 0, .int .i64 0], []⟩ 8 (by kernel_rfl) (by kernel_rfl) (by kernel_rfl) (by kernel_rfl)) ?_
  intro W base args ds gs before hval0 hW hcnd _
  have hval : ∀ (j : Nat) t v, Try.f6.params[j]? = some t → args[j]? = some v → Value.okWide Try.prog W .any base t v := hval0
  have hW' := hW
  obtain ⟨p, q, hA0, hV, rfl, hfz, hnd⟩ := hW
  have hA : DataW.TrodAll enc Try.prog W 0 (fun _ => true) true Try.f6.params.toList args.toList ds p := hA0
  rw [Try.params6] at hA hval
  obtain ⟨v0, vs0, d0, ds0, p0, q0, hargs, rfl, rfl, h0, r0⟩ := trodAll_cons hA
  obtain ⟨v1, vs1, d1, ds1, p1, q1, rfl, rfl, rfl, h1, r1⟩ := trodAll_cons r0
  obtain ⟨v2, vs2, d2, ds2, p2, q2, rfl, rfl, rfl, h2, r2⟩ := trodAll_cons r1
  obtain ⟨rfl, rfl, rfl⟩ := trodAll_nil r2
  obtain rfl : args = #[v0, v1, v2] := by cases args; simp_all
  obtain ⟨rfl, rfl⟩ := trodVars_none hV
  obtain ⟨a0, rfl, rfl, rfl, w0⟩ := open_int Try.underlying3 (hval 0 3 v0 rfl rfl) h0
  obtain ⟨a1, rfl, rfl, rfl, w1⟩ := open_int Try.underlying3 (hval 1 3 v1 rfl rfl) h1
  obtain ⟨a2, rfl, rfl, rfl, w2⟩ := open_int Try.underlying2 (hval 2 2 v2 rfl rfl) h2
  clear hA0 hval0
  refine (walk a0 a1 a2 w0 w1 w2 W).mono fun e W' ⟨he, bel⟩ => ?_
  subst he
  exact ⟨_, rfl, _, _, _, [], _, [], hW', trodAll_mk1 (shut_bool Try.underlying4 _), (trodAll_cons_mk (shut_int Try.underlying3 w0) (trodAll_cons_mk (shut_int Try.underlying3 w1) (trodAll_cons_mk (shut_int Try.underlying2 w2) trodAll_mk0))), rfl, bel.frame _, fun h => by cases h⟩

theorem over : Rows.cellNewsRow.holds Try.pinned (OpenSpec.ofChange Rows.cellNewsSpec) :=
  OpenClaim.holds_of_wide 6 Try.f6 rfl rfl rfl rfl rfl rfl rfl ⟨rfl, rfl, rfl, rfl, rfl⟩ rfl rfl rfl rfl rfl (by kernel_rfl) Try.func6 (by kernel_rfl)
    (of_decide_eq_true (by kernel_rfl)) (by unfold Func.isWrapper; first | (rw [if_pos (by decide +kernel)]; kernel_rfl) | (rw [if_neg (by decide +kernel)]; exact ⟨rfl, rfl⟩))
    (fun os started H enc _ => lifted os started H enc)

end cellNews
/-- The statement. -/
theorem cellNews_holds : Rows.CellNewsSaid := cellNews.over
end Go.Proofs.Ytokfkkmkfgdclaa
