/-
  For every input the statement CellKeeps answers true: what was stored is loaded, other cells stay, a Swap of what was loaded is done, and a clone goes its own ways.
  Conditions: none.
-/
import Derived.Test.YtokfkkmkfgdclaaUp
import Derived.Test.YtokfkkmkfgdclaaTwo
import Derived.WalkKit
import Derived.ProofKit
import Derived.OpenShut
import Derived.LoopTactic
namespace Go.Proofs.Ytokfkkmkfgdclaa
namespace cellKeeps
open Go.ChangeShapes Go.WideShapes Go.ChangeAt Go.RowKit
set_option linter.unusedVariables false

theorem below_of {W w : World} (h : Kept (fun k => W.heap.size ≤ k) W w) : Below W.heap.size W w := h.below (Nat.le_refl _) (fun _ h => h)

/-- Of 1 + m cells those ahead of place k hold 1000 and their place, the others 0. -/
def fill (m : Nat) (k : Int) : List Int := (List.range (1 + m)).map fun j : Nat => if (j : Int) + 1 < k then 1000 + ((j : Int) + 1) else 0

theorem fill_len (m : Nat) (k : Int) : (fill m k).length = 1 + m := by simp [fill]

theorem fill_at (m : Nat) (k : Int) (j : Nat) (h : j < 1 + m) : (fill m k).getD j 0 = if (j : Int) + 1 < k then 1000 + ((j : Int) + 1) else 0 := by
  simp [fill, List.getD, h]

theorem fill_one (m : Nat) : fill m 1 = List.replicate (1 + m) 0 := by
  apply List.ext_getElem
  · simp [fill]
  · intro j h1 h2
    simp only [fill, List.getElem_map, List.getElem_range, List.getElem_replicate]
    rw [if_neg (by omega)]

theorem fill_set (m : Nat) (k : Int) (h1 : 1 ≤ k) (h2 : k ≤ 1 + m) : (fill m k).set (k.toNat - 1) (1000 + k) = fill m (k + 1) := by
  apply List.ext_getElem
  · simp [fill]
  · intro j h3 h4
    simp only [fill, List.length_set, List.length_map, List.length_range] at h3
    simp only [List.getElem_set, fill, List.getElem_map, List.getElem_range]
    by_cases h5 : k.toNat - 1 = j
    · rw [if_pos h5, if_pos (by omega)]; omega
    · rw [if_neg h5]
      by_cases h6 : (j : Int) + 1 < k
      · rw [if_pos h6, if_pos (by omega)]
      · rw [if_neg h6, if_neg (by omega)]

/-- The cells when all are stored. -/
def full (m : Nat) : List Int := fill m (2 + m)
theorem full_len (m : Nat) : (full m).length = 1 + m := fill_len _ _
theorem full_at (m : Nat) (i : Int) (h1 : 1 ≤ i) (h2 : i ≤ 1 + m) : (full m).getD (i.toNat - 1) 0 = 1000 + i := by
  rw [full, fill_at _ _ _ (by omega), if_pos (by omega)]; omega
theorem full_set (m : Nat) (i a : Int) (v : Int) (h1 : 1 ≤ i) (h2 : i ≤ 1 + m) (ha : 1 ≤ a) (hne : i ≠ a) : ((full m).set (a.toNat - 1) v).getD (i.toNat - 1) 0 = 1000 + i := by
  have := full_at m i h1 h2
  rw [List.getD] at this ⊢
  rw [List.getElem?_set_ne (by omega)]
  exact this
theorem set_at (l : List Int) (i : Nat) (v : Int) (h : i < l.length) : (l.set i v).getD i 0 = v := by
  simp [List.getD, h]

set_option maxHeartbeats 1000000 in
set_option maxRecDepth 100000 in
theorem walk (a0 a1 a2 a3 : Int) (w0 : (Lit.int .i64 a0).wf = true) (w1 : (Lit.int .i64 a1).wf = true) (w2 : (Lit.int .i64 a2).wf = true) (w3 : (Lit.int .i64 a3).wf = true) (w : World) :
    Calls Try.prog 5 #[.int .i64 a0, .int .i64 a1, .int .i64 a2, .int .i64 a3] w fun e w' => e = .returned (.bool true) ∧ Below w.heap.size w w' := by
  have b0 := bounds_i64 w0
  have b1 := bounds_i64 w1
  clear w0 w1 w2 w3
  go_enter Try.func5, Try.ntmps5
  go_wp2_with fail
  refine (up_any _).mono ?_
  rintro e w1 ⟨rfl, hk⟩
  go_wp2_with fail
  refine (pick_any a0 60 _ (by omega) (by omega) (by omega) (by omega)).mono ?_
  rintro e w2 ⟨rfl, rfl⟩
  have hp := pickF_in a0 60 (by omega)
  generalize pickF a0 60 = p0 at *
  obtain ⟨m, rfl⟩ : ∃ m : Nat, p0 = m := ⟨p0.toNat, by omega⟩
  go_wp2_with fail
  refine (one_new 60 w _ hk (by omega) (by omega)).mono ?_
  rintro e w2 ⟨rfl, hO⟩
  generalize w1.heap.size = b at *
  clear hk
  go_wp2_with fail
  refine (one_alloc_in (1 + m) hO (by omega) (by omega) (by omega) (by simp; omega)).mono ?_
  rintro e w3 ⟨rfl, hO3⟩
  clear hO
  rw [show ((1 : Int) + (m : Int)).toNat = 1 + m from by omega, List.nil_append, ← fill_one] at hO3
  go_wp2_with fail
  go_loopw [14] (fun i wr => ∃ k : Int, i = .int .i64 k ∧ 1 ≤ k ∧ k ≤ 2 + (m : Int) ∧ One w wr b 60 (fill m k)) (fun i _ => (2 + m - intOf i).toNat)
  case atStart => exact ⟨_, rfl, by omega, by omega, hO3⟩
  case round =>
    clear hO3
    obtain ⟨k, rfl, hk1, hk2, hO4⟩ := hrel
    by_cases hk3 : k ≤ 1 + (m : Int)
    · go_wp2_with fail
      refine (one_store_in k (1000 + k) hO4 (by omega) (by rw [fill_len]; omega)).mono ?_
      rintro e w6 ⟨rfl, hO5⟩
      rw [fill_set m k hk1 hk3] at hO5
      clear hO4
      go_wp2_with fail
      go_roundw
      case rel => exact ⟨_, rfl, by omega, by omega, hO5⟩
      case measure => simp [intOf]; omega
    · obtain rfl : k = 2 + m := by omega
      go_wp2_with fail
      refine (two_clone hO4 (by rw [fill_len]; omega)).mono ?_
      rintro e w7 ⟨c, rfl, hT⟩
      clear hO4 hk1 hk2 hk3
      replace hT : Two w w7 b c 60 (full m) (full m) := hT
      by_cases h1 : 1 ≤ a1 ∧ a1 ≤ 1 + (m : Int)
      · obtain ⟨h1, h2⟩ := h1
        go_wp2_with fail
        refine (two_store_in a1 a2 hT h1 (by rw [full_len]; omega)).mono ?_
        rintro e w8 ⟨rfl, hT8⟩
        clear hT
        go_wp2_with fail
        refine (one_load_in a1 hT8.one h1 (by rw [List.length_set, full_len]; omega)).mono ?_
        rintro e w9 ⟨rfl, rfl⟩
        rw [set_at _ _ _ (by rw [full_len]; omega)]
        go_wp2_with fail
        go_loop [20] (fun i => ∃ k : Int, i = .int .i64 k ∧ 1 ≤ k ∧ k ≤ 2 + (m : Int)) (fun i => (2 + m - intOf i).toNat)
        case atStart => exact ⟨_, rfl, by omega, by omega⟩
        case round =>
          obtain ⟨k, rfl, hk1, hk2⟩ := hrel
          by_cases hk3 : k ≤ 1 + (m : Int)
          · by_cases hk4 : k = a1
            · subst hk4
              go_wp2_with fail
              refine (one_load_in k hT8.one (by omega) (by rw [List.length_set, full_len]; omega)).mono ?_
              rintro e w9 ⟨rfl, rfl⟩
              rw [set_at _ _ _ (by rw [full_len]; omega)]
              go_wp2_with fail
              refine (one_load_in k hT8.flip.one (by omega) (by rw [full_len]; omega)).mono ?_
              rintro e w9 ⟨rfl, rfl⟩
              rw [full_at m k (by omega) (by omega)]
              go_wp2_with fail
              go_round
              case rel => exact ⟨_, rfl, by omega, by omega⟩
              case measure => simp [intOf]; omega
            · have q1 : (k != a1) = true := by rw [bne_iff_ne]; exact hk4
              have HK4 := Lib.hid hk4
              clear hk4
              go_wp2_with fail
              refine (one_load_in k hT8.one (by omega) (by rw [List.length_set, full_len]; omega)).mono ?_
              rintro e w9 ⟨rfl, rfl⟩
              rw [full_set m k a1 a2 (by omega) (by omega) h1 HK4.out]
              go_wp2_with fail
              refine (one_load_in k hT8.flip.one (by omega) (by rw [full_len]; omega)).mono ?_
              rintro e w9 ⟨rfl, rfl⟩
              rw [full_at m k (by omega) (by omega)]
              go_wp2_with fail
              go_round
              case rel => exact ⟨_, rfl, by omega, by omega⟩
              case measure => simp [intOf]; omega
          · go_wp2_with fail
            refine (two_swap_yes a1 a2 a3 hT8 h1 (by rw [List.length_set, full_len]; omega) (set_at _ _ _ (by rw [full_len]; omega))).mono ?_
            rintro e w9 ⟨rfl, hT9⟩
            clear hT8
            go_wp2_with fail
            refine (one_load_in a1 hT9.one h1 (by rw [List.length_set, List.length_set, full_len]; omega)).mono ?_
            rintro e w10 ⟨rfl, rfl⟩
            rw [set_at _ _ _ (by rw [List.length_set, full_len]; omega)]
            go_wp2_with fail
            go_ret
            exact ⟨rfl, hT9.one.below⟩
      · have H1 := Lib.hid h1
        clear h1
        by_cases h2 : a1 < 1
        · go_wp2_with fail
          refine (one_store_out a1 a2 hT.one (by rw [full_len]; have := H1.out; omega)).mono ?_
          rintro e w8 ⟨rfl, rfl⟩
          go_wp2_with fail
          refine (one_load_out a1 hT.one (by rw [full_len]; have := H1.out; omega)).mono ?_
          rintro e w8 ⟨rfl, rfl⟩
          go_wp2_with fail
          go_ret
          exact ⟨rfl, hT.one.below⟩
        · have h3 : 1 + (m : Int) < a1 := by have := H1.out; omega
          go_wp2_with fail
          refine (one_store_out a1 a2 hT.one (by rw [full_len]; have := H1.out; omega)).mono ?_
          rintro e w8 ⟨rfl, rfl⟩
          go_wp2_with fail
          refine (one_load_out a1 hT.one (by rw [full_len]; have := H1.out; omega)).mono ?_
          rintro e w8 ⟨rfl, rfl⟩
          go_wp2_with fail
          go_ret
          exact ⟨rfl, hT.one.below⟩

theorem own : ownKnob Try.prog.godebug = none := by kernel_rfl

set_option maxRecDepth 100000 in
theorem lifted (os : Os) (started : os.Started) (H : Type) (enc : TypeId × Value → H) :
    ReturnsInHanded {} Try.checked os 5 .any (Rows.cellKeepsSpec.pre6 enc Try.prog Try.f5 Rows.cellKeepsRow.domain false) (Rows.cellKeepsSpec.post enc Try.prog Try.f5 false true false false) := by
  refine returnsInHanded_of_change (C := Try.checked) own started (by kernel_rfl) Try.func5
    (ChangeSpec.witness6 (enc := enc) (C := Try.checked) false ⟨#[], #[.int .i64 0, .int .i64 0, .int .i64 0, .int .i64 0], []⟩ 8 (by kernel_rfl) (by kernel_rfl) (by kernel_rfl) (by kernel_rfl)) ?_
  intro W base args ds gs before hval0 hW hcnd _
  have hval : ∀ (j : Nat) t v, Try.f5.params[j]? = some t → args[j]? = some v → Value.okWide Try.prog W .any base t v := hval0
  have hW' := hW
  obtain ⟨p, q, hA0, hV, rfl, hfz, hnd⟩ := hW
  have hA : DataW.TrodAll enc Try.prog W 0 (fun _ => true) true Try.f5.params.toList args.toList ds p := hA0
  rw [Try.params5] at hA hval
  obtain ⟨v0, vs0, d0, ds0, p0, q0, hargs, rfl, rfl, h0, r0⟩ := trodAll_cons hA
  obtain ⟨v1, vs1, d1, ds1, p1, q1, rfl, rfl, rfl, h1, r1⟩ := trodAll_cons r0
  obtain ⟨v2, vs2, d2, ds2, p2, q2, rfl, rfl, rfl, h2, r2⟩ := trodAll_cons r1
  obtain ⟨v3, vs3, d3, ds3, p3, q3, rfl, rfl, rfl, h3, r3⟩ := trodAll_cons r2
  obtain ⟨rfl, rfl, rfl⟩ := trodAll_nil r3
  obtain rfl : args = #[v0, v1, v2, v3] := by cases args; simp_all
  obtain ⟨rfl, rfl⟩ := trodVars_none hV
  obtain ⟨a0, rfl, rfl, rfl, w0⟩ := open_int Try.underlying3 (hval 0 3 v0 rfl rfl) h0
  obtain ⟨a1, rfl, rfl, rfl, w1⟩ := open_int Try.underlying2 (hval 1 2 v1 rfl rfl) h1
  obtain ⟨a2, rfl, rfl, rfl, w2⟩ := open_int Try.underlying2 (hval 2 2 v2 rfl rfl) h2
  obtain ⟨a3, rfl, rfl, rfl, w3⟩ := open_int Try.underlying2 (hval 3 2 v3 rfl rfl) h3
  clear hA0 hval0
  refine (walk a0 a1 a2 a3 w0 w1 w2 w3 W).mono fun e W' ⟨he, bel⟩ => ?_
  subst he
  exact ⟨_, rfl, _, _, _, [], _, [], hW', trodAll_mk1 (shut_bool Try.underlying4 _), (trodAll_cons_mk (shut_int Try.underlying3 w0) (trodAll_cons_mk (shut_int Try.underlying2 w1) (trodAll_cons_mk (shut_int Try.underlying2 w2) (trodAll_cons_mk (shut_int Try.underlying2 w3) trodAll_mk0)))), rfl, bel.frame _, fun h => by cases h⟩

theorem over : Rows.cellKeepsRow.holds Try.pinned (OpenSpec.ofChange Rows.cellKeepsSpec) :=
  OpenClaim.holds_of_wide 5 Try.f5 rfl rfl rfl rfl rfl rfl rfl ⟨rfl, rfl, rfl, rfl, rfl⟩ rfl rfl rfl rfl rfl (by kernel_rfl) Try.func5 (by kernel_rfl)
    (of_decide_eq_true (by kernel_rfl)) (by unfold Func.isWrapper; first | (rw [if_pos (by decide +kernel)]; kernel_rfl) | (rw [if_neg (by decide +kernel)]; exact ⟨rfl, rfl⟩))
    (fun os started H enc _ => lifted os started H enc)

end cellKeeps
/-- The statement. -/
theorem cellKeeps_holds : Rows.CellKeepsSaid := cellKeeps.over
end Go.Proofs.Ytokfkkmkfgdclaa
