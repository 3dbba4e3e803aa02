/-
  For every input the statement PermitNext answers true: who was unparked, or interrupted, doesn't park next; unparks are one permit; who is woken, without a reason, parks again.
  Conditions: none.
-/
import Derived.Test.YtdphbigkgdeecaaBoth
import Derived.WalkKit
import Derived.ProofKit
import Derived.OpenShut
namespace Go.Proofs.Ytdphbigkgdeecaa
namespace permitNext
open Go.ChangeShapes Go.WideShapes Go.ChangeAt Go.RowKit
set_option linter.unusedVariables false

section
variable {W w : World} {b g c : Nat} {D : Int} {pm : Bool}

/-- The one thread of a table that was made since W. -/
def Solo (W w : World) (b g c : Nat) (p : Pk) : Prop := Tab w b g c 0 [p] ∧ Kept (fun k => W.heap.size ≤ k) W w ∧ W.heap.size ≤ g

theorem Solo.turn {p p' : Pk} {w' : World} (h : Solo W w b g c p) (ht : Turned w b g c 0 [p'] w') : Solo W w' b g c p' := ⟨ht.1, h.2.1.trans ht.2 (fun _ _ e => by rw [e]; exact h.2.2), h.2.2⟩

theorem solo_park (h : Solo W w b g c ⟨false, false, false, 0⟩) (h1 : -1 ≤ D) (hd : dueF 0 D = false) :
    Calls Try.prog 17 #[.pointer (some ⟨b, 0, none⟩), .int .i64 0, .int .i64 D] w fun e w' => e = .returned (.tuple #[.bool true, .nilIface]) ∧ Solo W w' b g c ⟨false, false, true, D⟩ := by
  have e1 : Pk.park 0 ⟨false, false, false, 0⟩ D = ⟨false, false, true, D⟩ := by simp [Pk.park, hd]
  have e2 : Pk.parks 0 ⟨false, false, false, 0⟩ D = true := by simp [Pk.parks, hd]
  refine (park_at (i := 0) D h.1 rfl rfl h1).mono ?_
  rintro e w' ⟨rfl, ht⟩
  rw [e1] at ht
  rw [e2]
  exact ⟨rfl, h.turn ht⟩

theorem solo_pass (h : Solo W w b g c ⟨true, false, false, 0⟩) (h1 : -1 ≤ D) :
    Calls Try.prog 17 #[.pointer (some ⟨b, 0, none⟩), .int .i64 0, .int .i64 D] w fun e w' => e = .returned (.tuple #[.bool false, .nilIface]) ∧ Solo W w' b g c ⟨false, false, false, 0⟩ := by
  refine (park_at (i := 0) D h.1 rfl rfl h1).mono ?_
  rintro e w' ⟨rfl, ht⟩
  exact ⟨rfl, h.turn ht⟩

theorem solo_flag (h : Solo W w b g c ⟨false, true, false, 0⟩) (h1 : -1 ≤ D) :
    Calls Try.prog 17 #[.pointer (some ⟨b, 0, none⟩), .int .i64 0, .int .i64 D] w fun e w' => e = .returned (.tuple #[.bool false, .nilIface]) ∧ Solo W w' b g c ⟨false, true, false, 0⟩ := by
  refine (park_at (i := 0) D h.1 rfl rfl h1).mono ?_
  rintro e w' ⟨rfl, ht⟩
  exact ⟨rfl, h.turn ht⟩

theorem solo_unpark (h : Solo W w b g c ⟨false, false, true, D⟩) :
    Calls Try.prog 18 #[.pointer (some ⟨b, 0, none⟩), .int .i64 0] w fun e w' => e = .returned .nilIface ∧ Solo W w' b g c ⟨false, false, false, 0⟩ := by
  refine (unpark_at (i := 0) h.1 rfl).mono ?_
  rintro e w' ⟨rfl, ht⟩
  exact ⟨rfl, h.turn ht⟩

theorem solo_permit (h : Solo W w b g c ⟨pm, false, false, 0⟩) :
    Calls Try.prog 18 #[.pointer (some ⟨b, 0, none⟩), .int .i64 0] w fun e w' => e = .returned .nilIface ∧ Solo W w' b g c ⟨true, false, false, 0⟩ := by
  refine (unpark_at (i := 0) h.1 rfl).mono ?_
  rintro e w' ⟨rfl, ht⟩
  exact ⟨rfl, h.turn ht⟩

theorem solo_interrupt (h : Solo W w b g c ⟨false, false, true, D⟩) :
    Calls Try.prog 15 #[.pointer (some ⟨b, 0, none⟩), .int .i64 0] w fun e w' => e = .returned .nilIface ∧ Solo W w' b g c ⟨false, true, false, 0⟩ := by
  refine (interrupt_at (i := 0) h.1 rfl).mono ?_
  rintro e w' ⟨rfl, ht⟩
  exact ⟨rfl, h.turn ht⟩

theorem solo_wake (h : Solo W w b g c ⟨false, false, true, D⟩) :
    Calls Try.prog 19 #[.pointer (some ⟨b, 0, none⟩), .int .i64 0] w fun e w' => e = .returned .nilIface ∧ Solo W w' b g c ⟨false, false, false, 0⟩ := by
  refine (wake_at (i := 0) h.1 rfl).mono ?_
  rintro e w' ⟨rfl, ht⟩
  exact ⟨rfl, h.turn ht⟩

theorem Solo.below {p : Pk} (h : Solo W w b g c p) : Below W.heap.size W w := h.2.1.below (Nat.le_refl _) (fun _ h => h)
end

set_option maxHeartbeats 2000000 in
set_option maxRecDepth 100000 in
theorem walk (a0 a1 : Int) (w0 : (Lit.int .i64 a0).wf = true) (w1 : (Lit.int .i64 a1).wf = true) (w : World) :
    Calls Try.prog 5 #[.int .i64 a0, .int .i64 a1] w fun e w' => e = .returned (.bool true) ∧ Below w.heap.size w w' := by
  have b0 := bounds_i64 w0
  clear w0 w1
  have hp := pickF_in a0 3 (by omega)
  have hD : ∀ D : Int, (D = -1 ∨ 1 ≤ D) → dueF 0 D = false := by intro D h; simp [dueF]; omega
  have HD := Lib.hid hD; clear hD
  have h3 : a1 < 0 ∨ (0 ≤ a1 ∧ 1000 < a1) ∨ (0 ≤ a1 ∧ a1 ≤ 1000) := by omega
  rcases h3 with h1 | ⟨h1, h2⟩ | ⟨h1, h2⟩
  all_goals
    go_enter Try.func5, Try.ntmps5
    go_wp2_with fail
    refine (up_any _).mono ?_
    rintro e w1 ⟨rfl, hk⟩
    go_wp2_with fail
    refine (new_in 1 w1 (by omega) (by omega)).mono ?_
    rintro e w2 ⟨b, g, rfl, hb, hg, hT, hk2⟩
    have hs : Solo w w2 b g 1 ⟨false, false, false, 0⟩ := ⟨hT, (hk.trans hk2 (fun _ _ f => f)).mono (fun _ _ f => f.elim), by have := hk.size; omega⟩
    clear hT hk hk2 hb hg
    go_wp2_with fail
    refine (solo_park hs (by omega) (HD.out _ (by omega))).mono ?_
    rintro e w3 ⟨rfl, hs3⟩
    clear hs
    go_wp2_with fail
    refine (pick_any a0 3 _ (by omega) (by omega) (by omega) (by omega)).mono ?_
    rintro e w4 ⟨rfl, rfl⟩
    generalize pickF a0 3 = p0 at *
    obtain h0 | h0 | h0 : p0 = 0 ∨ p0 = 1 ∨ p0 = 2 := by omega
    · subst h0
      go_wp2_with fail
      refine (solo_unpark hs3).mono ?_
      rintro e w4 ⟨rfl, hs4⟩
      go_wp2_with fail
      refine (solo_permit hs4).mono ?_
      rintro e w5 ⟨rfl, hs5⟩
      go_wp2_with fail
      refine (solo_permit hs5).mono ?_
      rintro e w6 ⟨rfl, hs6⟩
      go_wp2_with fail
      refine (solo_pass hs6 (by omega)).mono ?_
      rintro e w7 ⟨rfl, hs7⟩
      go_wp2_with fail
      refine (solo_park hs7 (by omega) (HD.out _ (by omega))).mono ?_
      rintro e w8 ⟨rfl, hs8⟩
      go_wp2_with fail
      go_ret
      exact ⟨rfl, hs8.below⟩
    · subst h0
      go_wp2_with fail
      refine (solo_interrupt hs3).mono ?_
      rintro e w4 ⟨rfl, hs4⟩
      go_wp2_with fail
      refine (solo_flag hs4 (by omega)).mono ?_
      rintro e w5 ⟨rfl, hs5⟩
      go_wp2_with fail
      go_ret
      exact ⟨rfl, hs5.below⟩
    · subst h0
      go_wp2_with fail
      refine (solo_wake hs3).mono ?_
      rintro e w4 ⟨rfl, hs4⟩
      go_wp2_with fail
      refine (solo_park hs4 (by omega) (HD.out _ (by omega))).mono ?_
      rintro e w5 ⟨rfl, hs5⟩
      go_wp2_with fail
      go_ret
      exact ⟨rfl, hs5.below⟩

theorem own : ownKnob Try.prog.godebug = none := by kernel_rfl

set_option maxRecDepth 100000 in
theorem lifted (os : Os) (started : os.Started) (H : Type) (enc : TypeId × Value → H) :
    ReturnsInHanded {} Try.checked os 5 .any (Rows.permitNextSpec.pre6 enc Try.prog Try.f5 Rows.permitNextRow.domain false) (Rows.permitNextSpec.post enc Try.prog Try.f5 false true false false) := by
  refine returnsInHanded_of_change (C := Try.checked) own started (by kernel_rfl) Try.func5
    (ChangeSpec.witness6 (enc := enc) (C := Try.checked) false ⟨#[], #[.int .i64 0, .int .i64 0], []⟩ 8 (by kernel_rfl) (by kernel_rfl) (by kernel_rfl) (by kernel_rfl)) ?_
  intro W base args ds gs before hval0 hW hcnd _
  have hval : ∀ (j : Nat) t v, Try.f5.params[j]? = some t → args[j]? = some v → Value.okWide Try.prog W .any base t v := hval0
  have hW' := hW
  obtain ⟨p, q, hA0, hV, rfl, hfz, hnd⟩ := hW
  have hA : DataW.TrodAll enc Try.prog W 0 (fun _ => true) true Try.f5.params.toList args.toList ds p := hA0
  rw [Try.params5] at hA hval
  obtain ⟨v0, vs0, d0, ds0, p0, q0, hargs, rfl, rfl, h0, r0⟩ := trodAll_cons hA
  obtain ⟨v1, vs1, d1, ds1, p1, q1, rfl, rfl, rfl, h1, r1⟩ := trodAll_cons r0
  obtain ⟨rfl, rfl, rfl⟩ := trodAll_nil r1
  obtain rfl : args = #[v0, v1] := by cases args; simp_all
  obtain ⟨rfl, rfl⟩ := trodVars_none hV
  obtain ⟨a0, rfl, rfl, rfl, w0⟩ := open_int Try.underlying3 (hval 0 3 v0 rfl rfl) h0
  obtain ⟨a1, rfl, rfl, rfl, w1⟩ := open_int Try.underlying2 (hval 1 2 v1 rfl rfl) h1
  clear hA0 hval0
  refine (walk a0 a1 w0 w1 W).mono fun e W' ⟨he, bel⟩ => ?_
  subst he
  exact ⟨_, rfl, _, _, _, [], _, [], hW', trodAll_mk1 (shut_bool Try.underlying4 _), (trodAll_cons_mk (shut_int Try.underlying3 w0) (trodAll_cons_mk (shut_int Try.underlying2 w1) trodAll_mk0)), rfl, bel.frame _, fun h => by cases h⟩

theorem over : Rows.permitNextRow.holds Try.pinned (OpenSpec.ofChange Rows.permitNextSpec) :=
  OpenClaim.holds_of_wide 5 Try.f5 rfl rfl rfl rfl rfl rfl rfl ⟨rfl, rfl, rfl, rfl, rfl⟩ rfl rfl rfl rfl rfl (by kernel_rfl) Try.func5 (by kernel_rfl)
    (of_decide_eq_true (by kernel_rfl)) (by unfold Func.isWrapper; first | (rw [if_pos (by decide +kernel)]; kernel_rfl) | (rw [if_neg (by decide +kernel)]; exact ⟨rfl, rfl⟩))
    (fun os started H enc _ => lifted os started H enc)

end permitNext
/-- The statement. -/
theorem permitNext_holds : Rows.PermitNextSaid := permitNext.over
end Go.Proofs.Ytdphbigkgdeecaa
