/-
  The document's answer of layer 5: of a call.
  Conditions: none.
-/
import Derived.Test.YtkicpbnphbcdaaaMaysSame
namespace Go.Proofs.Ytkicpbnphbcdaaa
open Go.RowKit

set_option maxHeartbeats 2000000 in
theorem call_ref (x : Cl) (m : Nat) (w : World) (r : Bool) (hr : clF m x = r) : Calls Try.prog 26 #[x.agg, .int .i64 m] w fun e w' => e = .returned (.bool r) ∧ Kept (fun _ => False) w w' := by
  obtain ⟨k, o, n, t, b⟩ := x
  rw [clF_ref] at hr
  unfold Cl.agg
  obtain ⟨f, hf⟩ : ∃ f, ofF k = f := ⟨_, rfl⟩
  rw [hf] at hr
  have HF := Lib.hid hf; clear hf
  cases h1 : (f == 0)
  case true =>
    rw [h1] at hr
    obtain rfl : false = r := hr
    go_enter Try.func26, Try.ntmps26
    go_wp2_with fail
    refine (of_ref k _ _ HF.out).mono ?_
    rintro e w1 ⟨rfl, hk1⟩
    obtain ⟨p0, p1, p2, p3, p4⟩ := box5 hk1
    go_wp2_with fail
    go_ret
    exact ⟨rfl, ((Kept.refl _ w).alloc _).trans hk1 (fun _ _ f => f)⟩
  cases h2 : decide (o < 0)
  case true =>
    rw [h1, h2] at hr
    obtain rfl : false = r := hr
    go_enter Try.func26, Try.ntmps26
    go_wp2_with fail
    refine (of_ref k _ _ HF.out).mono ?_
    rintro e w1 ⟨rfl, hk1⟩
    obtain ⟨p0, p1, p2, p3, p4⟩ := box5 hk1
    go_wp2_with fail
    go_ret
    exact ⟨rfl, ((Kept.refl _ w).alloc _).trans hk1 (fun _ _ f => f)⟩
  cases h3 : decide ((m : Int) ≤ o)
  case true =>
    rw [h1, h2, h3] at hr
    obtain rfl : false = r := hr
    go_enter Try.func26, Try.ntmps26
    go_wp2_with fail
    refine (of_ref k _ _ HF.out).mono ?_
    rintro e w1 ⟨rfl, hk1⟩
    obtain ⟨p0, p1, p2, p3, p4⟩ := box5 hk1
    go_wp2_with fail
    go_ret
    exact ⟨rfl, ((Kept.refl _ w).alloc _).trans hk1 (fun _ _ f => f)⟩
  cases h4 : decide (n < 0)
  case true =>
    rw [h1, h2, h3, h4] at hr
    obtain rfl : false = r := hr
    go_enter Try.func26, Try.ntmps26
    go_wp2_with fail
    refine (of_ref k _ _ HF.out).mono ?_
    rintro e w1 ⟨rfl, hk1⟩
    obtain ⟨p0, p1, p2, p3, p4⟩ := box5 hk1
    go_wp2_with fail
    go_ret
    exact ⟨rfl, ((Kept.refl _ w).alloc _).trans hk1 (fun _ _ f => f)⟩
  cases h5 : decide (1000 < n)
  case true =>
    rw [h1, h2, h3, h4, h5] at hr
    obtain rfl : false = r := hr
    go_enter Try.func26, Try.ntmps26
    go_wp2_with fail
    refine (of_ref k _ _ HF.out).mono ?_
    rintro e w1 ⟨rfl, hk1⟩
    obtain ⟨p0, p1, p2, p3, p4⟩ := box5 hk1
    go_wp2_with fail
    go_ret
    exact ⟨rfl, ((Kept.refl _ w).alloc _).trans hk1 (fun _ _ f => f)⟩
  rw [h1, h2, h3, h4, h5] at hr
  replace hr : (!((k == 4 || k == 5 || k == 6) && n == 0 || !(k == 4 || k == 5 || k == 6) && k != 19 && n != 0) && (if waitsF k then decide (-1 ≤ t) && decide (t ≤ 1099511627776) else t == 0 && !b)) = r := hr
  have hk : (k = 4 ∨ k = 5 ∨ k = 6) ∨ k = 19 ∨ (k ≠ 4 ∧ k ≠ 5 ∧ k ≠ 6 ∧ k ≠ 19) := by omega
  obtain ⟨v, hv⟩ : ∃ v, waitsF k = v := ⟨_, rfl⟩
  rw [hv] at hr
  have HV := Lib.hid hv; clear hv
  cases hn : (n == 0)
  · have hn' : (n != 0) = true := by rw [bne, hn]; rfl
    rw [hn, hn'] at hr
    rcases hk with hk | rfl | ⟨k4, k5, k6, k19⟩
    · replace hr : (if v then decide (-1 ≤ t) && decide (t ≤ 1099511627776) else t == 0 && !b) = r := by rcases hk with rfl | rfl | rfl <;> exact hr
      cases v
      · cases ht : (t == 0)
        all_goals
          rw [ht] at hr
          rcases hk with rfl | rfl | rfl
          all_goals
            subst hr
            go_enter Try.func26, Try.ntmps26
            go_wp2_with fail
            refine (of_ref _ _ _ HF.out).mono ?_
            rintro e w1 ⟨rfl, hk1⟩
            obtain ⟨p0, p1, p2, p3, p4⟩ := box5 hk1
            go_wp2_with fail
            refine (waits_ref _ _ _ HV.out).mono ?_
            rintro e wx ⟨rfl, rfl⟩
            go_wp2_with fail
            all_goals
              go_ret
              exact ⟨rfl, ((Kept.refl _ w).alloc _).trans hk1 (fun _ _ f => f)⟩
      · cases ht : decide (-1 ≤ t)
        all_goals
          rw [ht] at hr
          rcases hk with rfl | rfl | rfl
          all_goals
            subst hr
            go_enter Try.func26, Try.ntmps26
            go_wp2_with fail
            refine (of_ref _ _ _ HF.out).mono ?_
            rintro e w1 ⟨rfl, hk1⟩
            obtain ⟨p0, p1, p2, p3, p4⟩ := box5 hk1
            go_wp2_with fail
            refine (waits_ref _ _ _ HV.out).mono ?_
            rintro e wx ⟨rfl, rfl⟩
            go_wp2_with fail
            all_goals
              go_ret
              exact ⟨rfl, ((Kept.refl _ w).alloc _).trans hk1 (fun _ _ f => f)⟩
    · replace hr : (if v then decide (-1 ≤ t) && decide (t ≤ 1099511627776) else t == 0 && !b) = r := hr
      cases v
      · cases ht : (t == 0)
        all_goals
          rw [ht] at hr
          subst hr
          go_enter Try.func26, Try.ntmps26
          go_wp2_with fail
          refine (of_ref _ _ _ HF.out).mono ?_
          rintro e w1 ⟨rfl, hk1⟩
          obtain ⟨p0, p1, p2, p3, p4⟩ := box5 hk1
          go_wp2_with fail
          refine (waits_ref _ _ _ HV.out).mono ?_
          rintro e wx ⟨rfl, rfl⟩
          go_wp2_with fail
          all_goals
            go_ret
            exact ⟨rfl, ((Kept.refl _ w).alloc _).trans hk1 (fun _ _ f => f)⟩
      · cases ht : decide (-1 ≤ t)
        all_goals
          rw [ht] at hr
          subst hr
          go_enter Try.func26, Try.ntmps26
          go_wp2_with fail
          refine (of_ref _ _ _ HF.out).mono ?_
          rintro e w1 ⟨rfl, hk1⟩
          obtain ⟨p0, p1, p2, p3, p4⟩ := box5 hk1
          go_wp2_with fail
          refine (waits_ref _ _ _ HV.out).mono ?_
          rintro e wx ⟨rfl, rfl⟩
          go_wp2_with fail
          all_goals
            go_ret
            exact ⟨rfl, ((Kept.refl _ w).alloc _).trans hk1 (fun _ _ f => f)⟩
    · have g4 : (k == 4) = false := beq_eq_false_iff_ne.2 k4
      have g5 : (k == 5) = false := beq_eq_false_iff_ne.2 k5
      have g6 : (k == 6) = false := beq_eq_false_iff_ne.2 k6
      have g19 : (k != 19) = true := bne_iff_ne.2 k19
      rw [g4, g5, g6, g19] at hr
      obtain rfl : false = r := hr
      go_enter Try.func26, Try.ntmps26
      go_wp2_with fail
      refine (of_ref _ _ _ HF.out).mono ?_
      rintro e w1 ⟨rfl, hk1⟩
      obtain ⟨p0, p1, p2, p3, p4⟩ := box5 hk1
      go_wp2_with fail
      go_ret
      exact ⟨rfl, ((Kept.refl _ w).alloc _).trans hk1 (fun _ _ f => f)⟩
  · have hn' : (n != 0) = false := by rw [bne, hn]; rfl
    rw [hn, hn'] at hr
    rcases hk with hk | rfl | ⟨k4, k5, k6, k19⟩
    · obtain rfl : false = r := by rcases hk with rfl | rfl | rfl <;> exact hr
      rcases hk with rfl | rfl | rfl
      all_goals
        go_enter Try.func26, Try.ntmps26
        go_wp2_with fail
        refine (of_ref _ _ _ HF.out).mono ?_
        rintro e w1 ⟨rfl, hk1⟩
        obtain ⟨p0, p1, p2, p3, p4⟩ := box5 hk1
        go_wp2_with fail
        go_ret
        exact ⟨rfl, ((Kept.refl _ w).alloc _).trans hk1 (fun _ _ f => f)⟩
    · replace hr : (if v then decide (-1 ≤ t) && decide (t ≤ 1099511627776) else t == 0 && !b) = r := hr
      cases v
      · cases ht : (t == 0)
        all_goals
          rw [ht] at hr
          subst hr
          go_enter Try.func26, Try.ntmps26
          go_wp2_with fail
          refine (of_ref _ _ _ HF.out).mono ?_
          rintro e w1 ⟨rfl, hk1⟩
          obtain ⟨p0, p1, p2, p3, p4⟩ := box5 hk1
          go_wp2_with fail
          refine (waits_ref _ _ _ HV.out).mono ?_
          rintro e wx ⟨rfl, rfl⟩
          go_wp2_with fail
          all_goals
            go_ret
            exact ⟨rfl, ((Kept.refl _ w).alloc _).trans hk1 (fun _ _ f => f)⟩
      · cases ht : decide (-1 ≤ t)
        all_goals
          rw [ht] at hr
          subst hr
          go_enter Try.func26, Try.ntmps26
          go_wp2_with fail
          refine (of_ref _ _ _ HF.out).mono ?_
          rintro e w1 ⟨rfl, hk1⟩
          obtain ⟨p0, p1, p2, p3, p4⟩ := box5 hk1
          go_wp2_with fail
          refine (waits_ref _ _ _ HV.out).mono ?_
          rintro e wx ⟨rfl, rfl⟩
          go_wp2_with fail
          all_goals
            go_ret
            exact ⟨rfl, ((Kept.refl _ w).alloc _).trans hk1 (fun _ _ f => f)⟩
    · have g4 : (k == 4) = false := beq_eq_false_iff_ne.2 k4
      have g5 : (k == 5) = false := beq_eq_false_iff_ne.2 k5
      have g6 : (k == 6) = false := beq_eq_false_iff_ne.2 k6
      have g19 : (k != 19) = true := bne_iff_ne.2 k19
      rw [g4, g5, g6, g19] at hr
      replace hr : (if v then decide (-1 ≤ t) && decide (t ≤ 1099511627776) else t == 0 && !b) = r := hr
      cases v
      · cases ht : (t == 0)
        all_goals
          rw [ht] at hr
          subst hr
          go_enter Try.func26, Try.ntmps26
          go_wp2_with fail
          refine (of_ref _ _ _ HF.out).mono ?_
          rintro e w1 ⟨rfl, hk1⟩
          obtain ⟨p0, p1, p2, p3, p4⟩ := box5 hk1
          go_wp2_with fail
          refine (waits_ref _ _ _ HV.out).mono ?_
          rintro e wx ⟨rfl, rfl⟩
          go_wp2_with fail
          all_goals
            go_ret
            exact ⟨rfl, ((Kept.refl _ w).alloc _).trans hk1 (fun _ _ f => f)⟩
      · cases ht : decide (-1 ≤ t)
        all_goals
          rw [ht] at hr
          subst hr
          go_enter Try.func26, Try.ntmps26
          go_wp2_with fail
          refine (of_ref _ _ _ HF.out).mono ?_
          rintro e w1 ⟨rfl, hk1⟩
          obtain ⟨p0, p1, p2, p3, p4⟩ := box5 hk1
          go_wp2_with fail
          refine (waits_ref _ _ _ HV.out).mono ?_
          rintro e wx ⟨rfl, rfl⟩
          go_wp2_with fail
          all_goals
            go_ret
            exact ⟨rfl, ((Kept.refl _ w).alloc _).trans hk1 (fun _ _ f => f)⟩

end Go.Proofs.Ytkicpbnphbcdaaa
