/-
  The document's answer of layer 5: of an object, a call, a pick.
  Conditions: none.
-/
import Derived.Test.YtkicpbnphbcdaaaMaysRef
namespace Go.Proofs.Ytkicpbnphbcdaaa
open Go.RowKit

/-- The document's answer says the same of an object, of a call, of a pick. -/
theorem obF_ref (k : Int) (f : Bool) (n : Int) : obF ⟨k, f, n⟩ = (!(decide (k < 1) || decide (5 < k) || decide (n < 0) || decide (1000 < n)) && !(decide (0 < n) && k != 2 && k != 3) && (!f || k == 1 || k == 2 || k == 4)) := by
  rw [Bool.eq_iff_iff]
  unfold obF cntF
  cases f
  all_goals
    simp only [Bool.and_eq_true, Bool.not_eq_true', Bool.or_eq_false_iff, Bool.and_eq_false_iff, Bool.or_eq_true, decide_eq_false_iff_not, beq_iff_eq, bne_eq_false_iff_eq, Bool.not_true, Bool.not_false]
    split
    · simp; omega
    · split
      · simp; omega
      · split
        · simp; omega
        · split
          · simp; omega
          · simp; omega
theorem numF_ref (k o n t : Int) (b : Bool) : numF ⟨k, o, n, t, b⟩ = (!(decide (n < 0) || decide (1000 < n)) && !((k == 4 || k == 5 || k == 6) && n == 0 || !(k == 4 || k == 5 || k == 6) && k != 19 && n != 0)) := by
  rw [Bool.eq_iff_iff]
  unfold numF cntF
  dsimp only
  split
  · simp only [Bool.and_eq_true, Bool.not_eq_true', Bool.or_eq_false_iff, Bool.and_eq_false_iff, Bool.or_eq_true, decide_eq_false_iff_not, decide_eq_true_eq, beq_iff_eq, bne_iff_ne, bne_eq_false_iff_eq, beq_eq_false_iff_ne, Bool.not_eq_false']
    omega
  · split
    · simp only [Bool.and_eq_true, Bool.not_eq_true', Bool.or_eq_false_iff, Bool.and_eq_false_iff, Bool.or_eq_true, decide_eq_false_iff_not, decide_eq_true_eq, beq_iff_eq, bne_eq_false_iff_eq, beq_eq_false_iff_ne, Bool.not_eq_false']
      omega
    · simp only [Bool.and_eq_true, Bool.not_eq_true', Bool.or_eq_false_iff, Bool.and_eq_false_iff, Bool.or_eq_true, decide_eq_false_iff_not, beq_iff_eq, bne_eq_false_iff_eq, beq_eq_false_iff_ne, Bool.not_eq_false']
      omega
theorem clF_ref (m : Nat) (k o n t : Int) (b : Bool) : clF m ⟨k, o, n, t, b⟩ = (!(ofF k == 0 || decide (o < 0) || decide ((m : Int) ≤ o) || decide (n < 0) || decide (1000 < n)) &&
    !((k == 4 || k == 5 || k == 6) && n == 0 || !(k == 4 || k == 5 || k == 6) && k != 19 && n != 0) && (if waitsF k then decide (-1 ≤ t) && decide (t ≤ 1099511627776) else t == 0 && !b)) := by
  unfold clF
  rw [numF_ref, Bool.eq_iff_iff]
  generalize ((k == 4 || k == 5 || k == 6) && n == 0 || !(k == 4 || k == 5 || k == 6) && k != 19 && n != 0) = p
  show (_ && stayF ⟨k, o, n, t, b⟩) = true ↔ _
  unfold stayF
  generalize (if waitsF k then decide (-1 ≤ t) && decide (t ≤ 1099511627776) else t == 0 && !b) = q
  generalize ofF k = s
  cases p <;> cases q <;> simp <;> omega
theorem piF_ref (k n : Int) : piF ⟨k, n⟩ = if k = 2 then decide (0 ≤ n) && decide (n ≤ 1099511627776) else (k == 1 || k == 3 || k == 4) && decide (0 ≤ n) && decide (n ≤ 8) := by
  by_cases h : k = 2
  · subst h; rfl
  · rw [if_neg h]
    unfold piF
    dsimp only
    rw [if_neg (show ¬ k = 2 from h)]
    split
    · rw [show (k == 1 || k == 3 || k == 4) = true from by simp only [Bool.or_eq_true, beq_iff_eq]; omega]; rfl
    · rw [show (k == 1 || k == 3 || k == 4) = false from by simp only [Bool.or_eq_false_iff, beq_eq_false_iff_ne]; omega]; rfl

set_option maxHeartbeats 1000000 in
theorem object_ref (x : Ob) (w : World) (r : Bool) (hr : obF x = r) : Calls Try.prog 25 #[x.agg] w fun e w' => e = .returned (.bool r) ∧ Kept (fun _ => False) w w' := by
  obtain ⟨k, f, n⟩ := x
  rw [obF_ref] at hr
  unfold Ob.agg
  cases h1 : decide (k < 1)
  case true =>
    rw [h1] at hr
    obtain rfl : false = r := hr
    go_enter Try.func25, Try.ntmps25
    go_wp2_with fail
    go_ret
    exact ⟨rfl, (Kept.refl _ w).alloc _⟩
  cases h2 : decide (5 < k)
  case true =>
    rw [h1, h2] at hr
    obtain rfl : false = r := hr
    go_enter Try.func25, Try.ntmps25
    go_wp2_with fail
    go_ret
    exact ⟨rfl, (Kept.refl _ w).alloc _⟩
  cases h3 : decide (n < 0)
  case true =>
    rw [h1, h2, h3] at hr
    obtain rfl : false = r := hr
    go_enter Try.func25, Try.ntmps25
    go_wp2_with fail
    go_ret
    exact ⟨rfl, (Kept.refl _ w).alloc _⟩
  cases h4 : decide (1000 < n)
  case true =>
    rw [h1, h2, h3, h4] at hr
    obtain rfl : false = r := hr
    go_enter Try.func25, Try.ntmps25
    go_wp2_with fail
    go_ret
    exact ⟨rfl, (Kept.refl _ w).alloc _⟩
  rw [h1, h2, h3, h4] at hr
  replace hr : (!(decide (0 < n) && k != 2 && k != 3) && (!f || k == 1 || k == 2 || k == 4)) = r := hr
  have g1 := of_decide_eq_false h1
  have g2 := of_decide_eq_false h2
  have hk : k = 1 ∨ k = 2 ∨ k = 3 ∨ k = 4 ∨ k = 5 := by omega
  clear h1 h2 g1 g2
  cases h5 : decide (0 < n)
  all_goals
    rw [h5] at hr
    cases f
    all_goals
      rcases hk with rfl | rfl | rfl | rfl | rfl
      all_goals
        subst hr
        go_enter Try.func25, Try.ntmps25
        go_wp2_with fail
        go_ret
        exact ⟨rfl, (Kept.refl _ w).alloc _⟩

set_option maxHeartbeats 400000 in
theorem pick_ref (x : Pi) (w : World) (r : Bool) (hr : piF x = r) : Calls Try.prog 27 #[x.agg] w fun e w' => e = .returned (.bool r) ∧ Kept (fun _ => False) w w' := by
  obtain ⟨k, n⟩ := x
  rw [piF_ref] at hr
  unfold Pi.agg
  have hk : k = 2 ∨ (k = 1 ∨ k = 3 ∨ k = 4) ∨ (k ≠ 1 ∧ k ≠ 2 ∧ k ≠ 3 ∧ k ≠ 4) := by omega
  rcases hk with rfl | hk | ⟨k1, k2, k3, k4⟩
  · rw [if_pos rfl] at hr
    cases h2 : decide (0 ≤ n)
    all_goals
      rw [h2] at hr
      subst hr
      go_enter Try.func27, Try.ntmps27
      go_wp2_with fail
      go_ret
      exact ⟨rfl, (Kept.refl _ w).alloc _⟩
  · rw [if_neg (by omega)] at hr
    cases h2 : decide (0 ≤ n)
    all_goals
      rw [h2] at hr
      rcases hk with rfl | rfl | rfl
      all_goals
        subst hr
        go_enter Try.func27, Try.ntmps27
        go_wp2_with fail
        go_ret
        exact ⟨rfl, (Kept.refl _ w).alloc _⟩
  · have g1 : (k == 1) = false := beq_eq_false_iff_ne.2 k1
    have g3 : (k == 3) = false := beq_eq_false_iff_ne.2 k3
    have g4 : (k == 4) = false := beq_eq_false_iff_ne.2 k4
    rw [if_neg k2, g1, g3, g4] at hr
    obtain rfl : false = r := hr
    go_enter Try.func27, Try.ntmps27
    go_wp2_with fail
    go_ret
    exact ⟨rfl, (Kept.refl _ w).alloc _⟩

/-- A block of five cells that stayed. -/
theorem box5 {w w' : World} {a b c d f : Value} {t : TypeId} (hk : Kept (fun _ => False) (w.alloc (.cells #[a, b, c, d, f] t)) w') :
    w'.cell? ⟨w.heap.size, 0, none⟩ = some a ∧ w'.cell? ⟨w.heap.size, 1, none⟩ = some b ∧ w'.cell? ⟨w.heap.size, 2, none⟩ = some c ∧ w'.cell? ⟨w.heap.size, 3, none⟩ = some d ∧ w'.cell? ⟨w.heap.size, 4, none⟩ = some f := by
  have h := (hk.block w.heap.size (by simp) (fun f => f)).trans (heap_alloc_new w _)
  exact ⟨by rw [cell_at w' _ 0 _ _ h]; rfl, by rw [cell_at w' _ 1 _ _ h]; rfl, by rw [cell_at w' _ 2 _ _ h]; rfl, by rw [cell_at w' _ 3 _ _ h]; rfl, by rw [cell_at w' _ 4 _ _ h]; rfl⟩

end Go.Proofs.Ytkicpbnphbcdaaa
