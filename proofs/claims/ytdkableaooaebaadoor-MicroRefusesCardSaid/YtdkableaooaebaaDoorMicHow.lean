/-
  What comes of a step, and rows of frames that are all 0.
  Conditions: none.
-/
import Derived.Test.YtdkableaooaebaaDoorMicUp
namespace Go.Proofs.YtdkableaooaebaaDoor
open Go.RowKit

theorem bitI_in (b : Bool) : 0 ≤ bitI b ∧ bitI b ≤ 1 := by cases b <;> exact ⟨by decide, by decide⟩
theorem acc_how (x : Ix) (s : Ms) : 0 ≤ (accM x s).1 ∧ (accM x s).1 ≤ 3 := by
  unfold accM
  repeat' split
  all_goals first | exact ⟨Int.le_refl 0, (by decide : (0 : Int) ≤ 3)⟩ | exact ⟨(by decide : (0 : Int) ≤ 3), Int.le_refl 3⟩
theorem act_how (most now : Int) (self : Nat) (x : Ix) (s : Ms) : 0 ≤ (actM most now self x s).1 ∧ (actM most now self x s).1 ≤ 3 := by
  unfold actM parkM unparkM
  have ha := acc_how x s
  repeat' split
  all_goals first
    | exact ha
    | exact ⟨Int.le_refl 0, (by decide : (0 : Int) ≤ 3)⟩
    | exact ⟨(by decide : (0 : Int) ≤ 3), Int.le_refl 3⟩
    | exact ⟨(by decide : (0 : Int) ≤ 2), (by decide : (2 : Int) ≤ 3)⟩
    | exact ⟨(bitI_in _).1, Int.le_trans (bitI_in _).2 (by decide)⟩
theorem do_how (most now : Int) (self : Nat) (x : Ix) (s : Ms) : 0 ≤ (doM most now self x s).1 ∧ (doM most now self x s).1 ≤ 3 := by
  unfold doM enterM leaveM
  have ha := act_how most now self x s
  repeat' split
  all_goals first
    | exact ha
    | exact ⟨Int.le_refl 0, (by decide : (0 : Int) ≤ 3)⟩
    | exact ⟨(by decide : (0 : Int) ≤ 3), Int.le_refl 3⟩
theorem run_how (code : List Ix) (most now : Int) (self : Nat) : ∀ (m : Nat) (b : Bool) (s : Ms), 0 ≤ (runM code most now self m b s).1 ∧ (runM code most now self m b s).1 ≤ 3
  | 0, b, s => by unfold runM; exact ⟨(by decide : (0 : Int) ≤ 3), Int.le_refl 3⟩
  | m + 1, b, s => by
    unfold runM
    split
    · exact ⟨(by decide : (0 : Int) ≤ 3), Int.le_refl 3⟩
    · rename_i x _
      split
      · exact ⟨Int.le_refl 0, (by decide : (0 : Int) ≤ 3)⟩
      · split
        · exact run_how code most now self m true _
        · split
          · exact ⟨(by decide : (0 : Int) ≤ 2), (by decide : (2 : Int) ≤ 3)⟩
          · exact do_how most now self x s

def zeroF : Fr := ⟨0, fun _ => 0⟩
theorem made_frames (n : Nat) : (madeCells #[.int .i64 0, .int .i64 0, .int .i64 0, .int .i64 0, .int .i64 0, .int .i64 0, .int .i64 0, .int .i64 0, .int .i64 0, .int .i64 0, .int .i64 0, .int .i64 0, .int .i64 0, .int .i64 0, .int .i64 0, .int .i64 0, .int .i64 0] (n * 17)).toList = flat Fr.cells (List.replicate n zeroF) := by
  apply List.ext_getElem?
  intro k
  have hl := flat_len Fr.len (List.replicate n zeroF)
  rw [List.length_replicate] at hl
  by_cases hk : k < n * 17
  · have h1 : (List.replicate n zeroF)[k / 17]? = some zeroF := by rw [List.getElem?_replicate]; rw [if_pos (by omega)]
    have h2 := flat_at Fr.len (List.replicate n zeroF) (k / 17) (k % 17) zeroF h1 (by omega)
    rw [show k / 17 * 17 + k % 17 = k from by omega] at h2
    rw [h2]
    have h3 : k % 17 < 17 := by omega
    simp only [madeCells]
    simp [hk]
    generalize k % 17 = j at *
    have hj : j = 0 ∨ j = 1 ∨ j = 2 ∨ j = 3 ∨ j = 4 ∨ j = 5 ∨ j = 6 ∨ j = 7 ∨ j = 8 ∨ j = 9 ∨ j = 10 ∨ j = 11 ∨ j = 12 ∨ j = 13 ∨ j = 14 ∨ j = 15 ∨ j = 16 := by omega
    rcases hj with rfl | rfl | rfl | rfl | rfl | rfl | rfl | rfl | rfl | rfl | rfl | rfl | rfl | rfl | rfl | rfl | rfl <;> rfl
  · rw [List.getElem?_eq_none (by simp [size_madeCells]; omega), List.getElem?_eq_none (by omega)]

end Go.Proofs.YtdkableaooaebaaDoor
