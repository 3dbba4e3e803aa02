/-
  A RW that is read by so many: plain mathematics.
  Conditions: the readers are 0 to 7, 200 at most.
-/
import Derived.Test.YthjblniabnjfhaaModBackP
namespace Go.Proofs.Ythjblniabnjfhaa
open Go.RowKit
set_option linter.unusedSimpArgs false
set_option linter.unusedVariables false

/-- How often a thread is among them. -/
def cntR (l : List Int) (j : Nat) : Int := (l.countP (fun a => a == (j : Int)) : Nat)
/-- A RW that these read. -/
def rdT (l : List Int) : Th := ⟨4, 0, -1, 0, cntR l, [], -1, 0⟩
theorem cntR_nil (j : Nat) : cntR [] j = 0 := rfl
theorem cntR_cons (a : Int) (l : List Int) (j : Nat) : cntR (a :: l) j = cntR l j + (if a = (j : Int) then 1 else 0) := by
  unfold cntR
  rw [List.countP_cons]
  by_cases h : a = (j : Int)
  · simp [h]
  · simp [h]
theorem cntR_snoc (a : Int) (l : List Int) (j : Nat) : cntR (l ++ [a]) j = cntR l j + (if a = (j : Int) then 1 else 0) := by
  unfold cntR
  rw [List.countP_append, List.countP_cons, List.countP_nil]
  by_cases h : a = (j : Int)
  · simp [h]
  · simp [h]
theorem cntR_pos (l : List Int) (j : Nat) : 0 ≤ cntR l j := by unfold cntR; omega
theorem cntR_le (l : List Int) (j : Nat) : cntR l j ≤ l.length := by
  unfold cntR
  have := List.countP_le_length (p := fun a => a == (j : Int)) (l := l)
  omega
theorem rd_new : rdT [] = newM 4 0 := rfl
theorem rd_sum : ∀ (l : List Int), (∀ a ∈ l, 0 ≤ a ∧ a ≤ 7) → (rdT l).sum = l.length
  | [], _ => rfl
  | a :: l, h => by
    have ih := rd_sum l (fun b hb => h b (List.mem_cons_of_mem _ hb))
    obtain ⟨a0, a7⟩ := h a List.mem_cons_self
    unfold Th.sum rdT at ih ⊢
    simp only [cntR_cons] at ih ⊢
    simp only [List.length_cons]
    have : a = 0 ∨ a = 1 ∨ a = 2 ∨ a = 3 ∨ a = 4 ∨ a = 5 ∨ a = 6 ∨ a = 7 := by omega
    rcases this with rfl | rfl | rfl | rfl | rfl | rfl | rfl | rfl <;> simp <;> omega
theorem rd_fit {l : List Int} (h : l.length ≤ 200) : Fit (rdT l) where
  n0 := by show (-2000000 : Int) ≤ 0; decide
  n1 := by show (0 : Int) ≤ 2000000; decide
  h0 := by show (-2000000 : Int) ≤ 0; decide
  h1 := by show (0 : Int) ≤ 2000000; decide
  r0 := fun i _ => by have := cntR_pos l i; show -2000000 ≤ cntR l i; omega
  r1 := fun i _ => by have := cntR_le l i; show cntR l i ≤ 2000000; omega
  ws := by show 0 ≤ 200; decide
  o0 := by show (-9223372036854775808 : Int) ≤ -1; decide
  o1 := by show (-1 : Int) ≤ 9223372036854775807; decide
  t0 := fun q h => by cases h
  t1 := fun q h => by cases h
theorem rd_read {l : List Int} {a : Int} (hl : l.length < 200) (h : ∀ b ∈ l, 0 ≤ b ∧ b ≤ 7) (a0 : 0 ≤ a) (a7 : a ≤ 7) : mayM (rdT l) a 2 0 = true ∧ doM (rdT l) a 2 0 = rdT (l ++ [a]) := by
  obtain ⟨m, rfl⟩ : ∃ m : Nat, a = m := ⟨a.toNat, by omega⟩
  have hs := rd_sum l h
  have hm : mayM (rdT l) (m : Int) 2 0 = true := may_of (by omega) (by omega) (by
    show (((0 : Int) == 0 && !othersM (rdT l) (m : Int) && decide ((rdT l).sum < 1000)) || quitM 2 0) = true
    rw [show othersM (rdT l) (m : Int) = false from rfl, decide_eq_true (by rw [hs]; omega)]
    rfl)
  refine ⟨hm, ?_⟩
  rw [do_of hm, does_held (.inr rfl)]
  show ({ rdT l with r := updR (cntR l) m (cntR l m + 1) } : Th) = rdT (l ++ [(m : Int)])
  refine Th.ext8 rfl rfl rfl rfl ?_ rfl rfl rfl
  funext i
  show updR (cntR l) m (cntR l m + 1) i = cntR (l ++ [(m : Int)]) i
  rw [cntR_snoc]
  unfold updR
  by_cases e : i = m
  · subst e; simp
  · have : ¬ ((m : Int) = (i : Int)) := by omega
    simp [e, this]
theorem rd_unread {l : List Int} {a : Int} (a0 : 0 ≤ a) (a7 : a ≤ 7) : mayM (rdT (a :: l)) a 4 0 = true ∧ doM (rdT (a :: l)) a 4 0 = rdT l := by
  obtain ⟨m, rfl⟩ : ∃ m : Nat, a = m := ⟨a.toNat, by omega⟩
  have hc := cntR_cons (m : Int) l m
  have hp := cntR_pos l m
  simp only [if_true] at hc
  have hm : mayM (rdT ((m : Int) :: l)) (m : Int) 4 0 = true := may_of (by omega) (by omega) (by
    show (((0 : Int) == 0 && decide (0 < cntR ((m : Int) :: l) m)) || quitM 4 0) = true
    rw [decide_eq_true (by omega)]
    rfl)
  refine ⟨hm, ?_⟩
  rw [do_of hm, does_held (.inr rfl)]
  show ({ rdT ((m : Int) :: l) with r := updR (cntR ((m : Int) :: l)) m (cntR ((m : Int) :: l) m - 1) } : Th) = rdT l
  refine Th.ext8 rfl rfl rfl rfl ?_ rfl rfl rfl
  funext i
  show updR (cntR ((m : Int) :: l)) m (cntR ((m : Int) :: l) m - 1) i = cntR l i
  unfold updR
  by_cases e : i = m
  · subst e; rw [if_pos rfl, hc]; omega
  · have : ¬ ((m : Int) = (i : Int)) := by omega
    rw [if_neg e, cntR_cons, if_neg this]; omega
theorem rd_can {l : List Int} {t : Int} (h : ∀ b ∈ l, 0 ≤ b ∧ b ≤ 7) (t0 : 0 ≤ t) (t7 : t ≤ 7) (n : Int) : canM (rdT l) t 13 n = decide (l = []) := by
  have hs := rd_sum l h
  unfold canM mayM
  rw [if_neg (by omega)]
  show ((4 : Int) == 4 && (((1 : Int) == 1 && (((-1 : Int) == -1 && (rdT l).sum == 0) || onceM (rdT l) t)) || quitM 1 1)) = _
  have h1 : onceM (rdT l) t = false := by
    unfold onceM rdT
    have : ((-1 : Int) == t) = false := by rw [beq_eq_false_iff_ne]; omega
    rw [this]; rfl
  rw [h1, hs]
  cases l with
  | nil => rfl
  | cons a l =>
    have : (((a :: l).length : Int) == 0) = false := by rw [beq_eq_false_iff_ne]; simp only [List.length_cons]; omega
    rw [this]
    simp [quitM]

end Go.Proofs.Ythjblniabnjfhaa
