/-
  What a step changes: at most one cell, but for new ones.
  Conditions: none; plain mathematics.
-/
import Derived.Test.YtdkableaooaebaaDoorMicRun
namespace Go.Proofs.YtdkableaooaebaaDoor
open Go.RowKit

/-- At most one cell is another, but for new ones. -/
def OneCell (zs zs' : List Int) : Prop := zs.length ≤ zs'.length ∧ ∃ p, ∀ i, i < zs.length → i ≠ p → zs'[i]? = zs[i]?
theorem OneCell.refl (zs : List Int) : OneCell zs zs := ⟨Nat.le_refl _, 0, fun _ _ _ => rfl⟩
theorem OneCell.more {zs zs' zs'' : List Int} (h : OneCell zs zs') (h2 : zs' <+: zs'') : OneCell zs zs'' := by
  obtain ⟨hl, p, hp⟩ := h
  obtain ⟨t, rfl⟩ := h2
  refine ⟨by rw [List.length_append]; omega, p, fun i hi hn => ?_⟩
  rw [List.getElem?_append_left (by omega)]
  exact hp i hi hn
theorem OneCell.of_pre {zs zs' : List Int} (h : zs <+: zs') : OneCell zs zs' := (OneCell.refl zs).more h
theorem OneCell.set (zs : List Int) (p : Nat) (v : Int) : OneCell zs (zs.set p v) := ⟨by rw [List.length_set]; exact Nat.le_refl _, p, fun i _ hn => List.getElem?_set_ne (Ne.symm hn)⟩

theorem val_pre (most now : Int) (self : Nat) (x : Ix) (s : Ms) : s.zs <+: (valM most now self x s).2.zs := by
  unfold valM allocM
  repeat' split
  all_goals first | exact List.prefix_refl _ | exact List.prefix_append _ _
theorem acc_one (x : Ix) (s : Ms) : OneCell s.zs (accM x s).2.zs := by
  unfold accM
  repeat' split
  all_goals first | exact OneCell.refl _ | exact OneCell.set _ _ _
theorem act_pre (most now : Int) (self : Nat) (x : Ix) (s : Ms) (h : ¬ (5 ≤ x.op ∧ x.op ≤ 7)) : s.zs <+: (actM most now self x s).2.zs := by
  unfold actM
  rw [if_neg h]
  unfold parkM unparkM
  have hv := val_pre most now self x s
  repeat' split
  all_goals first | exact List.prefix_refl _ | exact hv
theorem do_pre (most now : Int) (self : Nat) (x : Ix) (s : Ms) (h : ¬ (5 ≤ x.op ∧ x.op ≤ 7)) : s.zs <+: (doM most now self x s).2.zs := by
  have ha := act_pre most now self x s h
  unfold doM jumpM enterM leaveM
  repeat' split
  all_goals first | exact List.prefix_refl _ | exact ha
theorem do_one (most now : Int) (self : Nat) (x : Ix) (s : Ms) : OneCell s.zs (doM most now self x s).2.zs := by
  by_cases h : 5 ≤ x.op ∧ x.op ≤ 7
  · have ha : OneCell s.zs (actM most now self x s).2.zs := by unfold actM; rw [if_pos h]; exact acc_one x s
    unfold doM
    rw [if_neg (by omega), if_neg (by omega), if_neg (by omega)]
    split <;> exact ha
  · exact .of_pre (do_pre most now self x s h)

theorem not_access {x : Ix} (h : isAccess x.op = false) : ¬ (5 ≤ x.op ∧ x.op ≤ 7) := by
  unfold isAccess at h
  rw [Bool.and_eq_false_iff, decide_eq_false_iff_not, decide_eq_false_iff_not] at h
  omega
theorem run_pre (code : List Ix) (most now : Int) (self : Nat) : ∀ (m : Nat) (s : Ms), s.zs <+: (runM code most now self m true s).2.2.zs
  | 0, s => by unfold runM; exact List.prefix_refl _
  | m + 1, s => by
    unfold runM
    split
    · exact List.prefix_refl _
    · rename_i x _
      split
      · exact List.prefix_refl _
      · rename_i hx
        have hd := do_pre most now self x s (not_access (by simpa using hx))
        split
        · exact hd.trans (run_pre code most now self m _)
        · split <;> exact hd
/-- At most one cell is changed by a step, but for new ones. -/
theorem step_one (code : List Ix) (most now : Int) (self : Nat) (s : Ms) : OneCell s.zs (stepM code most now self s).2.2.zs := by
  unfold stepM runM
  split
  · exact OneCell.refl _
  · rename_i x _
    rw [if_neg (by simp)]
    have hd := do_one most now self x s
    split
    · exact hd.more (run_pre code most now self 199 _)
    · split <;> exact hd

/-- What holds behind a step that ran. -/
theorem run_fine {L : Sp} : ∀ (m d : Nat) (b : Bool) (s : Ms), Fine L d s → d + m = 200 → (runM L.code L.most L.now L.self m b s).1 = 0 → ∃ d', Fine L d' (runM L.code L.most L.now L.self m b s).2.2
  | 0, d, b, s, hF, hm, h => by unfold runM at h; exact absurd (show (3 : Int) = 0 from h) (by decide)
  | m + 1, d, b, s, hF, hm, h => by
    unfold runM at h ⊢
    split at h
    · exact absurd (show (3 : Int) = 0 from h) (by decide)
    · rename_i x hx
      split at h
      · rename_i hb
        rw [if_pos hb]
        exact ⟨d, hF⟩
      · rename_i hb
        rw [if_neg hb]
        split at h
        · rename_i h0
          rw [if_pos h0]
          exact run_fine m (d + 1) true _ (fine_next hF (by omega) x h0) (by omega) h
        · rename_i h0
          split at h
          · exact absurd (show (2 : Int) = 0 from h) (by decide)
          · exact absurd h h0
theorem step_fine {L : Sp} {s : Ms} (hF : Fine L 0 s) (h : (stepM L.code L.most L.now L.self s).1 = 0) : ∃ d', Fine L d' (stepM L.code L.most L.now L.self s).2.2 := run_fine 200 0 false s hF rfl h

/-- How many of the first cells differ. -/
def cntD (xs ys : List Int) : Nat → Nat
  | 0 => 0
  | n + 1 => cntD xs ys n + if xs.getD n 0 = ys.getD n 0 then 0 else 1
theorem cntD_le (xs ys : List Int) : ∀ n, cntD xs ys n ≤ n
  | 0 => Nat.le_refl 0
  | n + 1 => by
    unfold cntD
    have := cntD_le xs ys n
    split <;> omega
theorem cntD_one {xs ys : List Int} (h : OneCell xs ys) (n : Nat) (hn : n ≤ xs.length) : cntD xs ys n ≤ 1 := by
  obtain ⟨hl, p, hp⟩ := h
  have key : ∀ m, m ≤ xs.length → cntD xs ys m ≤ if p < m then 1 else 0 := by
    intro m
    induction m with
    | zero => intro _; unfold cntD; omega
    | succ m ih =>
      intro hm
      have := ih (by omega)
      unfold cntD
      by_cases hpm : p = m
      · subst hpm
        rw [if_neg (Nat.lt_irrefl p)] at this
        rw [if_pos (Nat.lt_succ_self p)]
        split <;> omega
      · have e : xs.getD m 0 = ys.getD m 0 := by rw [List.getD_eq_getElem?_getD, List.getD_eq_getElem?_getD, hp m (by omega) (Ne.symm hpm)]
        rw [if_pos e]
        by_cases hlt : p < m
        · rw [if_pos hlt] at this
          rw [if_pos (by omega)]
          omega
        · rw [if_neg hlt] at this
          rw [if_neg (by omega)]
          omega
  have := key n hn
  split at this <;> omega

end Go.Proofs.YtdkableaooaebaaDoor
