/-
  The document's answer of layer 10: Do, whole.
  Conditions: no count is beyond two millions; the waiters lie in memory.
-/
import Derived.Test.YthjblniabnjfhaaModRefB
import Derived.Test.YthjblniabnjfhaaModRefRw
import Derived.Test.YthjblniabnjfhaaModRefP
import Derived.Test.YthjblniabnjfhaaModRefDa
import Derived.Test.YthjblniabnjfhaaModRefDb
import Derived.Test.YthjblniabnjfhaaModRefDc
namespace Go.Proofs.Ythjblniabnjfhaa
open Go.RowKit
set_option linter.unusedSimpArgs false
set_option linter.unusedVariables false

theorem may_17 {x : Th} {n : Nat} (hn : n < 8) (h1 : ¬ x.kind < 1) (h5 : ¬ 5 < x.kind) (v : Int) : mayM x (n : Int) 17 v = (v == 0) ∧ doM x (n : Int) 17 v = x := by
  have hk : x.kind = 1 ∨ x.kind = 2 ∨ x.kind = 3 ∨ x.kind = 4 ∨ x.kind = 5 := by omega
  have hm : mayM x (n : Int) 17 v = (v == 0) := by
    unfold mayM mayInM
    rw [if_neg (by omega)]
    rcases hk with h | h | h | h | h <;> rw [h] <;> rfl
  refine ⟨hm, ?_⟩
  have hd : doesM x (n : Int) 17 v = x := by
    unfold doesM
    rcases hk with h | h | h | h | h <;> rw [h] <;> rfl
  unfold doM
  rw [hd]
  split <;> rfl
theorem quit_no {k v : Int} (h : k ≠ 17) : quitM k v = false := by unfold quitM; rw [beq_eq_false_iff_ne.2 h]; rfl
theorem may_kind1 {x : Th} {n : Nat} {k v : Int} (hn : n < 8) (h : x.kind = 1) (h17 : k ≠ 17) : mayM x (n : Int) k v = lockMayM x (n : Int) k v ∧ doM x (n : Int) k v = (if (lockMayM x (n : Int) k v) = true then heldM x (n : Int) k v else x) := by
  have hm : mayM x (n : Int) k v = lockMayM x (n : Int) k v := by
    unfold mayM mayInM
    rw [if_neg (by omega), h]
    show (lockMayM x (n : Int) k v || quitM k v) = _
    rw [quit_no h17, Bool.or_false]
  refine ⟨hm, ?_⟩
  unfold doM
  rw [hm, show doesM x (n : Int) k v = heldM x (n : Int) k v from by unfold doesM; rw [h]; rfl]
theorem may_kind2 {x : Th} {n : Nat} {k v : Int} (hn : n < 8) (h : x.kind = 2) (h17 : k ≠ 17) : mayM x (n : Int) k v = semaMayM x.n k v ∧ doM x (n : Int) k v = (if (semaMayM x.n k v) = true then countM x k v else x) := by
  have hm : mayM x (n : Int) k v = semaMayM x.n k v := by
    unfold mayM mayInM
    rw [if_neg (by omega), h]
    show (semaMayM x.n k v || quitM k v) = _
    rw [quit_no h17, Bool.or_false]
  refine ⟨hm, ?_⟩
  unfold doM
  rw [hm, show doesM x (n : Int) k v = countM x k v from by unfold doesM; rw [h]; rfl]
theorem may_kind3 {x : Th} {n : Nat} {k v : Int} (hn : n < 8) (h : x.kind = 3) (h17 : k ≠ 17) : mayM x (n : Int) k v = latchMayM x.n k v ∧ doM x (n : Int) k v = (if (latchMayM x.n k v) = true then countM x k v else x) := by
  have hm : mayM x (n : Int) k v = latchMayM x.n k v := by
    unfold mayM mayInM
    rw [if_neg (by omega), h]
    show (latchMayM x.n k v || quitM k v) = _
    rw [quit_no h17, Bool.or_false]
  refine ⟨hm, ?_⟩
  unfold doM
  rw [hm, show doesM x (n : Int) k v = countM x k v from by unfold doesM; rw [h]; rfl]
theorem may_kind4 {x : Th} {n : Nat} {k v : Int} (hn : n < 8) (h : x.kind = 4) (h17 : k ≠ 17) : mayM x (n : Int) k v = rwMayM x (n : Int) k v ∧ doM x (n : Int) k v = (if (rwMayM x (n : Int) k v) = true then heldM x (n : Int) k v else x) := by
  have hm : mayM x (n : Int) k v = rwMayM x (n : Int) k v := by
    unfold mayM mayInM
    rw [if_neg (by omega), h]
    show (rwMayM x (n : Int) k v || quitM k v) = _
    rw [quit_no h17, Bool.or_false]
  refine ⟨hm, ?_⟩
  unfold doM
  rw [hm, show doesM x (n : Int) k v = heldM x (n : Int) k v from by unfold doesM; rw [h]; rfl]
theorem may_kind5 {x : Th} {n : Nat} {k v : Int} (hn : n < 8) (h : x.kind = 5) (h17 : k ≠ 17) : mayM x (n : Int) k v = swapMayM x (n : Int) k v ∧ doM x (n : Int) k v = (if (swapMayM x (n : Int) k v) = true then swapM x (n : Int) k v else x) := by
  have hm : mayM x (n : Int) k v = swapMayM x (n : Int) k v := by
    unfold mayM mayInM
    rw [if_neg (by omega), h]
    show (swapMayM x (n : Int) k v || quitM k v) = _
    rw [quit_no h17, Bool.or_false]
  refine ⟨hm, ?_⟩
  unfold doM
  rw [hm, show doesM x (n : Int) k v = swapM x (n : Int) k v from by unfold doesM; rw [h]; rfl]
theorem may_nokind {x : Th} {t k v : Int} (h : x.kind < 1 ∨ 5 < x.kind) : mayM x t k v = false := by
  unfold mayM mayInM
  rw [beq_eq_false_iff_ne.2 (by omega : x.kind ≠ 1), beq_eq_false_iff_ne.2 (by omega : x.kind ≠ 2), beq_eq_false_iff_ne.2 (by omega : x.kind ≠ 3), beq_eq_false_iff_ne.2 (by omega : x.kind ≠ 4), beq_eq_false_iff_ne.2 (by omega : x.kind ≠ 5)]
  split <;> rfl
theorem do_no {x : Th} {t k v : Int} (h : mayM x t k v = false) : doM x t k v = x := by unfold doM; rw [h]; rfl

theorem rdo_any (x : Th) (t k v : Int) (s : Option Addr) (c : Nat) (w : World) (hF : Fit x) (hE : InW w x s) :
    Calls Try.prog 15 #[x.agg s c, .int .i64 t, .agg #[.int .i64 k, .int .i64 v]] w (SaidB w s x.ws (doM x t k v) (mayM x t k v)) := by
  by_cases h0 : t < 0
  · have e : mayM x t k v = false := by unfold mayM; rw [if_pos (.inl h0)]
    rw [do_no e, e]
    exact rdo_t0 x t k v s c w hE h0
  by_cases h7 : 7 < t
  · have e : mayM x t k v = false := by unfold mayM; rw [if_pos (.inr (by omega))]
    rw [do_no e, e]
    exact rdo_t7 x t k v s c w hE h0 h7
  by_cases k1 : x.kind < 1
  · have e : mayM x t k v = false := may_nokind (.inl k1)
    rw [do_no e, e]
    exact rdo_k1 x t k v s c w hE h0 h7 k1
  by_cases k5 : 5 < x.kind
  · have e : mayM x t k v = false := may_nokind (.inr k5)
    rw [do_no e, e]
    exact rdo_k5 x t k v s c w hE h0 h7 k1 k5
  obtain ⟨n, rfl⟩ : ∃ n : Nat, t = n := ⟨t.toNat, by omega⟩
  have hn : n < 8 := by omega
  by_cases h17 : k = 17
  · subst h17
    obtain ⟨e1, e2⟩ := may_17 (v := v) hn k1 k5
    rw [e1, e2]
    exact rdo_17 x n v s c w hE h0 h7 k1 k5
  have hb : (k == 17) = false := beq_eq_false_iff_ne.2 h17
  have hk : x.kind = 1 ∨ x.kind = 2 ∨ x.kind = 3 ∨ x.kind = 4 ∨ x.kind = 5 := by omega
  rcases hk with h | h | h | h | h
  · obtain ⟨e1, e2⟩ := may_kind1 (v := v) hn h h17
    rw [e1, e2]
    exact rdo_1 x n k v s c w hE h0 h7 k1 k5 hb (by rw [h]; rfl) (by rw [h]; rfl) (by rw [h]; rfl) (by rw [h]; rfl) _ _ (Lib.hid (fun w' hi => rlock_any x n k v s c w' hF hi (by omega) (by rw [h]; rfl)))
  · obtain ⟨e1, e2⟩ := may_kind2 (v := v) hn h h17
    rw [e1, e2]
    exact rdo_2 x n k v s c w hE h0 h7 k1 k5 hb (by rw [h]; rfl) (by rw [h]; rfl) (by rw [h]; rfl) (by rw [h]; rfl) _ _ (Lib.hid (fun w' hi => rsema_any x k v s c w' hF hi))
  · obtain ⟨e1, e2⟩ := may_kind3 (v := v) hn h h17
    rw [e1, e2]
    by_cases q1 : k = 1
    · subst q1
      have h2 := rdo_3_1 x n v s c w hF hE h0 h7 k1 k5 (by rw [h]; rfl) (by rw [h]; rfl) (by rw [h]; rfl) (by rw [h]; rfl)
      have h3 : countM x 1 v = { x with n := x.n - v } := rfl
      by_cases hm : latchMayM x.n 1 v = true
      · rw [if_pos hm, hm]
        have hv : v = 0 := by
          have : (v == 0 && x.n == 0) = true := hm
          rw [Bool.and_eq_true] at this
          exact beq_iff_eq.1 this.1
        have hx : countM x 1 v = x := by rw [h3, hv, Int.sub_zero]
        rw [hx]
        have : (v == 0 && x.n == 0) = true := hm
        rw [this] at h2
        exact h2
      · have hm2 : latchMayM x.n 1 v = false := by simpa using hm
        have : (v == 0 && x.n == 0) = false := hm2
        rw [this] at h2
        rw [if_neg hm, hm2]
        exact h2
    by_cases q8 : k = 8
    · subst q8
      exact rdo_3_8 x n v s c w hF hE h0 h7 k1 k5 (by rw [h]; rfl) (by rw [h]; rfl) (by rw [h]; rfl) (by rw [h]; rfl)
    have hm : latchMayM x.n k v = false := by unfold latchMayM; rw [if_neg q1, if_neg q8]
    rw [hm, if_neg Bool.false_ne_true]
    exact rdo_3_no x n k v s c w hE h0 h7 k1 k5 hb (beq_eq_false_iff_ne.2 q1) (beq_eq_false_iff_ne.2 q8) (by rw [h]; rfl) (by rw [h]; rfl) (by rw [h]; rfl) (by rw [h]; rfl)
  · obtain ⟨e1, e2⟩ := may_kind4 (v := v) hn h h17
    rw [e1, e2]
    exact rdo_4 x n k v s c w hE h0 h7 k1 k5 hb (by rw [h]; rfl) (by rw [h]; rfl) (by rw [h]; rfl) (by rw [h]; rfl) _ _ (Lib.hid (fun w' hi => rrw_any x n hn k v s c w' hF hi (by rw [h]; rfl)))
  · obtain ⟨e1, e2⟩ := may_kind5 (v := v) hn h h17
    rw [e1, e2]
    exact rdo_5 x n k v s c w hE h0 h7 k1 k5 hb (by rw [h]; rfl) (by rw [h]; rfl) (by rw [h]; rfl) (by rw [h]; rfl) _ _ (Lib.hid (fun w' hi => rswap_any x n k v s c w' hF hi))

end Go.Proofs.Ythjblniabnjfhaa
