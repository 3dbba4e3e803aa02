/-
  The document's answer of layer 10: lock, whole.
  Conditions: no count is beyond two millions; the waiters lie in memory.
-/
import Derived.Test.YthjblniabnjfhaaModRefL
import Derived.Test.YthjblniabnjfhaaModRefM
import Derived.Test.YthjblniabnjfhaaModRefN
import Derived.Test.YthjblniabnjfhaaModRefO
namespace Go.Proofs.Ythjblniabnjfhaa
open Go.RowKit
set_option linter.unusedSimpArgs false
set_option linter.unusedVariables false

theorem rlock_any (x : Th) (t k v : Int) (s : Option Addr) (c : Nat) (w : World) (hF : Fit x) (hE : InW w x s) (ht0 : 0 ≤ t) (hkd : (x.kind == 1) = true) :
    Calls Try.prog 22 #[x.agg s c, .int .i64 t, .int .i64 k, .int .i64 v] w (SaidB w s x.ws (if (lockMayM x t k v) = true then heldM x t k v else x) (lockMayM x t k v)) := by
  have hc : k = 1 ∨ k = 3 ∨ k = 5 ∨ k = 6 ∨ k = 7 ∨ k = 10 ∨ k = 11 ∨ k = 12 ∨ k = 13 ∨ (k ≠ 1 ∧ k ≠ 3 ∧ k ≠ 5 ∧ k ≠ 6 ∧ k ≠ 7 ∧ k ≠ 10 ∧ k ≠ 11 ∧ k ≠ 12 ∧ k ≠ 13) := by omega
  rcases hc with rfl | rfl | rfl | rfl | rfl | rfl | rfl | rfl | rfl | hk0
  · exact rlock_1 x t v s c w hF hE ht0 hkd
  · exact rlock_3 x t v s c w hF hE ht0 hkd
  · exact rlock_5 x t v s c w hF hE ht0 hkd
  · exact rlock_6 x t v s c w hF hE ht0 hkd
  · exact rlock_7 x t v s c w hF hE ht0 hkd
  · exact rlock_10 x t v s c w hF hE ht0 hkd
  · exact rlock_11 x t v s c w hF hE ht0 hkd
  · exact rlock_12 x t v s c w hF hE ht0 hkd
  · exact rlock_13 x t v s c w hF hE ht0 hkd
  · have e : lockMayM x t k v = false := by obtain ⟨n1, n3, n5, n6, n7, n10, n11, n12, n13⟩ := hk0; simp only [lockMayM, if_neg n1, if_neg n3, if_neg n5, if_neg n6, if_neg n7, if_neg n10, if_neg n11, if_neg n12, if_neg n13]
    rw [e, if_neg Bool.false_ne_true]
    exact rlock_no x t k v s c w hF hE hk0

end Go.Proofs.Ythjblniabnjfhaa
