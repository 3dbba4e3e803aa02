/-
  The document's answer of layer 10: Can, whole.
  Conditions: no count is beyond two millions; the waiters lie in memory.
-/
import Derived.Test.YthjblniabnjfhaaModRefE
import Derived.Test.YthjblniabnjfhaaModRefF
namespace Go.Proofs.Ythjblniabnjfhaa
open Go.RowKit
set_option linter.unusedSimpArgs false
set_option linter.unusedVariables false

theorem can_19 {x : Th} {t n : Int} (h0 : ¬ t < 0) (h7 : ¬ 7 < t) : canM x t 19 n = (x.kind == 5 && x.offer != -1 && x.offer != t) := by
  by_cases h : x.kind = 5
  · obtain ⟨m, rfl⟩ : ∃ m : Nat, t = m := ⟨t.toNat, by omega⟩
    obtain ⟨e1, _⟩ := may_kind5 (x := x) (n := m) (k := 14) (v := x.offer) (by omega) h (by decide)
    show (5 == x.kind && mayM x (m : Int) 14 x.offer) = _
    rw [e1, h]
    show (true && (x.offer == x.offer && x.offer != -1 && x.offer != (m : Int))) = (true && x.offer != -1 && x.offer != (m : Int))
    rw [beq_self_eq_true x.offer]
    rfl
  · show (5 == x.kind && mayM x t 14 x.offer) = _
    rw [beq_swap 5 x.kind, beq_eq_false_iff_ne.2 h]
    rfl
theorem canR_any (x : Th) (t k o n wt : Int) (br : Bool) (s : Option Addr) (c : Nat) (w : World) (hF : Fit x) (hE : InW w x s) (r : Bool) (hr : canM x t k n = r) :
    Calls Try.prog 18 #[x.agg s c, .int .i64 t, opAgg k o n wt br] w fun e w' => e = .returned (.bool r) ∧ Kept (fun _ => False) w w' := by
  by_cases h0 : t < 0
  · have e : r = false := by rw [← hr]; unfold canM mayM; rw [if_pos (.inl h0), Bool.and_false]
    rw [e]
    exact rcan_t0 x t k o n wt br s c w hE h0
  by_cases h7 : 7 < t
  · have e : r = false := by rw [← hr]; unfold canM mayM; rw [if_pos (.inr (by omega)), Bool.and_false]
    rw [e]
    exact rcan_t7 x t k o n wt br s c w hE h0 h7
  by_cases q1 : k = 1
  · subst q1
    exact rcan_1 x t o n wt br s c w hE h0 h7 (doM x t 1 1) (mayM x t 1 1) r (by rw [← hr, beq_swap x.kind 1]; rfl) (Lib.hid (fun w' hi => rdo_any x t 1 1 s c w' hF hi))
  by_cases q4 : k = 4
  · subst q4
    exact rcan_4 x t o n wt br s c w hE h0 h7 (doM x t 1 n) (mayM x t 1 n) r (by rw [← hr, beq_swap x.kind 2]; rfl) (Lib.hid (fun w' hi => rdo_any x t 1 n s c w' hF hi))
  by_cases q8 : k = 8
  · subst q8
    exact rcan_8 x t o n wt br s c w hE h0 h7 (doM x t 1 0) (mayM x t 1 0) r (by rw [← hr, beq_swap x.kind 3]; rfl) (Lib.hid (fun w' hi => rdo_any x t 1 0 s c w' hF hi))
  by_cases q10 : k = 10
  · subst q10
    exact rcan_10 x t o n wt br s c w hE h0 h7 (doM x t 2 0) (mayM x t 2 0) r (by rw [← hr, beq_swap x.kind 4]; rfl) (Lib.hid (fun w' hi => rdo_any x t 2 0 s c w' hF hi))
  by_cases q13 : k = 13
  · subst q13
    exact rcan_13 x t o n wt br s c w hE h0 h7 (doM x t 1 1) (mayM x t 1 1) r (by rw [← hr, beq_swap x.kind 4]; rfl) (Lib.hid (fun w' hi => rdo_any x t 1 1 s c w' hF hi))
  by_cases q19 : k = 19
  · subst q19
    exact rcan_19 x t o n wt br s c w hE h0 h7 r ((can_19 h0 h7).symm.trans hr)
  have hz : r = (x.kind == 0 && mayM x t 1 0) := by
    by_cases h : x.kind = 0
    · rw [← hr, may_nokind (.inl (by omega) : x.kind < 1 ∨ 5 < x.kind), Bool.and_false]
      unfold canM
      rw [may_nokind (.inl (by omega) : x.kind < 1 ∨ 5 < x.kind), Bool.and_false]
    · have e : awKind k = 0 := by unfold awKind; rw [if_neg q1, if_neg q4, if_neg q8, if_neg q13, if_neg q10, if_neg q19]
      rw [← hr]
      unfold canM
      rw [e, beq_swap 0 x.kind, beq_eq_false_iff_ne.2 h]
      rfl
  exact rcan_no x t k o n wt br s c w hE h0 h7 (beq_eq_false_iff_ne.2 q1) (beq_eq_false_iff_ne.2 q4) (beq_eq_false_iff_ne.2 q8) (beq_eq_false_iff_ne.2 q10) (beq_eq_false_iff_ne.2 q13) (beq_eq_false_iff_ne.2 q19) (doM x t 1 0) (mayM x t 1 0) r hz.symm (Lib.hid (fun w' hi => rdo_any x t 1 0 s c w' hF hi))

end Go.Proofs.Ythjblniabnjfhaa
