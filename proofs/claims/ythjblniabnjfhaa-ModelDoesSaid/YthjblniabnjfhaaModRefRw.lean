/-
  The document's answer of layer 10: rw, whole.
  Conditions: no count is beyond two millions; the waiters lie in memory.
-/
import Derived.Test.YthjblniabnjfhaaModRefR1
import Derived.Test.YthjblniabnjfhaaModRefR3
import Derived.Test.YthjblniabnjfhaaModRefR2
import Derived.Test.YthjblniabnjfhaaModRefR4
import Derived.Test.YthjblniabnjfhaaModRefR5
import Derived.Test.YthjblniabnjfhaaModRefR6
import Derived.Test.YthjblniabnjfhaaModRefR7
namespace Go.Proofs.Ythjblniabnjfhaa
open Go.RowKit
set_option linter.unusedSimpArgs false
set_option linter.unusedVariables false

set_option maxHeartbeats 4000000 in
set_option maxRecDepth 100000 in
theorem rrw_no (x : Th) (t : Nat) (htl : t < 8) (k v : Int) (s : Option Addr) (c : Nat) (w : World) (hF : Fit x) (hE : InW w x s) (hk0 : k ≠ 1 ∧ k ≠ 3 ∧ k ≠ 2 ∧ k ≠ 4 ∧ k ≠ 5 ∧ k ≠ 6 ∧ k ≠ 7) :
    Calls Try.prog 24 #[x.agg s c, .int .i64 (t : Int), .int .i64 k, .int .i64 v] w (SaidB w s x.ws x false) := by
  obtain ⟨W1, W2, hW1, hW2, s1, s2, hT, hZ, hk, hEl⟩ := ref_box x s c w hE
  obtain ⟨c0, c1, c2, c3, c4, c5, c6, c7, c8, c9, c10, c11, c12, c13, c14⟩ := hT.cells
  have HFIN : Hid (∀ Wa W5 (y : Th) r, Kept (fun k => k = w.heap.size) W2 Wa → Kept (fun k => k = w.heap.size + 1) Wa W5 → y.ws = x.ws → SaidB w s x.ws y r (.returned (.tuple #[y.agg s c, .bool r])) W5) := Lib.hid (fun Wa W5 y r hA h5 hws => fin_said hk hA h5 hws)
  have HT := Lib.hid hT
  have HZ := Lib.hid hZ
  obtain ⟨n1, n3, n2, n4, n5, n6, n7⟩ := hk0
  have HEl := Lib.hid hEl
  clear hk hEl hE hT hZ
  go_enter Try.func24, Try.ntmps24
  go_wp2_with (first | refine wpList_loadT (by rfl) (by rfl) (by rfl) (by assumption) ?_ | (refine wpList_storeT (by rfl) (by rfl) (by rfl) (by rfl) (by assumption) ?_; intro W5 hB5 hk5; obtain ⟨e0, e1, e2, e3, e4, e5, e6, e7, e8, e9, e10, e11, e12, e13, e14⟩ := hB5.cells))
  refine (readsR_any x s c _ hF).mono ?_
  rintro e w3 ⟨rfl, hk3⟩
  have HT3 := Lib.hid (HT.out.kept0 hk3)
  have HZ3 := Lib.hid (HZ.out.kept0 hk3)
  have HFIN3 : Hid (∀ Wa W5 (y : Th) r, Kept (fun k => k = w.heap.size) w3 Wa → Kept (fun k => k = w.heap.size + 1) Wa W5 → y.ws = x.ws → SaidB w s x.ws y r (.returned (.tuple #[y.agg s c, .bool r])) W5) := Lib.hid (fun Wa W5 y r hA h5 hws => HFIN.out Wa W5 y r ((hk3.mono (T := fun k => k = w.heap.size) (fun _ _ f => f.elim)).trans hA (fun _ _ e => e)) h5 hws)
  have HEl3 := Lib.hid (HEl.out.kept0 hk3)
  have HK3 := Lib.hid hk3
  clear hF hk3 HT HZ HFIN HEl c0 c1 c2 c3 c4 c5 c6 c7 c8 c9 c10 c11 c12 c13 c14
  obtain ⟨c0, c1, c2, c3, c4, c5, c6, c7, c8, c9, c10, c11, c12, c13, c14⟩ := HT3.out.cells
  have f1 := HT3.out.free 1
  have f2 := HT3.out.free 2
  have f3 := HT3.out.free 3
  have hTn := HT3.out
  have hZn := HZ3.out
  go_wp2_with (first | refine wpList_loadT (by rfl) (by rfl) (by rfl) (by assumption) ?_ | (refine wpList_storeT (by rfl) (by rfl) (by rfl) (by rfl) (by assumption) ?_; intro W5 hB5 hk5; obtain ⟨e0, e1, e2, e3, e4, e5, e6, e7, e8, e9, e10, e11, e12, e13, e14⟩ := hB5.cells))
  exact bodyPost_ret (v := .tuple #[Th.agg x s c, .bool false]) (by simp [results, Try.results24, go_sem, e0, e1, e2, e3, e4, e5, e6, e7, e8, e9, e10, e11, e12, e13, e14]) rfl (HFIN3.out _ _ _ _ (Kept.one w.heap.size w3) hk5 rfl)

theorem rw5_eq (x : Th) (t : Nat) (v : Int) : rwMayM x (t : Int) 5 v = ((v == 0 && !(x.owner == (t : Int)) && (x.owner != -1 || decide (0 < x.sum))) || (v == 1 && x.owner != -1 && !(x.owner == (t : Int)))) := by
  show ((v == 0 && ((x.owner != -1 && x.owner != (t : Int)) || (x.owner == -1 && decide (0 < x.sum)))) || (v == 1 && (x.owner != -1 && x.owner != (t : Int)))) = _
  by_cases h1 : x.owner = -1
  · have h2 : (x.owner == (t : Int)) = false := beq_eq_false_iff_ne.2 (by omega)
    have h3 : (x.owner == -1) = true := beq_iff_eq.2 h1
    simp only [bne, h2, h3, Bool.not_true, Bool.not_false, Bool.false_and, Bool.true_and, Bool.false_or, Bool.and_true, Bool.and_false]
  · have h3 : (x.owner == -1) = false := beq_eq_false_iff_ne.2 h1
    simp only [bne, h3, Bool.not_true, Bool.not_false, Bool.false_and, Bool.true_and, Bool.false_or, Bool.or_false, Bool.and_true, Bool.true_or]

theorem rrw_any (x : Th) (t : Nat) (htl : t < 8) (k v : Int) (s : Option Addr) (c : Nat) (w : World) (hF : Fit x) (hE : InW w x s) (hkd : (x.kind == 1) = false) :
    Calls Try.prog 24 #[x.agg s c, .int .i64 (t : Int), .int .i64 k, .int .i64 v] w (SaidB w s x.ws (if (rwMayM x (t : Int) k v) = true then heldM x (t : Int) k v else x) (rwMayM x (t : Int) k v)) := by
  have hc : k = 1 ∨ k = 3 ∨ k = 2 ∨ k = 4 ∨ k = 5 ∨ k = 6 ∨ k = 7 ∨ (k ≠ 1 ∧ k ≠ 3 ∧ k ≠ 2 ∧ k ≠ 4 ∧ k ≠ 5 ∧ k ≠ 6 ∧ k ≠ 7) := by omega
  rcases hc with rfl | rfl | rfl | rfl | rfl | rfl | rfl | hk0
  · exact rrw_1 x t htl v s c w hF hE hkd
  · exact rrw_3 x t htl v s c w hF hE hkd
  · exact rrw_2 x t htl v s c w hF hE hkd
  · exact rrw_4 x t htl v s c w hF hE hkd
  · rw [rw5_eq x t v]
    exact rrw_5 x t htl v s c w hF hE hkd
  · exact rrw_6 x t htl v s c w hF hE hkd
  · exact rrw_7 x t htl v s c w hF hE hkd
  · have e : rwMayM x (t : Int) k v = false := by obtain ⟨n1, n3, n2, n4, n5, n6, n7⟩ := hk0; simp only [rwMayM, if_neg n1, if_neg n3, if_neg n2, if_neg n4, if_neg n5, if_neg n6, if_neg n7]
    rw [e, if_neg Bool.false_ne_true]
    exact rrw_no x t htl k v s c w hF hE hk0

end Go.Proofs.Ythjblniabnjfhaa
