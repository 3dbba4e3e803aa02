/-
  What the program prints, and what may be, is what the document says: plain mathematics.
  Conditions: none.
-/
import Derived.Test.YtibgkhfadlgonaaGreatDoorInsPrint
namespace Go.Proofs.YtibgkhfadlgonaaGreatDoor

theorem has_same : ∀ i, i < 22 → ∀ c ∈ [65, 66, 67, 78, 84], hasL c ((i + 1 : Nat) : Int) = hasC (i + 1) (UInt8.ofNat c) := by decide +kernel
theorem goes_op : ∀ i, i < 22 → hasC (i + 1) 84 = (decide (8 ≤ i + 1) && decide (i + 1 ≤ 12)) := by decide +kernel
theorem goes_n : ∀ i, i < 22 → hasC (i + 1) 84 = true → hasC (i + 1) 78 = false := by decide +kernel
theorem word_same : ∀ i, i < 22 → wordAt (i + 1) = (specL ((i + 1 : Nat) : Int)).1 ∧ hasAt (i + 1) = (specL ((i + 1 : Nat) : Int)).2 := by decide +kernel

theorem may_same (op a b c n : Int) : mayP op a b c n = mayL op a b c n := by
  by_cases hop : 1 ≤ op ∧ op ≤ 22
  · obtain ⟨j, hj⟩ : ∃ j : Nat, op = ((j + 1 : Nat) : Int) := ⟨(op - 1).toNat, by omega⟩
    have hj22 : j < 22 := by omega
    subst hj
    unfold mayP mayL
    have e65 : hasL 65 ((j + 1 : Nat) : Int) = hasC (j + 1) 65 := has_same j hj22 65 (by decide)
    have e66 : hasL 66 ((j + 1 : Nat) : Int) = hasC (j + 1) 66 := has_same j hj22 66 (by decide)
    have e67 : hasL 67 ((j + 1 : Nat) : Int) = hasC (j + 1) 67 := has_same j hj22 67 (by decide)
    have e78 : hasL 78 ((j + 1 : Nat) : Int) = hasC (j + 1) 78 := has_same j hj22 78 (by decide)
    have e84 : hasL 84 ((j + 1 : Nat) : Int) = hasC (j + 1) 84 := has_same j hj22 84 (by decide)
    rw [e65, e66, e67, e78, e84, Int.toNat_natCast]
    have h7 : j + 1 = 7 → hasC (j + 1) 65 = true := by intro h; rw [h]; decide
    unfold fitsAt regOk numOk small behindAt
    rw [Bool.eq_iff_iff]
    revert h7
    generalize hasC (j + 1) 65 = A
    generalize hasC (j + 1) 66 = B
    generalize hasC (j + 1) 67 = C
    generalize hasC (j + 1) 78 = N
    generalize hasC (j + 1) 84 = T
    intro h7
    cases A <;> cases B <;> cases C <;> cases N <;> cases T <;>
      simp only [Bool.and_eq_true, Bool.or_eq_true, decide_eq_true_eq, beq_iff_eq, bne_iff_ne, ne_eq, if_true, if_false, Bool.false_eq_true, false_or, true_or, and_true, imp_false] at h7 ⊢ <;> first | (split <;> omega) | omega
  · have e1 : (decide (1 ≤ op) && decide (op ≤ 22)) = false := by
      rw [Bool.and_eq_false_iff, decide_eq_false_iff_not, decide_eq_false_iff_not]; omega
    unfold mayP mayL
    rw [e1]
    rfl

theorem fits_goes {j : Nat} (hj : j < 22) {a b c n : Int} : fitsAt (j + 1) a b c n = (fitsAt (j + 1) a b c (if hasC (j + 1) 84 then 0 else n) && (!hasC (j + 1) 84 || n == 0)) := by
  cases hT : hasC (j + 1) 84
  · simp
  · have hN := goes_n j hj hT
    unfold fitsAt numOk
    rw [hN]
    simp
theorem print_same (x : Ln) : printP x = if fitsL x = true then some (printL x) else none := by
  by_cases hz : x = zeroLn
  · subst hz
    decide
  unfold printP
  rw [if_neg hz]
  by_cases hl : x = { zeroLn with label := x.label } ∧ isName x.label = true
  · have h0 : x.label ≠ [] := by intro e; rw [e] at hl; exact absurd hl.2 (by decide)
    have hf : fitsL x = true := by
      unfold fitsL
      rw [if_pos h0, hl.2, Bool.true_and, decide_eq_true_eq]
      obtain ⟨h1, _⟩ := hl
      rw [h1]
      rfl
    rw [if_pos hl, hf, if_pos rfl]
    unfold printL
    rw [if_pos h0]
  rw [if_neg hl]
  by_cases h0 : x.label = []
  case neg =>
    have hf : fitsL x = false := by
      unfold fitsL
      rw [if_pos h0]
      cases hn : isName x.label
      · rfl
      · rw [Bool.true_and, decide_eq_false_iff_not]
        intro e
        refine hl ⟨?_, hn⟩
        obtain ⟨l, op, a, b, c, n, t⟩ := x
        simp only [zeroLn, Ln.mk.injEq, true_and] at e ⊢
        exact e
    rw [if_neg (fun e => h0 e.2.2.1), hf, if_neg (by simp)]
  by_cases hop : 1 ≤ x.op ∧ x.op ≤ 22
  case neg =>
    rw [if_neg (fun e => hop ⟨e.1, e.2.1⟩)]
    have hf : fitsL x = false := by
      unfold fitsL
      rw [if_neg (by simp [h0])]
      by_cases h00 : x.op = 0
      · rw [if_pos h00, decide_eq_false hz]
      · rw [if_neg h00]
        have e1 : (decide (1 ≤ x.op) && decide (x.op ≤ 22)) = false := by
          rw [Bool.and_eq_false_iff, decide_eq_false_iff_not, decide_eq_false_iff_not]; omega
        unfold mayL
        rw [e1]
        rfl
    rw [hf, if_neg (by simp)]
  obtain ⟨j, hj⟩ : ∃ j : Nat, x.op = ((j + 1 : Nat) : Int) := ⟨(x.op - 1).toNat, by omega⟩
  have hj22 : j < 22 := by omega
  have hto : x.op.toNat = j + 1 := by omega
  have hmay := may_same x.op x.a x.b x.c x.n
  have hgo := goes_op j hj22
  obtain ⟨hw, hh⟩ := word_same j hj22
  have hf : fitsL x = (fitsAt (j + 1) x.a x.b x.c x.n && leadsAt (j + 1) x.target) := by
    unfold fitsL
    rw [if_neg (by simp [h0]), if_neg (by omega), ← hmay]
    unfold mayP leadsAt
    rw [decide_eq_true hop.1, decide_eq_true hop.2, hto, fits_goes hj22 (n := x.n), Bool.true_and, Bool.true_and]
    cases hT : hasC (j + 1) 84
    · have hno : ¬ (8 ≤ x.op ∧ x.op ≤ 12) := by
        rw [hT] at hgo
        rintro ⟨q1, q2⟩
        rw [decide_eq_true (by omega), decide_eq_true (by omega)] at hgo
        cases hgo
      rw [if_neg hno]
      simp
    · have hyes : 8 ≤ x.op ∧ x.op ≤ 12 := by
        rw [hT] at hgo
        have := hgo.symm
        simp only [Bool.and_eq_true, decide_eq_true_eq] at this
        omega
      rw [if_pos hyes]
      simp [Bool.and_assoc]
  rw [hf, hto]
  cases hA : fitsAt (j + 1) x.a x.b x.c x.n
  · rw [if_neg (by rintro ⟨_, _, _, h, _⟩; cases h)]; rfl
  · cases hB : leadsAt (j + 1) x.target
    · rw [if_neg (by rintro ⟨_, _, _, _, h⟩; cases h)]; rfl
    · rw [if_pos ⟨hop.1, hop.2, h0, rfl, rfl⟩, if_pos (show (true && true) = true from rfl)]
      unfold printL
      rw [if_neg (by simp [h0]), if_neg (by omega), hw, hh, ← hj]

end Go.Proofs.YtibgkhfadlgonaaGreatDoor
