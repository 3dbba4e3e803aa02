/-
  The document's answer of layer 10: lock's marks that call nothing, or place, or freed.
  Conditions: no count is beyond two millions; the waiters lie in memory.
-/
import Derived.Test.YthjblniabnjfhaaModRefQ
namespace Go.Proofs.Ythjblniabnjfhaa
open Go.RowKit
set_option linter.unusedSimpArgs false
set_option linter.unusedVariables false

set_option maxHeartbeats 4000000 in
set_option maxRecDepth 100000 in
theorem rlock_1 (x : Th) (t v : Int) (s : Option Addr) (c : Nat) (w : World) (hF : Fit x) (hE : InW w x s) (ht0 : 0 ≤ t) (hkd : (x.kind == 1) = true) :
    Calls Try.prog 22 #[x.agg s c, .int .i64 t, .int .i64 1, .int .i64 v] w (SaidB w s x.ws (if ((x.owner == -1 && decide (1 ≤ v) && decide (v ≤ 1000) && !waitsM x.ws t) || (v == 1 && (x.owner == t && decide (x.holds < 1000)))) = true then takeM x t v else x) ((x.owner == -1 && decide (1 ≤ v) && decide (v ≤ 1000) && !waitsM x.ws t) || (v == 1 && (x.owner == t && decide (x.holds < 1000))))) := by
  have b0 : -2000001 ≤ x.holds + 1 := by have := hF.h0; omega
  have b1 : x.holds + 1 ≤ 2000001 := by have := hF.h1; omega
  have hl := hF.ws
  obtain ⟨W1, W2, hW1, hW2, s1, s2, hT, hZ, hk, hEl⟩ := ref_box x s c w hE
  obtain ⟨c0, c1, c2, c3, c4, c5, c6, c7, c8, c9, c10, c11, c12, c13, c14⟩ := hT.cells
  have f2 := hT.free 2
  have f3 := hT.free 3
  have HT := Lib.hid hT
  have HZ := Lib.hid hZ
  have HK := Lib.hid hk
  have HO := Lib.hid (Off.of hEl)
  have HF := Lib.hid hF
  clear hk hEl hE hT hZ hF
  obtain ⟨mb, hmm⟩ : ∃ mb, ((x.owner == -1 && decide (1 ≤ v) && decide (v ≤ 1000) && !waitsM x.ws t) || (v == 1 && (x.owner == t && decide (x.holds < 1000)))) = mb := ⟨_, rfl⟩
  rw [hmm]
  cases h1 : (x.owner == -1) with
  | false =>
    cases h2 : (x.owner == t) with
    | false =>
      have hm : mb = false := by rw [← hmm]; simp only [h1, h2, Bool.and_true, Bool.true_and, Bool.false_and, Bool.and_false, Bool.or_true, Bool.true_or, Bool.false_or, Bool.or_false, Bool.not_true, Bool.not_false]
      subst hm
      clear hmm
      rw [if_neg Bool.false_ne_true]
      go_enter Try.func22, Try.ntmps22
      have hTn : BoxT W2 w.heap.size x s c := HT.out
      have hZn : BoxT W2 (w.heap.size + 1) zeroTh none 0 := HZ.out.kept (Kept.one w.heap.size W2) (by omega)
      go_wp2_with (first | refine wpList_loadT (by rfl) (by rfl) (by rfl) (by assumption) ?_ | (refine wpList_storeT (by rfl) (by rfl) (by rfl) (by rfl) (by assumption) ?_; intro W5 hB5 hk5; obtain ⟨e0, e1, e2, e3, e4, e5, e6, e7, e8, e9, e10, e11, e12, e13, e14⟩ := hB5.cells))
      exact bodyPost_ret (v := .tuple #[Th.agg x s c, .bool false]) (by simp [results, Try.results22, go_sem, e0, e1, e2, e3, e4, e5, e6, e7, e8, e9, e10, e11, e12, e13, e14]) rfl (fin_off (y := x) (HK.out.mono (fun _ _ f => f.elim)) (.inl ⟨rfl, rfl⟩) (Kept.one w.heap.size W2) hk5)
    | true =>
      cases h3 : (v == 1) with
      | false =>
        have hm : mb = false := by rw [← hmm]; simp only [h1, h2, h3, Bool.and_true, Bool.true_and, Bool.false_and, Bool.and_false, Bool.or_true, Bool.true_or, Bool.false_or, Bool.or_false, Bool.not_true, Bool.not_false]
        subst hm
        clear hmm
        rw [if_neg Bool.false_ne_true]
        go_enter Try.func22, Try.ntmps22
        have hTn : BoxT W2 w.heap.size x s c := HT.out
        have hZn : BoxT W2 (w.heap.size + 1) zeroTh none 0 := HZ.out.kept (Kept.one w.heap.size W2) (by omega)
        go_wp2_with (first | refine wpList_loadT (by rfl) (by rfl) (by rfl) (by assumption) ?_ | (refine wpList_storeT (by rfl) (by rfl) (by rfl) (by rfl) (by assumption) ?_; intro W5 hB5 hk5; obtain ⟨e0, e1, e2, e3, e4, e5, e6, e7, e8, e9, e10, e11, e12, e13, e14⟩ := hB5.cells))
        exact bodyPost_ret (v := .tuple #[Th.agg x s c, .bool false]) (by simp [results, Try.results22, go_sem, e0, e1, e2, e3, e4, e5, e6, e7, e8, e9, e10, e11, e12, e13, e14]) rfl (fin_off (y := x) (HK.out.mono (fun _ _ f => f.elim)) (.inl ⟨rfl, rfl⟩) (Kept.one w.heap.size W2) hk5)
      | true =>
        cases h4 : (decide (x.holds < 1000)) with
        | false =>
          have hm : mb = false := by rw [← hmm]; simp only [h1, h2, h3, h4, Bool.and_true, Bool.true_and, Bool.false_and, Bool.and_false, Bool.or_true, Bool.true_or, Bool.false_or, Bool.or_false, Bool.not_true, Bool.not_false]
          subst hm
          clear hmm
          rw [if_neg Bool.false_ne_true]
          go_enter Try.func22, Try.ntmps22
          have hTn : BoxT W2 w.heap.size x s c := HT.out
          have hZn : BoxT W2 (w.heap.size + 1) zeroTh none 0 := HZ.out.kept (Kept.one w.heap.size W2) (by omega)
          go_wp2_with (first | refine wpList_loadT (by rfl) (by rfl) (by rfl) (by assumption) ?_ | (refine wpList_storeT (by rfl) (by rfl) (by rfl) (by rfl) (by assumption) ?_; intro W5 hB5 hk5; obtain ⟨e0, e1, e2, e3, e4, e5, e6, e7, e8, e9, e10, e11, e12, e13, e14⟩ := hB5.cells))
          exact bodyPost_ret (v := .tuple #[Th.agg x s c, .bool false]) (by simp [results, Try.results22, go_sem, e0, e1, e2, e3, e4, e5, e6, e7, e8, e9, e10, e11, e12, e13, e14]) rfl (fin_off (y := x) (HK.out.mono (fun _ _ f => f.elim)) (.inl ⟨rfl, rfl⟩) (Kept.one w.heap.size W2) hk5)
        | true =>
          have hm : mb = true := by rw [← hmm]; simp only [h1, h2, h3, h4, Bool.and_true, Bool.true_and, Bool.false_and, Bool.and_false, Bool.or_true, Bool.true_or, Bool.false_or, Bool.or_false, Bool.not_true, Bool.not_false]
          subst hm
          clear hmm
          rw [if_pos rfl, show takeM x t v = { x with owner := t, holds := x.holds + 1 } from (by unfold takeM; rw [hkd, h1]; rfl)]
          have hy2 : ({ x with owner := t, holds := x.holds + 1 } : Th) = { x with holds := x.holds + 1 } := by have e := beq_iff_eq.1 h2; rw [← e]
          rw [hy2]
          go_enter Try.func22, Try.ntmps22
          have hTn : BoxT (W2.setCell ⟨w.heap.size, 3, none⟩ (.int .i64 (x.holds + 1))) w.heap.size { x with holds := x.holds + 1 } s c := (HT.out.setHolds (x.holds + 1))
          have hZn : BoxT (W2.setCell ⟨w.heap.size, 3, none⟩ (.int .i64 (x.holds + 1))) (w.heap.size + 1) zeroTh none 0 := HZ.out.kept ((Kept.one w.heap.size W2).sB _ _) (by omega)
          go_wp2_with (first | refine wpList_loadT (by rfl) (by rfl) (by rfl) (by assumption) ?_ | (refine wpList_storeT (by rfl) (by rfl) (by rfl) (by rfl) (by assumption) ?_; intro W5 hB5 hk5; obtain ⟨e0, e1, e2, e3, e4, e5, e6, e7, e8, e9, e10, e11, e12, e13, e14⟩ := hB5.cells))
          exact bodyPost_ret (v := .tuple #[Th.agg { x with holds := x.holds + 1 } s c, .bool true]) (by simp [results, Try.results22, go_sem, e0, e1, e2, e3, e4, e5, e6, e7, e8, e9, e10, e11, e12, e13, e14]) rfl (fin_off (y := { x with holds := x.holds + 1 }) (HK.out.mono (fun _ _ f => f.elim)) (.inl ⟨rfl, rfl⟩) ((Kept.one w.heap.size W2).sB _ _) hk5)
  | true =>
    cases h5 : (decide (1 ≤ v)) with
    | false =>
      cases h6 : (x.owner == t) with
      | false =>
        have hm : mb = false := by rw [← hmm]; simp only [h1, h5, h6, Bool.and_true, Bool.true_and, Bool.false_and, Bool.and_false, Bool.or_true, Bool.true_or, Bool.false_or, Bool.or_false, Bool.not_true, Bool.not_false]
        subst hm
        clear hmm
        rw [if_neg Bool.false_ne_true]
        go_enter Try.func22, Try.ntmps22
        have hTn : BoxT W2 w.heap.size x s c := HT.out
        have hZn : BoxT W2 (w.heap.size + 1) zeroTh none 0 := HZ.out.kept (Kept.one w.heap.size W2) (by omega)
        go_wp2_with (first | refine wpList_loadT (by rfl) (by rfl) (by rfl) (by assumption) ?_ | (refine wpList_storeT (by rfl) (by rfl) (by rfl) (by rfl) (by assumption) ?_; intro W5 hB5 hk5; obtain ⟨e0, e1, e2, e3, e4, e5, e6, e7, e8, e9, e10, e11, e12, e13, e14⟩ := hB5.cells))
        exact bodyPost_ret (v := .tuple #[Th.agg x s c, .bool false]) (by simp [results, Try.results22, go_sem, e0, e1, e2, e3, e4, e5, e6, e7, e8, e9, e10, e11, e12, e13, e14]) rfl (fin_off (y := x) (HK.out.mono (fun _ _ f => f.elim)) (.inl ⟨rfl, rfl⟩) (Kept.one w.heap.size W2) hk5)
      | true =>
        cases h7 : (v == 1) with
        | false =>
          exfalso
          have u1 := beq_iff_eq.1 h6
          have u2 := beq_iff_eq.1 h1
          omega
        | true =>
          cases h8 : (decide (x.holds < 1000)) with
          | false =>
            exfalso
            have u1 := beq_iff_eq.1 h6
            have u2 := beq_iff_eq.1 h1
            omega
          | true =>
            exfalso
            have u1 := beq_iff_eq.1 h6
            have u2 := beq_iff_eq.1 h1
            omega
    | true =>
      cases h9 : (decide (v ≤ 1000)) with
      | false =>
        cases h10 : (x.owner == t) with
        | false =>
          have hm : mb = false := by rw [← hmm]; simp only [h1, h5, h9, h10, Bool.and_true, Bool.true_and, Bool.false_and, Bool.and_false, Bool.or_true, Bool.true_or, Bool.false_or, Bool.or_false, Bool.not_true, Bool.not_false]
          subst hm
          clear hmm
          rw [if_neg Bool.false_ne_true]
          go_enter Try.func22, Try.ntmps22
          have hTn : BoxT W2 w.heap.size x s c := HT.out
          have hZn : BoxT W2 (w.heap.size + 1) zeroTh none 0 := HZ.out.kept (Kept.one w.heap.size W2) (by omega)
          go_wp2_with (first | refine wpList_loadT (by rfl) (by rfl) (by rfl) (by assumption) ?_ | (refine wpList_storeT (by rfl) (by rfl) (by rfl) (by rfl) (by assumption) ?_; intro W5 hB5 hk5; obtain ⟨e0, e1, e2, e3, e4, e5, e6, e7, e8, e9, e10, e11, e12, e13, e14⟩ := hB5.cells))
          exact bodyPost_ret (v := .tuple #[Th.agg x s c, .bool false]) (by simp [results, Try.results22, go_sem, e0, e1, e2, e3, e4, e5, e6, e7, e8, e9, e10, e11, e12, e13, e14]) rfl (fin_off (y := x) (HK.out.mono (fun _ _ f => f.elim)) (.inl ⟨rfl, rfl⟩) (Kept.one w.heap.size W2) hk5)
        | true =>
          cases h11 : (v == 1) with
          | false =>
            exfalso
            have u1 := beq_iff_eq.1 h10
            have u2 := beq_iff_eq.1 h1
            omega
          | true =>
            cases h12 : (decide (x.holds < 1000)) with
            | false =>
              exfalso
              have u1 := beq_iff_eq.1 h10
              have u2 := beq_iff_eq.1 h1
              omega
            | true =>
              exfalso
              have u1 := beq_iff_eq.1 h10
              have u2 := beq_iff_eq.1 h1
              omega
      | true =>
        cases h13 : (waitsM x.ws t) with
        | false =>
          have hm : mb = true := by rw [← hmm]; simp only [h1, h5, h9, h13, Bool.and_true, Bool.true_and, Bool.false_and, Bool.and_false, Bool.or_true, Bool.true_or, Bool.false_or, Bool.or_false, Bool.not_true, Bool.not_false]
          subst hm
          clear hmm
          rw [if_pos rfl, show takeM x t v = { x with owner := t, holds := v } from (by unfold takeM; rw [hkd, h1]; rfl)]
          have q1 := of_decide_eq_true h5
          have q2 := of_decide_eq_true h9
          go_enter Try.func22, Try.ntmps22
          go_wp2_with (first | refine wpList_loadT (by rfl) (by rfl) (by rfl) (by assumption) ?_ | (refine wpList_storeT (by rfl) (by rfl) (by rfl) (by rfl) (by assumption) ?_; intro W5 hB5 hk5; obtain ⟨e0, e1, e2, e3, e4, e5, e6, e7, e8, e9, e10, e11, e12, e13, e14⟩ := hB5.cells))
          obtain ⟨pv, hpv⟩ : ∃ pv, atI (firstAt t x.ws) = pv := ⟨_, rfl⟩
          have hpn := place_neg h13
          rw [hpv] at hpn
          refine (place_any x t s c _ (by have := HF.out.ws; omega) HO.out.el pv hpv).mono ?_
          rintro e w3 ⟨rfl, hk3⟩
          have HT3 := Lib.hid (HT.out.kept0 hk3)
          have HZ3 := Lib.hid (HZ.out.kept0 hk3)
          have HK3 := Lib.hid (HK.out.tr0 hk3)
          have HO3 := Lib.hid (HO.out.kept0 hk3)
          clear hk3 c0 c1 c2 c3 c4 c5 c6 c7 c8 c9 c10 c11 c12 c13 c14
          obtain ⟨c0, c1, c2, c3, c4, c5, c6, c7, c8, c9, c10, c11, c12, c13, c14⟩ := HT3.out.cells
          have f2 := HT3.out.free 2
          have f3 := HT3.out.free 3
          have hTn : BoxT ((w3.setCell ⟨w.heap.size, 2, none⟩ (.int .i64 (t))).setCell ⟨w.heap.size, 3, none⟩ (.int .i64 (v))) w.heap.size { x with owner := t, holds := v } s c := ((HT3.out.setOwner (t)).setHolds (v))
          have hZn : BoxT ((w3.setCell ⟨w.heap.size, 2, none⟩ (.int .i64 (t))).setCell ⟨w.heap.size, 3, none⟩ (.int .i64 (v))) (w.heap.size + 1) zeroTh none 0 := HZ3.out.kept (((Kept.one w.heap.size w3).sB _ _).sB _ _) (by omega)
          go_wp2_with (first | refine wpList_loadT (by rfl) (by rfl) (by rfl) (by assumption) ?_ | (refine wpList_storeT (by rfl) (by rfl) (by rfl) (by rfl) (by assumption) ?_; intro W5 hB5 hk5; obtain ⟨e0, e1, e2, e3, e4, e5, e6, e7, e8, e9, e10, e11, e12, e13, e14⟩ := hB5.cells))
          exact bodyPost_ret (v := .tuple #[Th.agg { x with owner := t, holds := v } s c, .bool true]) (by simp [results, Try.results22, go_sem, e0, e1, e2, e3, e4, e5, e6, e7, e8, e9, e10, e11, e12, e13, e14]) rfl (fin_off (y := { x with owner := t, holds := v }) (HK3.out.mono (fun _ _ f => f.elim)) (.inl ⟨rfl, rfl⟩) (((Kept.one w.heap.size w3).sB _ _).sB _ _) hk5)
        | true =>
          cases h14 : (x.owner == t) with
          | false =>
            have hm : mb = false := by rw [← hmm]; simp only [h1, h5, h9, h13, h14, Bool.and_true, Bool.true_and, Bool.false_and, Bool.and_false, Bool.or_true, Bool.true_or, Bool.false_or, Bool.or_false, Bool.not_true, Bool.not_false]
            subst hm
            clear hmm
            rw [if_neg Bool.false_ne_true]
            go_enter Try.func22, Try.ntmps22
            go_wp2_with (first | refine wpList_loadT (by rfl) (by rfl) (by rfl) (by assumption) ?_ | (refine wpList_storeT (by rfl) (by rfl) (by rfl) (by rfl) (by assumption) ?_; intro W5 hB5 hk5; obtain ⟨e0, e1, e2, e3, e4, e5, e6, e7, e8, e9, e10, e11, e12, e13, e14⟩ := hB5.cells))
            obtain ⟨pv, hpv⟩ : ∃ pv, atI (firstAt t x.ws) = pv := ⟨_, rfl⟩
            have hpn := place_neg h13
            rw [hpv] at hpn
            refine (place_any x t s c _ (by have := HF.out.ws; omega) HO.out.el pv hpv).mono ?_
            rintro e w3 ⟨rfl, hk3⟩
            have HT3 := Lib.hid (HT.out.kept0 hk3)
            have HZ3 := Lib.hid (HZ.out.kept0 hk3)
            have HK3 := Lib.hid (HK.out.tr0 hk3)
            have HO3 := Lib.hid (HO.out.kept0 hk3)
            clear hk3 c0 c1 c2 c3 c4 c5 c6 c7 c8 c9 c10 c11 c12 c13 c14
            obtain ⟨c0, c1, c2, c3, c4, c5, c6, c7, c8, c9, c10, c11, c12, c13, c14⟩ := HT3.out.cells
            have f2 := HT3.out.free 2
            have f3 := HT3.out.free 3
            have hTn : BoxT w3 w.heap.size x s c := HT3.out
            have hZn : BoxT w3 (w.heap.size + 1) zeroTh none 0 := HZ3.out.kept (Kept.one w.heap.size w3) (by omega)
            go_wp2_with (first | refine wpList_loadT (by rfl) (by rfl) (by rfl) (by assumption) ?_ | (refine wpList_storeT (by rfl) (by rfl) (by rfl) (by rfl) (by assumption) ?_; intro W5 hB5 hk5; obtain ⟨e0, e1, e2, e3, e4, e5, e6, e7, e8, e9, e10, e11, e12, e13, e14⟩ := hB5.cells))
            exact bodyPost_ret (v := .tuple #[Th.agg x s c, .bool false]) (by simp [results, Try.results22, go_sem, e0, e1, e2, e3, e4, e5, e6, e7, e8, e9, e10, e11, e12, e13, e14]) rfl (fin_off (y := x) (HK3.out.mono (fun _ _ f => f.elim)) (.inl ⟨rfl, rfl⟩) (Kept.one w.heap.size w3) hk5)
          | true =>
            cases h15 : (v == 1) with
            | false =>
              exfalso
              have u1 := beq_iff_eq.1 h14
              have u2 := beq_iff_eq.1 h1
              omega
            | true =>
              cases h16 : (decide (x.holds < 1000)) with
              | false =>
                exfalso
                have u1 := beq_iff_eq.1 h14
                have u2 := beq_iff_eq.1 h1
                omega
              | true =>
                exfalso
                have u1 := beq_iff_eq.1 h14
                have u2 := beq_iff_eq.1 h1
                omega

set_option maxHeartbeats 4000000 in
set_option maxRecDepth 100000 in
theorem rlock_3 (x : Th) (t v : Int) (s : Option Addr) (c : Nat) (w : World) (hF : Fit x) (hE : InW w x s) (ht0 : 0 ≤ t) (hkd : (x.kind == 1) = true) :
    Calls Try.prog 22 #[x.agg s c, .int .i64 t, .int .i64 3, .int .i64 v] w (SaidB w s x.ws (if (v == 0 && x.owner == t) = true then freeM x else x) (v == 0 && x.owner == t)) := by
  have b0 : -2000001 ≤ x.holds + 1 := by have := hF.h0; omega
  have b1 : x.holds + 1 ≤ 2000001 := by have := hF.h1; omega
  have hl := hF.ws
  obtain ⟨W1, W2, hW1, hW2, s1, s2, hT, hZ, hk, hEl⟩ := ref_box x s c w hE
  obtain ⟨c0, c1, c2, c3, c4, c5, c6, c7, c8, c9, c10, c11, c12, c13, c14⟩ := hT.cells
  have f2 := hT.free 2
  have f3 := hT.free 3
  have HT := Lib.hid hT
  have HZ := Lib.hid hZ
  have HK := Lib.hid hk
  have HO := Lib.hid (Off.of hEl)
  have HF := Lib.hid hF
  clear hk hEl hE hT hZ hF
  obtain ⟨mb, hmm⟩ : ∃ mb, (v == 0 && x.owner == t) = mb := ⟨_, rfl⟩
  rw [hmm]
  cases h1 : (x.owner == t) with
  | false =>
    have hm : mb = false := by rw [← hmm]; simp only [h1, Bool.and_true, Bool.true_and, Bool.false_and, Bool.and_false, Bool.or_true, Bool.true_or, Bool.false_or, Bool.or_false, Bool.not_true, Bool.not_false]
    subst hm
    clear hmm
    have hTn := HT.out
    have hZn := HZ.out
    rw [if_neg Bool.false_ne_true]
    go_enter Try.func22, Try.ntmps22
    go_wp2_with (first | refine wpList_loadT (by rfl) (by rfl) (by rfl) (by assumption) ?_ | (refine wpList_storeT (by rfl) (by rfl) (by rfl) (by rfl) (by assumption) ?_; intro W5 hB5 hk5; obtain ⟨e0, e1, e2, e3, e4, e5, e6, e7, e8, e9, e10, e11, e12, e13, e14⟩ := hB5.cells))
    exact bodyPost_ret (v := .tuple #[Th.agg x s c, .bool false]) (by simp [results, Try.results22, go_sem, e0, e1, e2, e3, e4, e5, e6, e7, e8, e9, e10, e11, e12, e13, e14]) rfl (fin_off (y := x) (HK.out.mono (fun _ _ f => f.elim)) (.inl ⟨rfl, rfl⟩) (Kept.one w.heap.size W2) hk5)
  | true =>
    cases h2 : (v == 0) with
    | false =>
      have hm : mb = false := by rw [← hmm]; simp only [h1, h2, Bool.and_true, Bool.true_and, Bool.false_and, Bool.and_false, Bool.or_true, Bool.true_or, Bool.false_or, Bool.or_false, Bool.not_true, Bool.not_false]
      subst hm
      clear hmm
      have hTn := HT.out
      have hZn := HZ.out
      rw [if_neg Bool.false_ne_true]
      go_enter Try.func22, Try.ntmps22
      go_wp2_with (first | refine wpList_loadT (by rfl) (by rfl) (by rfl) (by assumption) ?_ | (refine wpList_storeT (by rfl) (by rfl) (by rfl) (by rfl) (by assumption) ?_; intro W5 hB5 hk5; obtain ⟨e0, e1, e2, e3, e4, e5, e6, e7, e8, e9, e10, e11, e12, e13, e14⟩ := hB5.cells))
      exact bodyPost_ret (v := .tuple #[Th.agg x s c, .bool false]) (by simp [results, Try.results22, go_sem, e0, e1, e2, e3, e4, e5, e6, e7, e8, e9, e10, e11, e12, e13, e14]) rfl (fin_off (y := x) (HK.out.mono (fun _ _ f => f.elim)) (.inl ⟨rfl, rfl⟩) (Kept.one w.heap.size W2) hk5)
    | true =>
      have hm : mb = true := by rw [← hmm]; simp only [h1, h2, Bool.and_true, Bool.true_and, Bool.false_and, Bool.and_false, Bool.or_true, Bool.true_or, Bool.false_or, Bool.or_false, Bool.not_true, Bool.not_false]
      subst hm
      clear hmm
      have hTn := HT.out
      have hZn := HZ.out
      rw [if_pos rfl]
      go_enter Try.func22, Try.ntmps22
      go_wp2_with (first | refine wpList_loadT (by rfl) (by rfl) (by rfl) (by assumption) ?_ | (refine wpList_storeT (by rfl) (by rfl) (by rfl) (by rfl) (by assumption) ?_; intro W5 hB5 hk5; obtain ⟨e0, e1, e2, e3, e4, e5, e6, e7, e8, e9, e10, e11, e12, e13, e14⟩ := hB5.cells))
      refine (freed_any x s c _ HF.out HO.out.el).mono ?_
      rintro e w3 ⟨rfl, hk3⟩
      have hZ3 := HZ.out.kept0 hk3
      have HK3 := Lib.hid (HK.out.tr0 hk3)
      have HO3 := Lib.hid (HO.out.kept0 hk3)
      clear hk3
      go_wp2_with (first | refine wpList_loadT (by rfl) (by rfl) (by rfl) (by assumption) ?_ | (refine wpList_storeT (by rfl) (by rfl) (by rfl) (by rfl) (by assumption) ?_; intro W5 hB5 hk5; obtain ⟨e0, e1, e2, e3, e4, e5, e6, e7, e8, e9, e10, e11, e12, e13, e14⟩ := hB5.cells))
      exact bodyPost_ret (v := .tuple #[Th.agg (freeM x) s c, .bool true]) (by simp [results, Try.results22, go_sem, e0, e1, e2, e3, e4, e5, e6, e7, e8, e9, e10, e11, e12, e13, e14]) rfl (fin_off (y := freeM x) (HK3.out.mono (fun _ _ f => f.elim)) (.inl ⟨rfl, free_ws x⟩) (Kept.one w.heap.size w3) hk5)

set_option maxHeartbeats 2000000 in
set_option maxRecDepth 100000 in
theorem rlock_5 (x : Th) (t v : Int) (s : Option Addr) (c : Nat) (w : World) (hF : Fit x) (hE : InW w x s) (ht0 : 0 ≤ t) (hkd : (x.kind == 1) = true) :
    Calls Try.prog 22 #[x.agg s c, .int .i64 t, .int .i64 5, .int .i64 v] w (SaidB w s x.ws (if (v == 0 && (x.owner != -1 && !(x.owner == t))) = true then x else x) (v == 0 && (x.owner != -1 && !(x.owner == t)))) := by
  obtain ⟨W1, W2, hW1, hW2, s1, s2, hT, hZ, hk, hEl⟩ := ref_box x s c w hE
  obtain ⟨c0, c1, c2, c3, _, _, _, _, _, _, _, _, _, c13, c14⟩ := hT.cells
  have f1 := hT.free 1
  have f2 := hT.free 2
  have f3 := hT.free 3
  have f13 := hT.free 13
  have f14 := hT.free 14
  have HFIN : Hid (∀ Wa W5 (y : Th) r, Kept (fun k => k = w.heap.size) W2 Wa → Kept (fun k => k = w.heap.size + 1) Wa W5 → y.ws = x.ws → SaidB w s x.ws y r (.returned (.tuple #[y.agg s c, .bool r])) W5) := Lib.hid (fun Wa W5 y r hA h5 hws => fin_said hk hA h5 hws)
  have HT := Lib.hid hT
  have HZ := Lib.hid hZ
  clear hk hEl hF hE hT hZ
  obtain ⟨mb, hmm⟩ : ∃ mb, (v == 0 && (x.owner != -1 && !(x.owner == t))) = mb := ⟨_, rfl⟩
  rw [hmm]
  cases h1 : (x.owner != -1) with
  | false =>
    have hm : mb = false := by rw [← hmm]; simp only [h1, Bool.and_true, Bool.true_and, Bool.false_and, Bool.and_false, Bool.or_true, Bool.true_or, Bool.false_or, Bool.or_false, Bool.not_true, Bool.not_false]
    subst hm
    clear hmm
    rw [if_neg Bool.false_ne_true]
    have hTn : BoxT W2 w.heap.size x s c := HT.out
    have hZn : BoxT W2 (w.heap.size + 1) zeroTh none 0 := HZ.out.kept (Kept.one w.heap.size W2) (by omega)
    go_enter Try.func22, Try.ntmps22
    go_wp2_with (first | refine wpList_loadT (by rfl) (by rfl) (by rfl) (by assumption) ?_ | (refine wpList_storeT (by rfl) (by rfl) (by rfl) (by rfl) (by assumption) ?_; intro W5 hB5 hk5; obtain ⟨e0, e1, e2, e3, e4, e5, e6, e7, e8, e9, e10, e11, e12, e13, e14⟩ := hB5.cells))
    exact bodyPost_ret (v := .tuple #[Th.agg x s c, .bool false]) (by simp [results, Try.results22, go_sem, e0, e1, e2, e3, e4, e5, e6, e7, e8, e9, e10, e11, e12, e13, e14]) rfl (HFIN.out _ _ _ _ (Kept.one w.heap.size W2) hk5 rfl)
  | true =>
    cases h2 : (x.owner == t) with
    | false =>
      cases h3 : (v == 0) with
      | false =>
        have hm : mb = false := by rw [← hmm]; simp only [h1, h2, h3, Bool.and_true, Bool.true_and, Bool.false_and, Bool.and_false, Bool.or_true, Bool.true_or, Bool.false_or, Bool.or_false, Bool.not_true, Bool.not_false]
        subst hm
        clear hmm
        rw [if_neg Bool.false_ne_true]
        have hTn : BoxT W2 w.heap.size x s c := HT.out
        have hZn : BoxT W2 (w.heap.size + 1) zeroTh none 0 := HZ.out.kept (Kept.one w.heap.size W2) (by omega)
        go_enter Try.func22, Try.ntmps22
        go_wp2_with (first | refine wpList_loadT (by rfl) (by rfl) (by rfl) (by assumption) ?_ | (refine wpList_storeT (by rfl) (by rfl) (by rfl) (by rfl) (by assumption) ?_; intro W5 hB5 hk5; obtain ⟨e0, e1, e2, e3, e4, e5, e6, e7, e8, e9, e10, e11, e12, e13, e14⟩ := hB5.cells))
        exact bodyPost_ret (v := .tuple #[Th.agg x s c, .bool false]) (by simp [results, Try.results22, go_sem, e0, e1, e2, e3, e4, e5, e6, e7, e8, e9, e10, e11, e12, e13, e14]) rfl (HFIN.out _ _ _ _ (Kept.one w.heap.size W2) hk5 rfl)
      | true =>
        have hm : mb = true := by rw [← hmm]; simp only [h1, h2, h3, Bool.and_true, Bool.true_and, Bool.false_and, Bool.and_false, Bool.or_true, Bool.true_or, Bool.false_or, Bool.or_false, Bool.not_true, Bool.not_false]
        subst hm
        clear hmm
        rw [if_pos rfl, show x = x from rfl]
        have hTn : BoxT W2 w.heap.size x s c := HT.out
        have hZn : BoxT W2 (w.heap.size + 1) zeroTh none 0 := HZ.out.kept (Kept.one w.heap.size W2) (by omega)
        go_enter Try.func22, Try.ntmps22
        go_wp2_with (first | refine wpList_loadT (by rfl) (by rfl) (by rfl) (by assumption) ?_ | (refine wpList_storeT (by rfl) (by rfl) (by rfl) (by rfl) (by assumption) ?_; intro W5 hB5 hk5; obtain ⟨e0, e1, e2, e3, e4, e5, e6, e7, e8, e9, e10, e11, e12, e13, e14⟩ := hB5.cells))
        exact bodyPost_ret (v := .tuple #[Th.agg x s c, .bool true]) (by simp [results, Try.results22, go_sem, e0, e1, e2, e3, e4, e5, e6, e7, e8, e9, e10, e11, e12, e13, e14]) rfl (HFIN.out _ _ _ _ (Kept.one w.heap.size W2) hk5 rfl)
    | true =>
      have hm : mb = false := by rw [← hmm]; simp only [h1, h2, Bool.and_true, Bool.true_and, Bool.false_and, Bool.and_false, Bool.or_true, Bool.true_or, Bool.false_or, Bool.or_false, Bool.not_true, Bool.not_false]
      subst hm
      clear hmm
      rw [if_neg Bool.false_ne_true]
      have hTn : BoxT W2 w.heap.size x s c := HT.out
      have hZn : BoxT W2 (w.heap.size + 1) zeroTh none 0 := HZ.out.kept (Kept.one w.heap.size W2) (by omega)
      go_enter Try.func22, Try.ntmps22
      go_wp2_with (first | refine wpList_loadT (by rfl) (by rfl) (by rfl) (by assumption) ?_ | (refine wpList_storeT (by rfl) (by rfl) (by rfl) (by rfl) (by assumption) ?_; intro W5 hB5 hk5; obtain ⟨e0, e1, e2, e3, e4, e5, e6, e7, e8, e9, e10, e11, e12, e13, e14⟩ := hB5.cells))
      exact bodyPost_ret (v := .tuple #[Th.agg x s c, .bool false]) (by simp [results, Try.results22, go_sem, e0, e1, e2, e3, e4, e5, e6, e7, e8, e9, e10, e11, e12, e13, e14]) rfl (HFIN.out _ _ _ _ (Kept.one w.heap.size W2) hk5 rfl)

set_option maxHeartbeats 2000000 in
set_option maxRecDepth 100000 in
theorem rlock_6 (x : Th) (t v : Int) (s : Option Addr) (c : Nat) (w : World) (hF : Fit x) (hE : InW w x s) (ht0 : 0 ≤ t) (hkd : (x.kind == 1) = true) :
    Calls Try.prog 22 #[x.agg s c, .int .i64 t, .int .i64 6, .int .i64 v] w (SaidB w s x.ws (if (v == 0 && !(x.owner == t)) = true then x else x) (v == 0 && !(x.owner == t))) := by
  obtain ⟨W1, W2, hW1, hW2, s1, s2, hT, hZ, hk, hEl⟩ := ref_box x s c w hE
  obtain ⟨c0, c1, c2, c3, _, _, _, _, _, _, _, _, _, c13, c14⟩ := hT.cells
  have f1 := hT.free 1
  have f2 := hT.free 2
  have f3 := hT.free 3
  have f13 := hT.free 13
  have f14 := hT.free 14
  have HFIN : Hid (∀ Wa W5 (y : Th) r, Kept (fun k => k = w.heap.size) W2 Wa → Kept (fun k => k = w.heap.size + 1) Wa W5 → y.ws = x.ws → SaidB w s x.ws y r (.returned (.tuple #[y.agg s c, .bool r])) W5) := Lib.hid (fun Wa W5 y r hA h5 hws => fin_said hk hA h5 hws)
  have HT := Lib.hid hT
  have HZ := Lib.hid hZ
  clear hk hEl hF hE hT hZ
  obtain ⟨mb, hmm⟩ : ∃ mb, (v == 0 && !(x.owner == t)) = mb := ⟨_, rfl⟩
  rw [hmm]
  cases h1 : (x.owner == t) with
  | false =>
    cases h2 : (v == 0) with
    | false =>
      have hm : mb = false := by rw [← hmm]; simp only [h1, h2, Bool.and_true, Bool.true_and, Bool.false_and, Bool.and_false, Bool.or_true, Bool.true_or, Bool.false_or, Bool.or_false, Bool.not_true, Bool.not_false]
      subst hm
      clear hmm
      rw [if_neg Bool.false_ne_true]
      have hTn : BoxT W2 w.heap.size x s c := HT.out
      have hZn : BoxT W2 (w.heap.size + 1) zeroTh none 0 := HZ.out.kept (Kept.one w.heap.size W2) (by omega)
      go_enter Try.func22, Try.ntmps22
      go_wp2_with (first | refine wpList_loadT (by rfl) (by rfl) (by rfl) (by assumption) ?_ | (refine wpList_storeT (by rfl) (by rfl) (by rfl) (by rfl) (by assumption) ?_; intro W5 hB5 hk5; obtain ⟨e0, e1, e2, e3, e4, e5, e6, e7, e8, e9, e10, e11, e12, e13, e14⟩ := hB5.cells))
      exact bodyPost_ret (v := .tuple #[Th.agg x s c, .bool false]) (by simp [results, Try.results22, go_sem, e0, e1, e2, e3, e4, e5, e6, e7, e8, e9, e10, e11, e12, e13, e14]) rfl (HFIN.out _ _ _ _ (Kept.one w.heap.size W2) hk5 rfl)
    | true =>
      have hm : mb = true := by rw [← hmm]; simp only [h1, h2, Bool.and_true, Bool.true_and, Bool.false_and, Bool.and_false, Bool.or_true, Bool.true_or, Bool.false_or, Bool.or_false, Bool.not_true, Bool.not_false]
      subst hm
      clear hmm
      rw [if_pos rfl, show x = x from rfl]
      have hTn : BoxT W2 w.heap.size x s c := HT.out
      have hZn : BoxT W2 (w.heap.size + 1) zeroTh none 0 := HZ.out.kept (Kept.one w.heap.size W2) (by omega)
      go_enter Try.func22, Try.ntmps22
      go_wp2_with (first | refine wpList_loadT (by rfl) (by rfl) (by rfl) (by assumption) ?_ | (refine wpList_storeT (by rfl) (by rfl) (by rfl) (by rfl) (by assumption) ?_; intro W5 hB5 hk5; obtain ⟨e0, e1, e2, e3, e4, e5, e6, e7, e8, e9, e10, e11, e12, e13, e14⟩ := hB5.cells))
      exact bodyPost_ret (v := .tuple #[Th.agg x s c, .bool true]) (by simp [results, Try.results22, go_sem, e0, e1, e2, e3, e4, e5, e6, e7, e8, e9, e10, e11, e12, e13, e14]) rfl (HFIN.out _ _ _ _ (Kept.one w.heap.size W2) hk5 rfl)
  | true =>
    have hm : mb = false := by rw [← hmm]; simp only [h1, Bool.and_true, Bool.true_and, Bool.false_and, Bool.and_false, Bool.or_true, Bool.true_or, Bool.false_or, Bool.or_false, Bool.not_true, Bool.not_false]
    subst hm
    clear hmm
    rw [if_neg Bool.false_ne_true]
    have hTn : BoxT W2 w.heap.size x s c := HT.out
    have hZn : BoxT W2 (w.heap.size + 1) zeroTh none 0 := HZ.out.kept (Kept.one w.heap.size W2) (by omega)
    go_enter Try.func22, Try.ntmps22
    go_wp2_with (first | refine wpList_loadT (by rfl) (by rfl) (by rfl) (by assumption) ?_ | (refine wpList_storeT (by rfl) (by rfl) (by rfl) (by rfl) (by assumption) ?_; intro W5 hB5 hk5; obtain ⟨e0, e1, e2, e3, e4, e5, e6, e7, e8, e9, e10, e11, e12, e13, e14⟩ := hB5.cells))
    exact bodyPost_ret (v := .tuple #[Th.agg x s c, .bool false]) (by simp [results, Try.results22, go_sem, e0, e1, e2, e3, e4, e5, e6, e7, e8, e9, e10, e11, e12, e13, e14]) rfl (HFIN.out _ _ _ _ (Kept.one w.heap.size W2) hk5 rfl)

set_option maxHeartbeats 2000000 in
set_option maxRecDepth 100000 in
theorem rlock_7 (x : Th) (t v : Int) (s : Option Addr) (c : Nat) (w : World) (hF : Fit x) (hE : InW w x s) (ht0 : 0 ≤ t) (hkd : (x.kind == 1) = true) :
    Calls Try.prog 22 #[x.agg s c, .int .i64 t, .int .i64 7, .int .i64 v] w (SaidB w s x.ws (if (v == 0 && (x.owner == t && x.holds == 1000)) = true then x else x) (v == 0 && (x.owner == t && x.holds == 1000))) := by
  obtain ⟨W1, W2, hW1, hW2, s1, s2, hT, hZ, hk, hEl⟩ := ref_box x s c w hE
  obtain ⟨c0, c1, c2, c3, _, _, _, _, _, _, _, _, _, c13, c14⟩ := hT.cells
  have f1 := hT.free 1
  have f2 := hT.free 2
  have f3 := hT.free 3
  have f13 := hT.free 13
  have f14 := hT.free 14
  have HFIN : Hid (∀ Wa W5 (y : Th) r, Kept (fun k => k = w.heap.size) W2 Wa → Kept (fun k => k = w.heap.size + 1) Wa W5 → y.ws = x.ws → SaidB w s x.ws y r (.returned (.tuple #[y.agg s c, .bool r])) W5) := Lib.hid (fun Wa W5 y r hA h5 hws => fin_said hk hA h5 hws)
  have HT := Lib.hid hT
  have HZ := Lib.hid hZ
  clear hk hEl hF hE hT hZ
  obtain ⟨mb, hmm⟩ : ∃ mb, (v == 0 && (x.owner == t && x.holds == 1000)) = mb := ⟨_, rfl⟩
  rw [hmm]
  cases h1 : (x.owner == t) with
  | false =>
    have hm : mb = false := by rw [← hmm]; simp only [h1, Bool.and_true, Bool.true_and, Bool.false_and, Bool.and_false, Bool.or_true, Bool.true_or, Bool.false_or, Bool.or_false, Bool.not_true, Bool.not_false]
    subst hm
    clear hmm
    rw [if_neg Bool.false_ne_true]
    have hTn : BoxT W2 w.heap.size x s c := HT.out
    have hZn : BoxT W2 (w.heap.size + 1) zeroTh none 0 := HZ.out.kept (Kept.one w.heap.size W2) (by omega)
    go_enter Try.func22, Try.ntmps22
    go_wp2_with (first | refine wpList_loadT (by rfl) (by rfl) (by rfl) (by assumption) ?_ | (refine wpList_storeT (by rfl) (by rfl) (by rfl) (by rfl) (by assumption) ?_; intro W5 hB5 hk5; obtain ⟨e0, e1, e2, e3, e4, e5, e6, e7, e8, e9, e10, e11, e12, e13, e14⟩ := hB5.cells))
    exact bodyPost_ret (v := .tuple #[Th.agg x s c, .bool false]) (by simp [results, Try.results22, go_sem, e0, e1, e2, e3, e4, e5, e6, e7, e8, e9, e10, e11, e12, e13, e14]) rfl (HFIN.out _ _ _ _ (Kept.one w.heap.size W2) hk5 rfl)
  | true =>
    cases h2 : (x.holds == 1000) with
    | false =>
      have hm : mb = false := by rw [← hmm]; simp only [h1, h2, Bool.and_true, Bool.true_and, Bool.false_and, Bool.and_false, Bool.or_true, Bool.true_or, Bool.false_or, Bool.or_false, Bool.not_true, Bool.not_false]
      subst hm
      clear hmm
      rw [if_neg Bool.false_ne_true]
      have hTn : BoxT W2 w.heap.size x s c := HT.out
      have hZn : BoxT W2 (w.heap.size + 1) zeroTh none 0 := HZ.out.kept (Kept.one w.heap.size W2) (by omega)
      go_enter Try.func22, Try.ntmps22
      go_wp2_with (first | refine wpList_loadT (by rfl) (by rfl) (by rfl) (by assumption) ?_ | (refine wpList_storeT (by rfl) (by rfl) (by rfl) (by rfl) (by assumption) ?_; intro W5 hB5 hk5; obtain ⟨e0, e1, e2, e3, e4, e5, e6, e7, e8, e9, e10, e11, e12, e13, e14⟩ := hB5.cells))
      exact bodyPost_ret (v := .tuple #[Th.agg x s c, .bool false]) (by simp [results, Try.results22, go_sem, e0, e1, e2, e3, e4, e5, e6, e7, e8, e9, e10, e11, e12, e13, e14]) rfl (HFIN.out _ _ _ _ (Kept.one w.heap.size W2) hk5 rfl)
    | true =>
      cases h3 : (v == 0) with
      | false =>
        have hm : mb = false := by rw [← hmm]; simp only [h1, h2, h3, Bool.and_true, Bool.true_and, Bool.false_and, Bool.and_false, Bool.or_true, Bool.true_or, Bool.false_or, Bool.or_false, Bool.not_true, Bool.not_false]
        subst hm
        clear hmm
        rw [if_neg Bool.false_ne_true]
        have hTn : BoxT W2 w.heap.size x s c := HT.out
        have hZn : BoxT W2 (w.heap.size + 1) zeroTh none 0 := HZ.out.kept (Kept.one w.heap.size W2) (by omega)
        go_enter Try.func22, Try.ntmps22
        go_wp2_with (first | refine wpList_loadT (by rfl) (by rfl) (by rfl) (by assumption) ?_ | (refine wpList_storeT (by rfl) (by rfl) (by rfl) (by rfl) (by assumption) ?_; intro W5 hB5 hk5; obtain ⟨e0, e1, e2, e3, e4, e5, e6, e7, e8, e9, e10, e11, e12, e13, e14⟩ := hB5.cells))
        exact bodyPost_ret (v := .tuple #[Th.agg x s c, .bool false]) (by simp [results, Try.results22, go_sem, e0, e1, e2, e3, e4, e5, e6, e7, e8, e9, e10, e11, e12, e13, e14]) rfl (HFIN.out _ _ _ _ (Kept.one w.heap.size W2) hk5 rfl)
      | true =>
        have hm : mb = true := by rw [← hmm]; simp only [h1, h2, h3, Bool.and_true, Bool.true_and, Bool.false_and, Bool.and_false, Bool.or_true, Bool.true_or, Bool.false_or, Bool.or_false, Bool.not_true, Bool.not_false]
        subst hm
        clear hmm
        rw [if_pos rfl, show x = x from rfl]
        have hTn : BoxT W2 w.heap.size x s c := HT.out
        have hZn : BoxT W2 (w.heap.size + 1) zeroTh none 0 := HZ.out.kept (Kept.one w.heap.size W2) (by omega)
        go_enter Try.func22, Try.ntmps22
        go_wp2_with (first | refine wpList_loadT (by rfl) (by rfl) (by rfl) (by assumption) ?_ | (refine wpList_storeT (by rfl) (by rfl) (by rfl) (by rfl) (by assumption) ?_; intro W5 hB5 hk5; obtain ⟨e0, e1, e2, e3, e4, e5, e6, e7, e8, e9, e10, e11, e12, e13, e14⟩ := hB5.cells))
        exact bodyPost_ret (v := .tuple #[Th.agg x s c, .bool true]) (by simp [results, Try.results22, go_sem, e0, e1, e2, e3, e4, e5, e6, e7, e8, e9, e10, e11, e12, e13, e14]) rfl (HFIN.out _ _ _ _ (Kept.one w.heap.size W2) hk5 rfl)

set_option maxHeartbeats 2000000 in
set_option maxRecDepth 100000 in
theorem rlock_12 (x : Th) (t v : Int) (s : Option Addr) (c : Nat) (w : World) (hF : Fit x) (hE : InW w x s) (ht0 : 0 ≤ t) (hkd : (x.kind == 1) = true) :
    Calls Try.prog 22 #[x.agg s c, .int .i64 t, .int .i64 12, .int .i64 v] w (SaidB w s x.ws (if (v == 0 && x.owner == t && x.ws.isEmpty) = true then x else x) (v == 0 && x.owner == t && x.ws.isEmpty)) := by
  obtain ⟨W1, W2, hW1, hW2, s1, s2, hT, hZ, hk, hEl⟩ := ref_box x s c w hE
  obtain ⟨c0, c1, c2, c3, _, _, _, _, _, _, _, _, _, c13, c14⟩ := hT.cells
  have f1 := hT.free 1
  have f2 := hT.free 2
  have f3 := hT.free 3
  have f13 := hT.free 13
  have f14 := hT.free 14
  have HFIN : Hid (∀ Wa W5 (y : Th) r, Kept (fun k => k = w.heap.size) W2 Wa → Kept (fun k => k = w.heap.size + 1) Wa W5 → y.ws = x.ws → SaidB w s x.ws y r (.returned (.tuple #[y.agg s c, .bool r])) W5) := Lib.hid (fun Wa W5 y r hA h5 hws => fin_said hk hA h5 hws)
  have HT := Lib.hid hT
  have HZ := Lib.hid hZ
  clear hk hEl hF hE hT hZ
  obtain ⟨mb, hmm⟩ : ∃ mb, (v == 0 && x.owner == t && x.ws.isEmpty) = mb := ⟨_, rfl⟩
  rw [hmm]
  cases h1 : (x.owner == t) with
  | false =>
    have hm : mb = false := by rw [← hmm]; simp only [h1, Bool.and_true, Bool.true_and, Bool.false_and, Bool.and_false, Bool.or_true, Bool.true_or, Bool.false_or, Bool.or_false, Bool.not_true, Bool.not_false]
    subst hm
    clear hmm
    rw [if_neg Bool.false_ne_true]
    have hTn : BoxT W2 w.heap.size x s c := HT.out
    have hZn : BoxT W2 (w.heap.size + 1) zeroTh none 0 := HZ.out.kept (Kept.one w.heap.size W2) (by omega)
    go_enter Try.func22, Try.ntmps22
    go_wp2_with (first | refine wpList_loadT (by rfl) (by rfl) (by rfl) (by assumption) ?_ | (refine wpList_storeT (by rfl) (by rfl) (by rfl) (by rfl) (by assumption) ?_; intro W5 hB5 hk5; obtain ⟨e0, e1, e2, e3, e4, e5, e6, e7, e8, e9, e10, e11, e12, e13, e14⟩ := hB5.cells))
    exact bodyPost_ret (v := .tuple #[Th.agg x s c, .bool false]) (by simp [results, Try.results22, go_sem, e0, e1, e2, e3, e4, e5, e6, e7, e8, e9, e10, e11, e12, e13, e14]) rfl (HFIN.out _ _ _ _ (Kept.one w.heap.size W2) hk5 rfl)
  | true =>
    cases h2 : (x.ws.isEmpty) with
    | false =>
      have gh2 := (empty_len x.ws).trans h2
      have hm : mb = false := by rw [← hmm]; simp only [gh2, h1, h2, Bool.and_true, Bool.true_and, Bool.false_and, Bool.and_false, Bool.or_true, Bool.true_or, Bool.false_or, Bool.or_false, Bool.not_true, Bool.not_false]
      subst hm
      clear hmm
      rw [if_neg Bool.false_ne_true]
      have hTn : BoxT W2 w.heap.size x s c := HT.out
      have hZn : BoxT W2 (w.heap.size + 1) zeroTh none 0 := HZ.out.kept (Kept.one w.heap.size W2) (by omega)
      go_enter Try.func22, Try.ntmps22
      go_wp2_with (first | refine wpList_loadT (by rfl) (by rfl) (by rfl) (by assumption) ?_ | (refine wpList_storeT (by rfl) (by rfl) (by rfl) (by rfl) (by assumption) ?_; intro W5 hB5 hk5; obtain ⟨e0, e1, e2, e3, e4, e5, e6, e7, e8, e9, e10, e11, e12, e13, e14⟩ := hB5.cells))
      exact bodyPost_ret (v := .tuple #[Th.agg x s c, .bool false]) (by simp [results, Try.results22, go_sem, e0, e1, e2, e3, e4, e5, e6, e7, e8, e9, e10, e11, e12, e13, e14]) rfl (HFIN.out _ _ _ _ (Kept.one w.heap.size W2) hk5 rfl)
    | true =>
      cases h3 : (v == 0) with
      | false =>
        have gh2 := (empty_len x.ws).trans h2
        have hm : mb = false := by rw [← hmm]; simp only [gh2, h1, h2, h3, Bool.and_true, Bool.true_and, Bool.false_and, Bool.and_false, Bool.or_true, Bool.true_or, Bool.false_or, Bool.or_false, Bool.not_true, Bool.not_false]
        subst hm
        clear hmm
        rw [if_neg Bool.false_ne_true]
        have hTn : BoxT W2 w.heap.size x s c := HT.out
        have hZn : BoxT W2 (w.heap.size + 1) zeroTh none 0 := HZ.out.kept (Kept.one w.heap.size W2) (by omega)
        go_enter Try.func22, Try.ntmps22
        go_wp2_with (first | refine wpList_loadT (by rfl) (by rfl) (by rfl) (by assumption) ?_ | (refine wpList_storeT (by rfl) (by rfl) (by rfl) (by rfl) (by assumption) ?_; intro W5 hB5 hk5; obtain ⟨e0, e1, e2, e3, e4, e5, e6, e7, e8, e9, e10, e11, e12, e13, e14⟩ := hB5.cells))
        exact bodyPost_ret (v := .tuple #[Th.agg x s c, .bool false]) (by simp [results, Try.results22, go_sem, e0, e1, e2, e3, e4, e5, e6, e7, e8, e9, e10, e11, e12, e13, e14]) rfl (HFIN.out _ _ _ _ (Kept.one w.heap.size W2) hk5 rfl)
      | true =>
        have gh2 := (empty_len x.ws).trans h2
        have hm : mb = true := by rw [← hmm]; simp only [gh2, h1, h2, h3, Bool.and_true, Bool.true_and, Bool.false_and, Bool.and_false, Bool.or_true, Bool.true_or, Bool.false_or, Bool.or_false, Bool.not_true, Bool.not_false]
        subst hm
        clear hmm
        rw [if_pos rfl, show x = x from rfl]
        have hTn : BoxT W2 w.heap.size x s c := HT.out
        have hZn : BoxT W2 (w.heap.size + 1) zeroTh none 0 := HZ.out.kept (Kept.one w.heap.size W2) (by omega)
        go_enter Try.func22, Try.ntmps22
        go_wp2_with (first | refine wpList_loadT (by rfl) (by rfl) (by rfl) (by assumption) ?_ | (refine wpList_storeT (by rfl) (by rfl) (by rfl) (by rfl) (by assumption) ?_; intro W5 hB5 hk5; obtain ⟨e0, e1, e2, e3, e4, e5, e6, e7, e8, e9, e10, e11, e12, e13, e14⟩ := hB5.cells))
        exact bodyPost_ret (v := .tuple #[Th.agg x s c, .bool true]) (by simp [results, Try.results22, go_sem, e0, e1, e2, e3, e4, e5, e6, e7, e8, e9, e10, e11, e12, e13, e14]) rfl (HFIN.out _ _ _ _ (Kept.one w.heap.size W2) hk5 rfl)

set_option maxHeartbeats 4000000 in
set_option maxRecDepth 100000 in
theorem rlock_no (x : Th) (t k v : Int) (s : Option Addr) (c : Nat) (w : World) (hF : Fit x) (hE : InW w x s) (hk0 : k ≠ 1 ∧ k ≠ 3 ∧ k ≠ 5 ∧ k ≠ 6 ∧ k ≠ 7 ∧ k ≠ 10 ∧ k ≠ 11 ∧ k ≠ 12 ∧ k ≠ 13) :
    Calls Try.prog 22 #[x.agg s c, .int .i64 t, .int .i64 k, .int .i64 v] w (SaidB w s x.ws x false) := by
  obtain ⟨W1, W2, hW1, hW2, s1, s2, hT, hZ, hk, hEl⟩ := ref_box x s c w hE
  obtain ⟨c0, c1, c2, c3, c4, c5, c6, c7, c8, c9, c10, c11, c12, c13, c14⟩ := hT.cells
  have HFIN : Hid (∀ Wa W5 (y : Th) r, Kept (fun k => k = w.heap.size) W2 Wa → Kept (fun k => k = w.heap.size + 1) Wa W5 → y.ws = x.ws → SaidB w s x.ws y r (.returned (.tuple #[y.agg s c, .bool r])) W5) := Lib.hid (fun Wa W5 y r hA h5 hws => fin_said hk hA h5 hws)
  have HT := Lib.hid hT
  have HZ := Lib.hid hZ
  obtain ⟨n1, n3, n5, n6, n7, n10, n11, n12, n13⟩ := hk0
  clear hk hEl hF hE hT hZ
  have hTn := HT.out
  have hZn := HZ.out
  go_enter Try.func22, Try.ntmps22
  go_wp2_with (first | refine wpList_loadT (by rfl) (by rfl) (by rfl) (by assumption) ?_ | (refine wpList_storeT (by rfl) (by rfl) (by rfl) (by rfl) (by assumption) ?_; intro W5 hB5 hk5; obtain ⟨e0, e1, e2, e3, e4, e5, e6, e7, e8, e9, e10, e11, e12, e13, e14⟩ := hB5.cells))
  exact bodyPost_ret (v := .tuple #[Th.agg x s c, .bool false]) (by simp [results, Try.results22, go_sem, e0, e1, e2, e3, e4, e5, e6, e7, e8, e9, e10, e11, e12, e13, e14]) rfl (HFIN.out _ _ _ _ (Kept.one w.heap.size W2) hk5 rfl)

end Go.Proofs.Ythjblniabnjfhaa
