/-
  For every input the statement ModelHolds answers true: a lock that is taken so often, and freed as often, is nobody's; once less, and it is still its holder's.
  Conditions: none.
-/
import Derived.Test.YthjblniabnjfhaaModLight
import Derived.Test.YthjblniabnjfhaaModSame
import Derived.Test.YthjblniabnjfhaaModCopyR
import Derived.Test.YthjblniabnjfhaaModStep
import Derived.WalkKit
import Derived.ProofKit
import Derived.OpenShut
namespace Go.Proofs.Ythjblniabnjfhaa
namespace modelHolds
open Go.ChangeShapes Go.WideShapes Go.ChangeAt Go.RowKit
set_option linter.unusedVariables false
set_option linter.unusedSimpArgs false

/-- A lock that t took i times. -/
def holdT (t : Int) (i : Nat) : Th := ⟨1, 0, if i = 0 then -1 else t, i, fun _ => 0, [], -1, 0⟩
theorem hold_zero (t : Int) : holdT t 0 = newM 1 0 := rfl
theorem hold_fit (t : Int) (i : Nat) (hi : i ≤ 1000) : Fit (holdT t i) where
  n0 := by show (-2000000 : Int) ≤ 0; decide
  n1 := by show (0 : Int) ≤ 2000000; decide
  h0 := by show -2000000 ≤ (i : Int); omega
  h1 := by show (i : Int) ≤ 2000000; omega
  r0 := fun _ _ => by show (-2000000 : Int) ≤ 0; decide
  r1 := fun _ _ => by show (0 : Int) ≤ 2000000; decide
  ws := by show 0 ≤ 200; decide
  o0 := by show (-9223372036854775808 : Int) ≤ -1; decide
  o1 := by show (-1 : Int) ≤ 9223372036854775807; decide
  t0 := fun q h => by cases h
  t1 := fun q h => by cases h
theorem hold_may (t : Int) (h0 : 0 ≤ t) (h7 : t ≤ 7) (i : Nat) (hi : i < 1000) : mayM (holdT t i) t 1 1 = true := by
  unfold mayM mayInM
  rw [if_neg (by omega)]
  show (lockMayM (holdT t i) t 1 1 || quitM 1 1) = true
  show ((isForM (holdT t i) t 1 || ((1 : Int) == 1 && onceM (holdT t i) t)) || quitM 1 1) = true
  by_cases h : i = 0
  · subst h
    rfl
  · have : onceM (holdT t i) t = true := by
      unfold onceM holdT
      simp only [h, if_false, beq_self_eq_true, Bool.true_and, decide_eq_true_eq]
      omega
    rw [this]
    simp
theorem hold_take (t : Int) (h0 : 0 ≤ t) (h7 : t ≤ 7) (i : Nat) (hi : i < 1000) : doM (holdT t i) t 1 1 = holdT t (i + 1) := by
  unfold doM
  rw [if_pos (hold_may t h0 h7 i hi)]
  show takeM (holdT t i) t 1 = _
  unfold takeM
  by_cases h : i = 0
  · subst h
    rfl
  · have e : ((holdT t i).kind == 1 && (holdT t i).owner == -1) = false := by
      unfold holdT
      simp only [h, if_false]
      rw [Bool.and_eq_false_iff]
      right
      rw [beq_eq_false_iff_ne]
      omega
    rw [e]
    unfold holdT
    simp [h]
theorem hold_free_may (t : Int) (h0 : 0 ≤ t) (h7 : t ≤ 7) (i : Nat) : mayM (holdT t (i + 1)) t 3 0 = true := by
  unfold mayM mayInM
  rw [if_neg (by omega)]
  show (((0 : Int) == 0 && (holdT t (i + 1)).owner == t) || quitM 3 0) = true
  have : (holdT t (i + 1)).owner = t := by unfold holdT; simp
  rw [this]
  simp
theorem hold_free (t : Int) (h0 : 0 ≤ t) (h7 : t ≤ 7) (i : Nat) : doM (holdT t (i + 1)) t 3 0 = holdT t i := by
  unfold doM
  rw [if_pos (hold_free_may t h0 h7 i)]
  show freeM (holdT t (i + 1)) = _
  unfold freeM holdT
  by_cases h : i = 0
  · subst h
    rfl
  · have e : (((i + 1 : Nat) : Int) - 1 == 0) = false := by rw [beq_eq_false_iff_ne]; omega
    simp only [e, Bool.false_eq_true, if_false, h, Nat.add_eq_zero_iff]
    congr 1
    · omega
theorem hold_none (t : Int) (h0 : 0 ≤ t) (h7 : t ≤ 7) : mayM (holdT t 0) t 3 0 = false := by
  unfold mayM mayInM
  rw [if_neg (by omega)]
  show (((0 : Int) == 0 && (-1 : Int) == t) || quitM 3 0) = false
  have : ((-1 : Int) == t) = false := by rw [beq_eq_false_iff_ne]; omega
  rw [this]
  rfl
theorem hold_keep (t : Int) (h0 : 0 ≤ t) (h7 : t ≤ 7) : doM (holdT t 0) t 3 0 = holdT t 0 := by
  unfold doM
  rw [hold_none t h0 h7]
  rfl
theorem hold_can (t t' : Int) (h0 : 0 ≤ t) (i : Nat) (hn : t' ≠ t) : canM (holdT t (i + 1)) t' 1 0 = false := by
  unfold canM mayM mayInM
  split
  · simp
  · show ((1 : Int) == 1 && ((isForM (holdT t (i + 1)) t' 1 || ((1 : Int) == 1 && onceM (holdT t (i + 1)) t')) || quitM 1 1)) = false
    have e1 : isForM (holdT t (i + 1)) t' 1 = false := by
      unfold isForM holdT
      have : ((if i + 1 = 0 then (-1 : Int) else t) == -1) = false := by rw [beq_eq_false_iff_ne]; simp; omega
      rw [this]
      rfl
    have e2 : onceM (holdT t (i + 1)) t' = false := by
      unfold onceM holdT
      have : ((if i + 1 = 0 then (-1 : Int) else t) == t') = false := by rw [beq_eq_false_iff_ne]; simp; omega
      rw [this]
      rfl
    rw [e1, e2]
    rfl
theorem hold_owner (t : Int) (i : Nat) : (holdT t (i + 1)).owner = t := by unfold holdT; simp
theorem next_not (n : Nat) (h : n < 8) : ((n : Int) + 1).tmod 8 ≠ (n : Int) := by
  have : n = 0 ∨ n = 1 ∨ n = 2 ∨ n = 3 ∨ n = 4 ∨ n = 5 ∨ n = 6 ∨ n = 7 := by omega
  rcases this with rfl | rfl | rfl | rfl | rfl | rfl | rfl | rfl <;> decide

set_option maxHeartbeats 8000000 in
set_option maxRecDepth 100000 in
theorem outside (t often : Int) (w : World) (h : t < 0 ∨ 7 < t ∨ often < 1 ∨ 1000 < often) : Calls Try.prog 7 #[.int .i64 t, .int .i64 often] w fun e w' => e = .returned (.bool true) ∧ Below w.heap.size w w' := by
  by_cases a0 : t < 0
  · go_enter Try.func7, Try.ntmps7
    go_wp2_with fail
    refine (up_any _).mono ?_
    rintro e w1 ⟨rfl, hk1⟩
    go_wp2_with fail
    go_ret
    exact ⟨rfl, hk1.below (Nat.le_refl _) (fun _ f => f.elim)⟩
  by_cases a1 : 7 < t
  · go_enter Try.func7, Try.ntmps7
    go_wp2_with fail
    refine (up_any _).mono ?_
    rintro e w1 ⟨rfl, hk1⟩
    go_wp2_with fail
    go_ret
    exact ⟨rfl, hk1.below (Nat.le_refl _) (fun _ f => f.elim)⟩
  by_cases a2 : often < 1
  · go_enter Try.func7, Try.ntmps7
    go_wp2_with fail
    refine (up_any _).mono ?_
    rintro e w1 ⟨rfl, hk1⟩
    go_wp2_with fail
    go_ret
    exact ⟨rfl, hk1.below (Nat.le_refl _) (fun _ f => f.elim)⟩
  have a3 : 1000 < often := by omega
  clear h
  go_enter Try.func7, Try.ntmps7
  go_wp2_with fail
  refine (up_any _).mono ?_
  rintro e w1 ⟨rfl, hk1⟩
  go_wp2_with fail
  go_ret
  exact ⟨rfl, hk1.below (Nat.le_refl _) (fun _ f => f.elim)⟩

set_option maxHeartbeats 8000000 in
set_option maxRecDepth 100000 in
theorem inside (t often : Int) (w : World) (a0 : ¬ t < 0) (a1 : ¬ 7 < t) (a2 : ¬ often < 1) (a3 : ¬ 1000 < often) : Calls Try.prog 7 #[.int .i64 t, .int .i64 often] w fun e w' => e = .returned (.bool true) ∧ Below w.heap.size w w' := by
  obtain ⟨n, rfl⟩ : ∃ n : Nat, t = n := ⟨t.toNat, by omega⟩
  obtain ⟨m, rfl⟩ : ∃ m : Nat, often = m := ⟨often.toNat, by omega⟩
  have hn : n < 8 := by omega
  have hm : m ≤ 1000 := by omega
  obtain ⟨X, hX⟩ : ∃ X : Nat → Th, X = holdT (n : Int) := ⟨_, rfl⟩
  have hws : ∀ i, (X i).ws = [] := fun i => by rw [hX]; rfl
  have HNEW : Hid (∀ w', Calls Try.prog 12 #[.agg #[.int .i64 1, .bool false, .int .i64 0]] w' fun e w'' => e = .returned ((X 0).agg none 0) ∧ Kept (fun _ => False) w' w'') := Lib.hid (fun w' => by rw [hX, hold_zero]; exact new_any 1 0 false w')
  have HCP : Hid (∀ w' s c, Calls Try.prog 16 #[(X 0).agg s c] w' (Copied w' (X 0))) := Lib.hid (fun w' s c => copyR_any (X 0) s c w' (by rw [hws]; exact Nat.zero_le _) (inW_nil (hws 0) s))
  have HD1 : Hid (∀ i, i < m → ∀ w' s c, Calls Try.prog 14 #[(X i).agg s c, .int .i64 (n : Int), .agg #[.int .i64 1, .int .i64 1]] w' (Told w' (X (i + 1)) true)) := Lib.hid (fun i hi w' s c => by
    have h := do_any (X i) (n : Int) 1 1 s c w' (by rw [hX]; exact hold_fit _ i (by omega)) (inW_nil (hws i) s) (by decide) (by decide)
    rw [hX] at h ⊢
    rw [hold_take _ (by omega) (by omega) i (by omega), hold_may _ (by omega) (by omega) i (by omega)] at h
    exact h)
  have HD3 : Hid (∀ i, i < m → ∀ w' s c, Calls Try.prog 14 #[(X (i + 1)).agg s c, .int .i64 (n : Int), .agg #[.int .i64 3, .int .i64 0]] w' (Told w' (X i) true)) := Lib.hid (fun i hi w' s c => by
    have h := do_any (X (i + 1)) (n : Int) 3 0 s c w' (by rw [hX]; exact hold_fit _ (i + 1) (by omega)) (inW_nil (hws (i + 1)) s) (by decide) (by decide)
    rw [hX] at h ⊢
    rw [hold_free _ (by omega) (by omega) i, hold_free_may _ (by omega) (by omega) i] at h
    exact h)
  have HD0 : Hid (∀ w' s c, Calls Try.prog 14 #[(X 0).agg s c, .int .i64 (n : Int), .agg #[.int .i64 3, .int .i64 0]] w' (Told w' (X 0) false)) := Lib.hid (fun w' s c => by
    have h := do_any (X 0) (n : Int) 3 0 s c w' (by rw [hX]; exact hold_fit _ 0 (by omega)) (inW_nil (hws 0) s) (by decide) (by decide)
    rw [hX] at h ⊢
    rw [hold_keep _ (by omega) (by omega), hold_none _ (by omega) (by omega)] at h
    exact h)
  have HCA : Hid (∀ i, i < m → ∀ w' s c, Calls Try.prog 17 #[(X (i + 1)).agg s c, .int .i64 (((n : Int) + 1).tmod 8), opAgg 1 0 0 0 false] w' fun e w'' => e = .returned (.bool false) ∧ Kept (fun _ => False) w' w'') := Lib.hid (fun i hi w' s c =>
    can_any (X (i + 1)) _ 1 0 0 0 false s c w' (by rw [hX]; exact hold_fit _ (i + 1) (by omega)) (inW_nil (hws (i + 1)) s) (by decide) (by decide) false (by rw [hX]; exact hold_can _ _ (by omega) i (next_not n hn)))
  have HSM : Hid (∀ w' sa ca sb cb, Calls Try.prog 11 #[(X 0).agg sa ca, (X 0).agg sb cb] w' fun e w'' => e = .returned (.bool true) ∧ Kept (fun _ => False) w' w'') := Lib.hid (fun w' sa ca sb cb =>
    same_any (X 0) (X 0) sa sb ca cb w' (inW_nil (hws 0) sa) (inW_nil (hws 0) sb) (by rw [hws]; exact Nat.zero_le _) true (sameM_refl _))
  have HOW : Hid (∀ i, (X (i + 1)).owner = n ∧ (X (i + 1)).holds = (i : Int) + 1) := Lib.hid (fun i => by rw [hX]; exact ⟨hold_owner _ i, by unfold holdT; simp⟩)
  clear hX hws
  go_enter Try.func7, Try.ntmps7
  go_wp2_with fail
  refine (up_any _).mono ?_
  rintro e w1 ⟨rfl, hk1⟩
  have HK1 := Lib.hid hk1; clear hk1
  go_wp2_with fail
  refine (HNEW.out _).mono ?_
  rintro e w2 ⟨rfl, hk2⟩
  have HK2 := Lib.hid (HK1.out.tr0 hk2); clear hk2
  go_wp2_with (first | refine wpList_loadT (by rfl) (by rfl) (by rfl) (by first | assumption | exact BoxT.past (by assumption) _) ?_ | (refine wpList_storeT (by rfl) (by rfl) (by rfl) (by rfl) (BoxT.fresh _) ?_; intro WS hBS hKS; skip))
  refine (HCP.out _ _ _).mono ?_
  rintro e w4 ⟨sw, cw, rfl, -, hk4⟩
  have hX4 : BoxT w4 w2.heap.size (X 0) none 0 := hBS.kept0 hk4
  have HK4 : Hid (Below w.heap.size w w4) := Lib.hid (belK (belF (HK2.out.below (Nat.le_refl _) (fun _ f => f.elim)) (Nat.le_refl _) hKS) (Nat.le_refl _) hk4)
  have z0 : w.heap.size ≤ w2.heap.size := HK2.out.size
  have z1 : w2.heap.size < w4.heap.size := hX4.lt
  clear hk4 hBS hKS WS
  go_wp2_with (first | refine wpList_loadT (by rfl) (by rfl) (by rfl) (by first | assumption | exact BoxT.past (by assumption) _) ?_ | (refine wpList_storeT (by rfl) (by rfl) (by rfl) (by rfl) (BoxT.fresh _) ?_; intro WS hBS hKS; have hXS := (hX4.past _).kept hKS (by omega)))
  have HBL5 : Hid (Below w.heap.size w WS) := Lib.hid (belF HK4.out (Nat.le_refl _) hKS)
  have HX5 := Lib.hid hXS
  have HY5 := Lib.hid hBS
  have HW : Hid (w2.heap.size ≠ w4.heap.size ∧ w.heap.size ≤ w2.heap.size) := Lib.hid (by omega)
  clear hXS hBS hKS hX4 z0 z1
  go_loopw [8] (fun i wr => ∃ (k : Nat) (s : Option Addr) (c : Nat), i = .int .i64 k ∧ k ≤ m ∧ BoxT wr w2.heap.size (X k) s c ∧ BoxT wr w4.heap.size (X 0) sw cw ∧ Below w.heap.size w wr) (fun i _ => m - (intOf i).toNat)
  case atStart => exact ⟨0, none, 0, rfl, Nat.zero_le _, HX5.out, HY5.out, HBL5.out⟩
  case round =>
    obtain ⟨k, s, c, rfl, hk, hX, hY, hbl⟩ := hrel
    have HBL := Lib.hid hbl
    clear hbl
    by_cases hlt : k < m
    · have k1 : (k : Int) < (m : Int) := by omega
      have k2 : (k : Int) + 1 ≤ 1000 := by omega
      go_wp2_with (refine wpList_loadT (by rfl) (by rfl) (by rfl) (by first | assumption | exact BoxT.past (by assumption) _) ?_)
      refine (HD1.out k hlt _ _ _).mono ?_
      rintro e w6 ⟨s6, c6, rfl, -, hk6⟩
      have hX6 := hX.kept0 hk6
      have hY6 := hY.kept0 hk6
      have HBL6 := Lib.hid (belK HBL.out (Nat.le_refl _) hk6)
      clear hk6
      go_wp2_with (first | refine wpList_loadT (by rfl) (by rfl) (by rfl) (by first | assumption | exact BoxT.past (by assumption) _) ?_ | (refine wpList_storeT (by rfl) (by rfl) (by rfl) (by rfl) (BoxT.fresh _) ?_; intro WS hBS hKS; have hXS := (hX6.past _).kept hKS (Nat.ne_of_lt hX6.lt); have hYS := (hY6.past _).kept hKS (Nat.ne_of_lt hY6.lt)) | (refine wpList_storeT (by rfl) (by rfl) (by rfl) (by rfl) (by assumption) ?_; intro WT hBT hKT))
      have HX9 := Lib.hid hBT
      have HY9 := Lib.hid (hYS.kept hKT (fun e => HW.out.1 e.symm))
      have HBL9 := Lib.hid (bel1 (belF HBL6.out (Nat.le_refl _) hKS) (Nat.le_refl _) hKT HW.out.2)
      clear hX hY hX6 hY6 hBS hXS hYS hKS hBT hKT
      go_roundw
      case rel => exact ⟨k + 1, s6, c6, by go_num, by omega, HX9.out, HY9.out, HBL9.out⟩
      case measure => simp [intOf]; omega
    · obtain rfl : k = m := by omega
      have k1 : ¬ ((k : Int) < (k : Int)) := by omega
      have HX := Lib.hid hX
      have HY := Lib.hid hY
      clear hX hY
      go_wp2_with fail
      go_loopw [11] (fun i wr => ∃ (j : Nat) (s : Option Addr) (c : Nat), i = .int .i64 j ∧ j ≤ k ∧ BoxT wr w2.heap.size (X (k - j)) s c ∧ BoxT wr w4.heap.size (X 0) sw cw ∧ Below w.heap.size w wr) (fun i _ => k - (intOf i).toNat)
      case atStart => exact ⟨0, s, c, rfl, Nat.zero_le _, HX.out, HY.out, HBL.out⟩
      case round =>
        obtain ⟨j, sj, cj, rfl, hj, hX, hY, hbl⟩ := hrel
        have HBLj := Lib.hid hbl
        clear hbl
        by_cases hlt : j < k
        · obtain ⟨i, hi⟩ : ∃ i, k - j = i + 1 := ⟨k - j - 1, by omega⟩
          rw [hi] at hX
          obtain ⟨_, _, c2, c3, _, _, _, _, _, _, _, _, _, _, _⟩ := hX.cells
          have HI : Hid (k - (j + 1) = i) := Lib.hid (by omega)
          have him : i < k := by omega
          have o1 : ((X (i + 1)).owner != (n : Int)) = false := by rw [(HOW.out i).1]; simp
          have o2 : ((X (i + 1)).holds != (k : Int) - (j : Int)) = false := by rw [(HOW.out i).2]; simp; omega
          have j1 : (j : Int) < (k : Int) := by omega
          have j2 : (j : Int) + 1 ≤ 1000 := by omega
          have j3 : (k : Int) - (j : Int) ≤ 1000 := by omega
          have j4 : 0 ≤ (k : Int) - (j : Int) := by omega
          have j5 : (n : Int) + 1 ≤ 8 := by omega
          clear hi
          go_wp2_with (refine wpList_loadT (by rfl) (by rfl) (by rfl) (by first | assumption | exact BoxT.past (by assumption) _) ?_)
          refine (HCA.out i him _ _ _).mono ?_
          rintro e w5 ⟨rfl, hk5⟩
          have hX5 := hX.kept0 hk5
          have hY5 := hY.kept0 hk5
          have HBL5 := Lib.hid (belK HBLj.out (Nat.le_refl _) hk5)
          clear hk5 c2 c3 hX hY
          go_wp2_with (refine wpList_loadT (by rfl) (by rfl) (by rfl) (by first | assumption | exact BoxT.past (by assumption) _) ?_)
          refine (HD3.out i him _ _ _).mono ?_
          rintro e w6 ⟨s6, c6, rfl, -, hk6⟩
          have hX6 := hX5.kept0 hk6
          have hY6 := hY5.kept0 hk6
          have HBL6 := Lib.hid (belK HBL5.out (Nat.le_refl _) hk6)
          clear hk6 hX5 hY5
          go_wp2_with (first | refine wpList_loadT (by rfl) (by rfl) (by rfl) (by first | assumption | exact BoxT.past (by assumption) _) ?_ | (refine wpList_storeT (by rfl) (by rfl) (by rfl) (by rfl) (BoxT.fresh _) ?_; intro WS hBS hKS; have hXS := (hX6.past _).kept hKS (Nat.ne_of_lt hX6.lt); have hYS := (hY6.past _).kept hKS (Nat.ne_of_lt hY6.lt)) | (refine wpList_storeT (by rfl) (by rfl) (by rfl) (by rfl) (by assumption) ?_; intro WT hBT hKT))
          have HX9 := Lib.hid hBT
          have HY9 := Lib.hid (hYS.kept hKT (fun e => HW.out.1 e.symm))
          have HBL9 := Lib.hid (bel1 (belF HBL6.out (Nat.le_refl _) hKS) (Nat.le_refl _) hKT HW.out.2)
          clear hX6 hY6 hBS hXS hYS hKS hBT hKT
          go_roundw
          case rel => exact ⟨j + 1, s6, c6, by go_num, by omega, by rw [HI.out]; exact HX9.out, HY9.out, HBL9.out⟩
          case measure => simp [intOf]; omega
        · have hjk : j = k := by omega
          subst hjk
          rw [Nat.sub_self] at hX
          have j1 : ¬ ((j : Int) < (j : Int)) := by omega
          go_wp2_with (refine wpList_loadT (by rfl) (by rfl) (by rfl) (by first | assumption | exact BoxT.past (by assumption) _) ?_)
          refine (HD0.out _ _ _).mono ?_
          rintro e w6 ⟨s6, c6, rfl, -, hk6⟩
          have hX6 := hX.kept0 hk6
          have hY6 := hY.kept0 hk6
          have HBL6 := Lib.hid (belK HBLj.out (Nat.le_refl _) hk6)
          clear hk6 hX hY
          go_wp2_with (first | refine wpList_loadT (by rfl) (by rfl) (by rfl) (by first | assumption | exact BoxT.past (by assumption) _) ?_ | (refine wpList_storeT (by rfl) (by rfl) (by rfl) (by rfl) (BoxT.fresh _) ?_; intro WS hBS hKS; have hXS := (hX6.past _).kept hKS (Nat.ne_of_lt hX6.lt); have hYS := (hY6.past _).kept hKS (Nat.ne_of_lt hY6.lt)) | (refine wpList_storeT (by rfl) (by rfl) (by rfl) (by rfl) (by assumption) ?_; intro WT hBT hKT))
          have HBL7 := Lib.hid (belF HBL6.out (Nat.le_refl _) hKS)
          refine (HSM.out _ _ _ _ _).mono ?_
          rintro e w8 ⟨rfl, hk8⟩
          have HBL8 := Lib.hid (belK HBL7.out (Nat.le_refl _) hk8)
          clear hk8
          go_wp2_with fail
          go_ret
          exact ⟨rfl, HBL8.out⟩

theorem walk (t often : Int) (w0 : (Lit.int .i64 t).wf = true) (w1 : (Lit.int .i64 often).wf = true) (w : World) : Calls Try.prog 7 #[.int .i64 t, .int .i64 often] w fun e w' => e = .returned (.bool true) ∧ Below w.heap.size w w' := by
  by_cases h : t < 0 ∨ 7 < t ∨ often < 1 ∨ 1000 < often
  · exact outside t often w h
  · exact inside t often w (by omega) (by omega) (by omega) (by omega)

theorem own : ownKnob Try.prog.godebug = none := by kernel_rfl

set_option maxRecDepth 100000 in
theorem lifted (os : Os) (started : os.Started) (H : Type) (enc : TypeId × Value → H) :
    ReturnsInHanded {} Try.checked os 7 .any (Rows.modelHoldsSpec.pre6 enc Try.prog Try.f7 Rows.modelHoldsRow.domain false) (Rows.modelHoldsSpec.post enc Try.prog Try.f7 false true false false) := by
  refine returnsInHanded_of_change (C := Try.checked) own started (by kernel_rfl) Try.func7
    (ChangeSpec.witness6 (enc := enc) (C := Try.checked) false ⟨#[], #[.int .i64 0, .int .i64 0], []⟩ 8 (by kernel_rfl) (by kernel_rfl) (by kernel_rfl) (by kernel_rfl)) ?_
  intro W base args ds gs before hval0 hW hcnd _
  have hval : ∀ (j : Nat) t v, Try.f7.params[j]? = some t → args[j]? = some v → Value.okWide Try.prog W .any base t v := hval0
  have hW' := hW
  obtain ⟨p, q, hA0, hV, rfl, hfz, hnd⟩ := hW
  have hA : DataW.TrodAll enc Try.prog W 0 (fun _ => true) true Try.f7.params.toList args.toList ds p := hA0
  rw [Try.params7] at hA hval
  obtain ⟨v0, vs0, d0, ds0, p0, q0, hargs, rfl, rfl, h0, r0⟩ := trodAll_cons hA
  obtain ⟨v1, vs1, d1, ds1, p1, q1, rfl, rfl, rfl, h1, r1⟩ := trodAll_cons r0
  obtain ⟨rfl, rfl, rfl⟩ := trodAll_nil r1
  obtain rfl : args = #[v0, v1] := by cases args; simp_all
  obtain ⟨rfl, rfl⟩ := trodVars_none hV
  obtain ⟨a0, rfl, rfl, rfl, w0⟩ := open_int Try.underlying3 (hval 0 3 v0 rfl rfl) h0
  obtain ⟨a1, rfl, rfl, rfl, w1⟩ := open_int Try.underlying3 (hval 1 3 v1 rfl rfl) h1
  clear hA0 hval0
  refine (walk a0 a1 w0 w1 W).mono fun e W' ⟨he, bel⟩ => ?_
  subst he
  exact ⟨_, rfl, _, _, _, [], _, [], hW', trodAll_mk1 (shut_bool Try.underlying4 _), (trodAll_cons_mk (shut_int Try.underlying3 w0) (trodAll_cons_mk (shut_int Try.underlying3 w1) trodAll_mk0)), rfl, bel.frame _, fun h => by cases h⟩

theorem over : Rows.modelHoldsRow.holds Try.pinned (OpenSpec.ofChange Rows.modelHoldsSpec) :=
  OpenClaim.holds_of_wide 7 Try.f7 rfl rfl rfl rfl rfl rfl rfl ⟨rfl, rfl, rfl, rfl, rfl⟩ rfl rfl rfl rfl rfl (by kernel_rfl) Try.func7 (by kernel_rfl)
    (of_decide_eq_true (by kernel_rfl)) (by unfold Func.isWrapper; first | (rw [if_pos (by decide +kernel)]; kernel_rfl) | (rw [if_neg (by decide +kernel)]; exact ⟨rfl, rfl⟩))
    (fun os started H enc _ => lifted os started H enc)

end modelHolds
/-- The statement. -/
theorem modelHolds_holds : Rows.ModelHoldsSaid := modelHolds.over
end Go.Proofs.Ythjblniabnjfhaa
