/-
  For every input the statement ModelBack answers true: what was taken, and is freed, is as it was: a lock, permits, a writing, a reading, an offer.
  Conditions: none.
-/
import Derived.Test.YthjblniabnjfhaaModArg
import Derived.Test.YthjblniabnjfhaaModBackP
import Derived.Test.YthjblniabnjfhaaModSame
import Derived.Test.YthjblniabnjfhaaModStep
import Derived.Deep.RegionLaw
import Derived.Deep.RegionWith
import Derived.Deep.Cut
import Derived.Deep.CutRange
import Derived.Deep.DeepCutAuto
import Derived.LoopTactic
import Derived.WalkKit
import Derived.ProofKit
import Derived.OpenShut
namespace Go.Proofs.Ythjblniabnjfhaa
namespace modelBack
open Go.ChangeShapes Go.WideShapes Go.ChangeAt Go.RowKit
set_option linter.unusedVariables false
set_option linter.unusedSimpArgs false

/-- Whether the first k reads are no less than none. -/
def okN (v : Bool) (r : Nat → Int) : Nat → Bool
  | 0 => v
  | k + 1 => okN v r k && decide (0 ≤ r k)
theorem okN_read {v : Bool} {r : Nat → Int} : ∀ {k : Nat}, okN v r k = true → v = true ∧ ∀ i, i < k → 0 ≤ r i
  | 0, h => ⟨h, fun i hi => absurd hi (Nat.not_lt_zero _)⟩
  | k + 1, h => by
    unfold okN at h
    simp only [Bool.and_eq_true, decide_eq_true_eq] at h
    obtain ⟨h1, h2⟩ := okN_read (k := k) h.1
    refine ⟨h1, fun i hi => ?_⟩
    by_cases e : i = k
    · subst e; exact h.2
    · exact h2 i (by omega)
/-- What the statement lets go by. -/
def badM (g : Bool) (x : Th) : Bool := !g || decide (x.n < 0) || decide (1000 < x.n) || decide (x.holds < 0) || decide (1000 < x.holds) || (x.kind == 5 && x.offer == -1 && x.item != 0) || ((x.owner == -1) != (x.holds == 0))
theorem calm_good {g : Bool} {x : Th} (h : badM g x = false) : g = true ∧ ((∀ i, i < 8 → 0 ≤ x.r i) → (∀ i, i < 8 → x.r i ≤ 1000000) → Calm x) := by
  unfold badM at h
  simp only [Bool.or_eq_false_iff] at h
  obtain ⟨⟨⟨⟨⟨⟨h1, h2⟩, h3⟩, h4⟩, h5⟩, h6⟩, h7⟩ := h
  refine ⟨by simpa using h1, fun r0 r1 => ?_⟩
  simp only [decide_eq_false_iff_not] at h2 h3 h4 h5
  refine ⟨by omega, r0, r1, by omega, by omega, by omega, ?_, fun e1 e2 => ?_⟩
  · by_cases e : x.owner = -1
    · left
      rw [e] at h7
      exact ⟨e, by simpa using h7⟩
    · right
      refine ⟨e, fun hh => ?_⟩
      rw [hh] at h7
      have : (x.owner == -1) = false := beq_eq_false_iff_ne.2 e
      rw [this] at h7
      simp at h7
  · rw [e1, e2] at h6
    simpa using h6
/-- The marks, one behind the other. -/
def mkK (k : Nat) : Int := if k = 0 then 1 else if k = 1 then 1 else if k = 2 then 2 else 15
def mvK (v : Int) (k : Nat) : Int := if k = 0 then 1 else if k = 1 then v else if k = 2 then 0 else v
def bkK (k : Nat) : Int := if k = 0 then 3 else if k = 1 then 3 else if k = 2 then 4 else 16
def bvK (v : Int) (k : Nat) : Int := if k = 0 then 0 else if k = 1 then v else 0
def skipM (x : Th) (k : Nat) : Bool := (k == 0 && x.kind == 2) || (k == 1 && x.kind != 2)
theorem marks_at {w : World} {g : Nat} {v : Int} (h : w.heap[g]? = some (.cells #[.int .i64 1, .int .i64 1, .int .i64 1, .int .i64 v, .int .i64 2, .int .i64 0, .int .i64 15, .int .i64 v] 29 (0, 0))) {k : Nat} (hk : k < 4) : w.cell? ⟨g, k * 2, none⟩ = some (.int .i64 (mkK k)) ∧ w.cell? ⟨g, k * 2 + 1, none⟩ = some (.int .i64 (mvK v k)) := by
  obtain rfl | rfl | rfl | rfl : k = 0 ∨ k = 1 ∨ k = 2 ∨ k = 3 := by omega
  all_goals exact ⟨by rw [cell_at w _ _ _ _ h]; rfl, by rw [cell_at w _ _ _ _ h]; rfl⟩
theorem backs_at {w : World} {g : Nat} {v : Int} (h : w.heap[g]? = some (.cells #[.int .i64 3, .int .i64 0, .int .i64 3, .int .i64 v, .int .i64 4, .int .i64 0, .int .i64 16, .int .i64 0] 29 (0, 0))) {k : Nat} (hk : k < 4) : w.cell? ⟨g, k * 2, none⟩ = some (.int .i64 (bkK k)) ∧ w.cell? ⟨g, k * 2 + 1, none⟩ = some (.int .i64 (bvK v k)) := by
  obtain rfl | rfl | rfl | rfl : k = 0 ∨ k = 1 ∨ k = 2 ∨ k = 3 := by omega
  all_goals exact ⟨by rw [cell_at w _ _ _ _ h]; rfl, by rw [cell_at w _ _ _ _ h]; rfl⟩
theorem val_in {v : Int} (hv : -9223372036854775808 ≤ v ∧ v ≤ 9223372036854775807) (k : Nat) : (-9223372036854775808 ≤ mvK v k ∧ mvK v k ≤ 9223372036854775807) ∧ (-9223372036854775808 ≤ bvK v k ∧ bvK v k ≤ 9223372036854775807) := by
  unfold mvK bvK
  constructor <;> (repeat' split) <;> omega
theorem not3_all {x : Th} {t v : Int} {k : Nat} (hk : k < 4) (hs : skipM x k = false) (hm : mayM x t (mkK k) (mvK v k) = true) : (x.kind == 3) = false := by
  obtain rfl | rfl | rfl | rfl : k = 0 ∨ k = 1 ∨ k = 2 ∨ k = 3 := by omega
  · exact take_not3 hm
  · have : x.kind = 2 := by unfold skipM at hs; simpa using hs
    rw [this]; rfl
  · rw [read_kind (may_t hm).2.2]; rfl
  · rw [offer_kind (may_t hm).2.2]; rfl
theorem back_all {x : Th} {t v : Int} {k : Nat} (hk : k < 4) (hF : Fit x) (hx : Calm x) (hs : skipM x k = false) (hm : mayM x t (mkK k) (mvK v k) = true) (h3 : (x.kind == 3) = false) :
    mayM (doM x t (mkK k) (mvK v k)) t (bkK k) (bvK v k) = true ∧ doM (doM x t (mkK k) (mvK v k)) t (bkK k) (bvK v k) = x ∧ Fit (doM x t (mkK k) (mvK v k)) := by
  obtain rfl | rfl | rfl | rfl : k = 0 ∨ k = 1 ∨ k = 2 ∨ k = 3 := by omega
  · exact back_take hF hx hm (fun e => by unfold skipM at hs; rw [e] at hs; simp at hs) (beq_eq_false_iff_ne.1 h3)
  · exact back_permits hF hx hm (by unfold skipM at hs; simpa using hs)
  · exact back_read hF hx hm
  · exact back_offer hF hx hm

set_option maxHeartbeats 16000000 in
set_option maxRecDepth 100000 in
theorem main_bad {x : Th} {s : Option Addr} {c : Nat} {t v : Int} {w : World} {b : Bool} (HE0 : Hid (InW w x s)) (HL : Hid (lightM x = b)) (hok : ThOk x) (hv : -9223372036854775808 ≤ v ∧ v ≤ 9223372036854775807) (HBD : Hid (badM (okN b x.r 8) x = true)) : Calls Try.prog 4 #[x.agg s c, .int .i64 t, .int .i64 v] w fun e w' => e = .returned (.bool true) ∧ Below w.heap.size w w' := by
  go_enter Try.func4, Try.ntmps4
  go_wp2_with fail
  refine (up_any _).mono ?_
  rintro e w1 ⟨rfl, hk1⟩
  have hT_0 := (BoxT.new w x s c).kept0 hk1
  have HE_0 := Lib.hid ((HE0.out.kept0 ((Kept.refl _ w).alloc (.cells (x.box s c) 27))).kept0 hk1)
  have HBL_0 := Lib.hid ((((Kept.refl (fun _ => False) w).alloc (.cells (x.box s c) 27)).tr0 hk1).below (Nat.le_refl _) (fun _ f => f.elim))
  clear hk1
  go_wp2_with (first | refine wpList_loadT (by rfl) (by rfl) (by rfl) (by first | assumption | exact BoxT.past (by assumption) _ | exact BoxT.stepF (by assumption) (by assumption)) ?_ | refine wpList_loadN (by rfl) (by rfl) (by rfl) (by first | assumption | exact BoxN.stepF (by assumption) (by assumption)) ?_ | (refine wpList_storeT (by rfl) (by rfl) (by rfl) (by rfl) (BoxT.fresh _) ?_; intro WS hBS hKS))
  refine (light_any x s c _ _ HL.out).mono ?_
  rintro e wl ⟨rfl, hk2⟩
  have hT_1 := hT_0.kept0 hk2
  have HE_1 := Lib.hid (HE_0.out.kept0 hk2)
  have HBL_1 := Lib.hid (belK HBL_0.out (Nat.le_refl _) hk2)
  clear hT_0 HE_0 HBL_0
  clear hk2
  have HT := Lib.hid hT_1
  obtain ⟨c0, c1, c2, c3, _, _, _, _, _, _, _, _, _, c13, c14⟩ := hT_1.cells
  clear hT_1
  go_wp2_with fail
  go_loopw [8, 9] (fun a i wr => ∃ k : Nat, a = .bool (okN b x.r k) ∧ i = .int .i64 k ∧ k ≤ 8 ∧ wr = wl) (fun _ i _ => 8 - (intOf i).toNat)
  case atStart => exact ⟨0, rfl, rfl, by omega, rfl⟩
  case round =>
    obtain ⟨k, rfl, rfl, hk, hwl⟩ := hrel
    subst hwl
    by_cases hkk : k < 8
    · have y0 := HT.out.read hkk
      have k1 : (k : Int) < 8 := by omega
      have k2 : (k : Int) + 1 ≤ 8 := by omega
      have HO : Hid (okN b x.r (k + 1) = (okN b x.r k && decide (0 ≤ x.r k))) := Lib.hid rfl
      cases e0 : okN b x.r k with
      | false =>
        rw [e0] at HO
        go_wp2_with fail
        go_roundw
        case rel => exact ⟨k + 1, by rw [HO.out]; rfl, by go_num, by omega, by first | rfl | trivial⟩
        case measure => simp [intOf]; omega
      | true =>
        rw [e0] at HO
        cases e1 : decide (0 ≤ x.r k) with
        | false =>
          rw [e1] at HO
          go_wp2_with fail
          go_roundw
          case rel => exact ⟨k + 1, by rw [HO.out]; rfl, by go_num, by omega, by first | rfl | trivial⟩
          case measure => simp [intOf]; omega
        | true =>
          rw [e1] at HO
          go_wp2_with fail
          go_roundw
          case rel => exact ⟨k + 1, by rw [HO.out]; rfl, by go_num, by omega, by first | rfl | trivial⟩
          case measure => simp [intOf]; omega
    · obtain rfl : k = 8 := by omega
      obtain ⟨wz, hz⟩ : ∃ wz, wz = wr := ⟨_, rfl⟩
      subst hz
      go_upto_region 7 with fail
      go_cut [8, 77] (fun g8 cnd wx => cnd = .bool (badM (okN b x.r 8) x) ∧ wx = wz)
      case first =>
        cases h1 : (okN b x.r 8) with
        | false =>
          have hbm : badM (okN b x.r 8) x = true := by unfold badM; simp [h1]
          go_wp2_with fail
          go_meet
          exact ⟨by rw [hbm], rfl⟩
        | true =>
          cases h2 : (decide (x.n < 0)) with
          | false =>
            cases h3 : (decide (1000 < x.n)) with
            | false =>
              cases h4 : (decide (x.holds < 0)) with
              | false =>
                cases h5 : (decide (1000 < x.holds)) with
                | false =>
                  cases h6 : (x.kind == 5) with
                  | false =>
                    cases h7 : (x.owner == -1) with
                    | false =>
                      cases h8 : (x.holds == 0) with
                      | false =>
                        have hbm : badM (okN b x.r 8) x = false := by unfold badM; simp [h1, h2, h3, h4, h5, h6, h7, h8]
                        exact absurd (HBD.out.symm.trans hbm) (by decide)
                      | true =>
                        have hbm : badM (okN b x.r 8) x = true := by unfold badM; simp [h1, h2, h3, h4, h5, h6, h7, h8]
                        go_wp2_with fail
                        go_meet
                        exact ⟨by rw [hbm], rfl⟩
                    | true =>
                      cases h9 : (x.holds == 0) with
                      | false =>
                        have hbm : badM (okN b x.r 8) x = true := by unfold badM; simp [h1, h2, h3, h4, h5, h6, h7, h9]
                        go_wp2_with fail
                        go_meet
                        exact ⟨by rw [hbm], rfl⟩
                      | true =>
                        have hbm : badM (okN b x.r 8) x = false := by unfold badM; simp [h1, h2, h3, h4, h5, h6, h7, h9]
                        exact absurd (HBD.out.symm.trans hbm) (by decide)
                  | true =>
                    cases h10 : (x.offer == -1) with
                    | false =>
                      cases h11 : (x.owner == -1) with
                      | false =>
                        cases h12 : (x.holds == 0) with
                        | false =>
                          have hbm : badM (okN b x.r 8) x = false := by unfold badM; simp [h1, h2, h3, h4, h5, h6, h10, h11, h12]
                          exact absurd (HBD.out.symm.trans hbm) (by decide)
                        | true =>
                          have hbm : badM (okN b x.r 8) x = true := by unfold badM; simp [h1, h2, h3, h4, h5, h6, h10, h11, h12]
                          go_wp2_with fail
                          go_meet
                          exact ⟨by rw [hbm], rfl⟩
                      | true =>
                        cases h13 : (x.holds == 0) with
                        | false =>
                          have hbm : badM (okN b x.r 8) x = true := by unfold badM; simp [h1, h2, h3, h4, h5, h6, h10, h11, h13]
                          go_wp2_with fail
                          go_meet
                          exact ⟨by rw [hbm], rfl⟩
                        | true =>
                          have hbm : badM (okN b x.r 8) x = false := by unfold badM; simp [h1, h2, h3, h4, h5, h6, h10, h11, h13]
                          exact absurd (HBD.out.symm.trans hbm) (by decide)
                    | true =>
                      cases h14 : (x.item != 0) with
                      | false =>
                        cases h15 : (x.owner == -1) with
                        | false =>
                          cases h16 : (x.holds == 0) with
                          | false =>
                            have hbm : badM (okN b x.r 8) x = false := by unfold badM; simp [h1, h2, h3, h4, h5, h6, h10, h14, h15, h16]
                            exact absurd (HBD.out.symm.trans hbm) (by decide)
                          | true =>
                            have hbm : badM (okN b x.r 8) x = true := by unfold badM; simp [h1, h2, h3, h4, h5, h6, h10, h14, h15, h16]
                            go_wp2_with fail
                            go_meet
                            exact ⟨by rw [hbm], rfl⟩
                        | true =>
                          cases h17 : (x.holds == 0) with
                          | false =>
                            have hbm : badM (okN b x.r 8) x = true := by unfold badM; simp [h1, h2, h3, h4, h5, h6, h10, h14, h15, h17]
                            go_wp2_with fail
                            go_meet
                            exact ⟨by rw [hbm], rfl⟩
                          | true =>
                            have hbm : badM (okN b x.r 8) x = false := by unfold badM; simp [h1, h2, h3, h4, h5, h6, h10, h14, h15, h17]
                            exact absurd (HBD.out.symm.trans hbm) (by decide)
                      | true =>
                        have hbm : badM (okN b x.r 8) x = true := by unfold badM; simp [h1, h2, h3, h4, h5, h6, h10, h14]
                        go_wp2_with fail
                        go_meet
                        exact ⟨by rw [hbm], rfl⟩
                | true =>
                  have hbm : badM (okN b x.r 8) x = true := by unfold badM; simp [h1, h2, h3, h4, h5]
                  go_wp2_with fail
                  go_meet
                  exact ⟨by rw [hbm], rfl⟩
              | true =>
                have hbm : badM (okN b x.r 8) x = true := by unfold badM; simp [h1, h2, h3, h4]
                go_wp2_with fail
                go_meet
                exact ⟨by rw [hbm], rfl⟩
            | true =>
              have hbm : badM (okN b x.r 8) x = true := by unfold badM; simp [h1, h2, h3]
              go_wp2_with fail
              go_meet
              exact ⟨by rw [hbm], rfl⟩
          | true =>
            have hbm : badM (okN b x.r 8) x = true := by unfold badM; simp [h1, h2]
            go_wp2_with fail
            go_meet
            exact ⟨by rw [hbm], rfl⟩
      case rest =>
        obtain ⟨hcnd, hwx⟩ := hcut
        subst hcnd
        subst hwx
        obtain ⟨wo, hwo⟩ : ∃ z, z = wc := ⟨_, rfl⟩
        subst hwo
        have hbd := HBD.out
        rw [hbd]
        go_wp2_with fail
        go_ret
        exact ⟨rfl, HBL_1.out⟩

set_option maxHeartbeats 16000000 in
set_option maxRecDepth 100000 in
theorem main_good {x : Th} {s : Option Addr} {c : Nat} {t v : Int} {w : World} {b : Bool} (HE0 : Hid (InW w x s)) (HL : Hid (lightM x = b)) (hok : ThOk x) (hv : -9223372036854775808 ≤ v ∧ v ≤ 9223372036854775807) (HBD : Hid (badM (okN b x.r 8) x = false)) : Calls Try.prog 4 #[x.agg s c, .int .i64 t, .int .i64 v] w fun e w' => e = .returned (.bool true) ∧ Below w.heap.size w w' := by
  go_enter Try.func4, Try.ntmps4
  go_wp2_with fail
  refine (up_any _).mono ?_
  rintro e w1 ⟨rfl, hk1⟩
  have hT_0 := (BoxT.new w x s c).kept0 hk1
  have HE_0 := Lib.hid ((HE0.out.kept0 ((Kept.refl _ w).alloc (.cells (x.box s c) 27))).kept0 hk1)
  have HBL_0 := Lib.hid ((((Kept.refl (fun _ => False) w).alloc (.cells (x.box s c) 27)).tr0 hk1).below (Nat.le_refl _) (fun _ f => f.elim))
  clear hk1
  go_wp2_with (first | refine wpList_loadT (by rfl) (by rfl) (by rfl) (by first | assumption | exact BoxT.past (by assumption) _ | exact BoxT.stepF (by assumption) (by assumption)) ?_ | refine wpList_loadN (by rfl) (by rfl) (by rfl) (by first | assumption | exact BoxN.stepF (by assumption) (by assumption)) ?_ | (refine wpList_storeT (by rfl) (by rfl) (by rfl) (by rfl) (BoxT.fresh _) ?_; intro WS hBS hKS))
  refine (light_any x s c _ _ HL.out).mono ?_
  rintro e wl ⟨rfl, hk2⟩
  have hT_1 := hT_0.kept0 hk2
  have HE_1 := Lib.hid (HE_0.out.kept0 hk2)
  have HBL_1 := Lib.hid (belK HBL_0.out (Nat.le_refl _) hk2)
  clear hT_0 HE_0 HBL_0
  clear hk2
  have HT := Lib.hid hT_1
  obtain ⟨c0, c1, c2, c3, _, _, _, _, _, _, _, _, _, c13, c14⟩ := hT_1.cells
  clear hT_1
  go_wp2_with fail
  go_loopw [8, 9] (fun a i wr => ∃ k : Nat, a = .bool (okN b x.r k) ∧ i = .int .i64 k ∧ k ≤ 8 ∧ wr = wl) (fun _ i _ => 8 - (intOf i).toNat)
  case atStart => exact ⟨0, rfl, rfl, by omega, rfl⟩
  case round =>
    obtain ⟨k, rfl, rfl, hk, hwl⟩ := hrel
    subst hwl
    by_cases hkk : k < 8
    · have y0 := HT.out.read hkk
      have k1 : (k : Int) < 8 := by omega
      have k2 : (k : Int) + 1 ≤ 8 := by omega
      have HO : Hid (okN b x.r (k + 1) = (okN b x.r k && decide (0 ≤ x.r k))) := Lib.hid rfl
      cases e0 : okN b x.r k with
      | false =>
        rw [e0] at HO
        go_wp2_with fail
        go_roundw
        case rel => exact ⟨k + 1, by rw [HO.out]; rfl, by go_num, by omega, by first | rfl | trivial⟩
        case measure => simp [intOf]; omega
      | true =>
        rw [e0] at HO
        cases e1 : decide (0 ≤ x.r k) with
        | false =>
          rw [e1] at HO
          go_wp2_with fail
          go_roundw
          case rel => exact ⟨k + 1, by rw [HO.out]; rfl, by go_num, by omega, by first | rfl | trivial⟩
          case measure => simp [intOf]; omega
        | true =>
          rw [e1] at HO
          go_wp2_with fail
          go_roundw
          case rel => exact ⟨k + 1, by rw [HO.out]; rfl, by go_num, by omega, by first | rfl | trivial⟩
          case measure => simp [intOf]; omega
    · obtain rfl : k = 8 := by omega
      obtain ⟨wz, hz⟩ : ∃ wz, wz = wr := ⟨_, rfl⟩
      subst hz
      go_upto_region 7 with fail
      go_cut [8, 77] (fun g8 cnd wx => cnd = .bool (badM (okN b x.r 8) x) ∧ wx = wz)
      case first =>
        cases h1 : (okN b x.r 8) with
        | false =>
          have hbm : badM (okN b x.r 8) x = true := by unfold badM; simp [h1]
          exact absurd (HBD.out.symm.trans hbm) (by decide)
        | true =>
          cases h2 : (decide (x.n < 0)) with
          | false =>
            cases h3 : (decide (1000 < x.n)) with
            | false =>
              cases h4 : (decide (x.holds < 0)) with
              | false =>
                cases h5 : (decide (1000 < x.holds)) with
                | false =>
                  cases h6 : (x.kind == 5) with
                  | false =>
                    cases h7 : (x.owner == -1) with
                    | false =>
                      cases h8 : (x.holds == 0) with
                      | false =>
                        have hbm : badM (okN b x.r 8) x = false := by unfold badM; simp [h1, h2, h3, h4, h5, h6, h7, h8]
                        go_wp2_with fail
                        go_meet
                        exact ⟨by rw [hbm], rfl⟩
                      | true =>
                        have hbm : badM (okN b x.r 8) x = true := by unfold badM; simp [h1, h2, h3, h4, h5, h6, h7, h8]
                        exact absurd (HBD.out.symm.trans hbm) (by decide)
                    | true =>
                      cases h9 : (x.holds == 0) with
                      | false =>
                        have hbm : badM (okN b x.r 8) x = true := by unfold badM; simp [h1, h2, h3, h4, h5, h6, h7, h9]
                        exact absurd (HBD.out.symm.trans hbm) (by decide)
                      | true =>
                        have hbm : badM (okN b x.r 8) x = false := by unfold badM; simp [h1, h2, h3, h4, h5, h6, h7, h9]
                        go_wp2_with fail
                        go_meet
                        exact ⟨by rw [hbm], rfl⟩
                  | true =>
                    cases h10 : (x.offer == -1) with
                    | false =>
                      cases h11 : (x.owner == -1) with
                      | false =>
                        cases h12 : (x.holds == 0) with
                        | false =>
                          have hbm : badM (okN b x.r 8) x = false := by unfold badM; simp [h1, h2, h3, h4, h5, h6, h10, h11, h12]
                          go_wp2_with fail
                          go_meet
                          exact ⟨by rw [hbm], rfl⟩
                        | true =>
                          have hbm : badM (okN b x.r 8) x = true := by unfold badM; simp [h1, h2, h3, h4, h5, h6, h10, h11, h12]
                          exact absurd (HBD.out.symm.trans hbm) (by decide)
                      | true =>
                        cases h13 : (x.holds == 0) with
                        | false =>
                          have hbm : badM (okN b x.r 8) x = true := by unfold badM; simp [h1, h2, h3, h4, h5, h6, h10, h11, h13]
                          exact absurd (HBD.out.symm.trans hbm) (by decide)
                        | true =>
                          have hbm : badM (okN b x.r 8) x = false := by unfold badM; simp [h1, h2, h3, h4, h5, h6, h10, h11, h13]
                          go_wp2_with fail
                          go_meet
                          exact ⟨by rw [hbm], rfl⟩
                    | true =>
                      cases h14 : (x.item != 0) with
                      | false =>
                        cases h15 : (x.owner == -1) with
                        | false =>
                          cases h16 : (x.holds == 0) with
                          | false =>
                            have hbm : badM (okN b x.r 8) x = false := by unfold badM; simp [h1, h2, h3, h4, h5, h6, h10, h14, h15, h16]
                            go_wp2_with fail
                            go_meet
                            exact ⟨by rw [hbm], rfl⟩
                          | true =>
                            have hbm : badM (okN b x.r 8) x = true := by unfold badM; simp [h1, h2, h3, h4, h5, h6, h10, h14, h15, h16]
                            exact absurd (HBD.out.symm.trans hbm) (by decide)
                        | true =>
                          cases h17 : (x.holds == 0) with
                          | false =>
                            have hbm : badM (okN b x.r 8) x = true := by unfold badM; simp [h1, h2, h3, h4, h5, h6, h10, h14, h15, h17]
                            exact absurd (HBD.out.symm.trans hbm) (by decide)
                          | true =>
                            have hbm : badM (okN b x.r 8) x = false := by unfold badM; simp [h1, h2, h3, h4, h5, h6, h10, h14, h15, h17]
                            go_wp2_with fail
                            go_meet
                            exact ⟨by rw [hbm], rfl⟩
                      | true =>
                        have hbm : badM (okN b x.r 8) x = true := by unfold badM; simp [h1, h2, h3, h4, h5, h6, h10, h14]
                        exact absurd (HBD.out.symm.trans hbm) (by decide)
                | true =>
                  have hbm : badM (okN b x.r 8) x = true := by unfold badM; simp [h1, h2, h3, h4, h5]
                  exact absurd (HBD.out.symm.trans hbm) (by decide)
              | true =>
                have hbm : badM (okN b x.r 8) x = true := by unfold badM; simp [h1, h2, h3, h4]
                exact absurd (HBD.out.symm.trans hbm) (by decide)
            | true =>
              have hbm : badM (okN b x.r 8) x = true := by unfold badM; simp [h1, h2, h3]
              exact absurd (HBD.out.symm.trans hbm) (by decide)
          | true =>
            have hbm : badM (okN b x.r 8) x = true := by unfold badM; simp [h1, h2]
            exact absurd (HBD.out.symm.trans hbm) (by decide)
      case rest =>
        obtain ⟨hcnd, hwx⟩ := hcut
        subst hcnd
        subst hwx
        obtain ⟨wo, hwo⟩ : ∃ z, z = wc := ⟨_, rfl⟩
        subst hwo
        have hbd := HBD.out
        rw [hbd]
        · obtain ⟨hg1, hg2⟩ := calm_good hbd
          obtain ⟨hb1, hb2⟩ := okN_read hg1
          have hlf := light_fit (HL.out.trans hb1) hok.o0 hok.o1 hok.t0 hok.t1
          have HX : Hid (Fit x ∧ Calm x) := Lib.hid ⟨hlf.1, hg2 hb2 (fun i hi => (hlf.2.2.2.2 i hi).2)⟩
          clear hlf hg1 hg2 hb2
          go_wp2_with fail
          go_loopw [12] (fun i wq => ∃ k : Nat, i = .int .i64 k ∧ k ≤ 4 ∧ BoxT wq w.heap.size x s c ∧ InW wq x s ∧ Below w.heap.size w wq ∧ wq.heap[wo.heap.size]? = some (.cells #[.int .i64 1, .int .i64 1, .int .i64 1, .int .i64 v, .int .i64 2, .int .i64 0, .int .i64 15, .int .i64 v] 29 (0, 0)) ∧ wq.heap[wo.heap.size + 1]? = some (.cells #[.int .i64 3, .int .i64 0, .int .i64 3, .int .i64 v, .int .i64 4, .int .i64 0, .int .i64 16, .int .i64 0] 29 (0, 0))) (fun i _ => 4 - (intOf i).toNat)
          case atStart =>
            have kA : Kept (fun _ => False) wo (wo.alloc (.cells #[.int .i64 1, .int .i64 1, .int .i64 1, .int .i64 v, .int .i64 2, .int .i64 0, .int .i64 15, .int .i64 v] 29)) := (Kept.refl _ wo).alloc _
            have kB : Kept (fun _ => False) (wo.alloc (.cells #[.int .i64 1, .int .i64 1, .int .i64 1, .int .i64 v, .int .i64 2, .int .i64 0, .int .i64 15, .int .i64 v] 29)) ((wo.alloc (.cells #[.int .i64 1, .int .i64 1, .int .i64 1, .int .i64 v, .int .i64 2, .int .i64 0, .int .i64 15, .int .i64 v] 29)).alloc (.cells #[.int .i64 3, .int .i64 0, .int .i64 3, .int .i64 v, .int .i64 4, .int .i64 0, .int .i64 16, .int .i64 0] 29)) := (Kept.refl _ _).alloc _
            refine ⟨0, rfl, by omega, (HT.out.kept0 kA).kept0 kB, (HE_1.out.kept0 kA).kept0 kB, belK (belK HBL_1.out (Nat.le_refl _) kA) (Nat.le_refl _) kB, kB.at0 (heap_new1 wo _), ?_⟩
            have := heap_new1 (wo.alloc (.cells #[.int .i64 1, .int .i64 1, .int .i64 1, .int .i64 v, .int .i64 2, .int .i64 0, .int .i64 15, .int .i64 v] 29)) (.cells #[.int .i64 3, .int .i64 0, .int .i64 3, .int .i64 v, .int .i64 4, .int .i64 0, .int .i64 16, .int .i64 0] 29)
            rwa [show (wo.alloc (.cells #[.int .i64 1, .int .i64 1, .int .i64 1, .int .i64 v, .int .i64 2, .int .i64 0, .int .i64 15, .int .i64 v] 29)).heap.size = wo.heap.size + 1 from by simp] at this
          case round =>
            obtain ⟨k, rfl, hk, hT, hE, hBl, hA, hB⟩ := hrel
            have HTk := Lib.hid hT
            have HEk := Lib.hid hE
            have HBLk := Lib.hid hBl
            have HA := Lib.hid hA
            have HB := Lib.hid hB
            have HW : Hid (w.heap.size < wr.heap.size ∧ wo.heap.size + 1 < wr.heap.size) := Lib.hid ⟨hT.lt, (Array.getElem?_eq_some_iff.1 hB).1⟩
            clear hE hBl hA hB c0 c1 c2 c3 c13 c14
            obtain ⟨c0, c1, c2, c3, c4, c5, c6, c7, c8, c9, c10, c11, c12, c13, c14⟩ := hT.cells
            clear hT
            by_cases hkk : k < 4
            · have k1 : (k : Int) < 4 := by omega
              have k2 : (k : Int) + 1 ≤ 4 := by omega
              obtain ⟨n0, n1⟩ := marks_at HA.out hkk
              go_upto_region 14 with fail
              go_cut [111] (fun cnd wx => cnd = .bool (skipM x k) ∧ wx = wr)
              case first =>
                have hskip : ∀ bb, skipM x k = bb → skipM x k = bb := fun _ h => h
                cases q0 : ((k : Int) == 0) with
                | true =>
                  have e0 : k = 0 := by have := beq_iff_eq.1 q0; omega
                  cases q2 : (x.kind == 2) with
                  | false =>
                    have hs : skipM x k = false := by unfold skipM; rw [e0, q2]; rfl
                    have q1 : ((k : Int) == 1) = false := by rw [e0]; rfl
                    go_wp2_with fail
                    go_meet
                    exact ⟨by rw [hs], rfl⟩
                  | true =>
                    have hs : skipM x k = true := by unfold skipM; rw [e0, q2]; rfl
                    have q1 : ((k : Int) == 1) = false := by rw [e0]; rfl
                    go_wp2_with fail
                    go_meet
                    exact ⟨by rw [hs], rfl⟩
                | false =>
                  have e0 : (k == 0) = false := by have := beq_eq_false_iff_ne.1 q0; rw [beq_eq_false_iff_ne]; omega
                  cases q1 : ((k : Int) == 1) with
                  | true =>
                    have e1 : (k == 1) = true := by have := beq_iff_eq.1 q1; rw [beq_iff_eq]; omega
                    cases q2 : (x.kind == 2) with
                    | false =>
                      have hs : skipM x k = true := by unfold skipM; rw [e0, e1, bne, q2]; rfl
                      have q2n : (x.kind != 2) = true := by rw [bne, q2]; rfl
                      go_wp2_with fail
                      go_meet
                      exact ⟨by rw [hs], rfl⟩
                    | true =>
                      have hs : skipM x k = false := by unfold skipM; rw [e0, e1, bne, q2]; rfl
                      have q2n : (x.kind != 2) = false := by rw [bne, q2]; rfl
                      go_wp2_with fail
                      go_meet
                      exact ⟨by rw [hs], rfl⟩
                  | false =>
                    have e1 : (k == 1) = false := by have := beq_eq_false_iff_ne.1 q1; rw [beq_eq_false_iff_ne]; omega
                    have hs : skipM x k = false := by unfold skipM; rw [e0, e1]; rfl
                    go_wp2_with fail
                    go_meet
                    exact ⟨by rw [hs], rfl⟩
              case rest =>
                obtain ⟨hcnd, hwx⟩ := hcut
                subst hcnd
                subst hwx
                obtain ⟨wi, hwi⟩ : ∃ z, z = wc := ⟨_, rfl⟩
                subst hwi
                cases hs : skipM x k with
                | true =>
                  go_wp2_with fail
                  go_roundw
                  case rel => first | exact ⟨k + 1, by go_num, by omega, HTk.out, HEk.out, HBLk.out, HA.out, HB.out⟩ | ((repeat apply Exists.intro); exact ⟨⟨k + 1, by go_num, by omega, HTk.out, HEk.out, HBLk.out, HA.out, HB.out⟩, rfl⟩)
                  case measure => simp [intOf]; omega
                | false =>
                  obtain ⟨y, hy⟩ : ∃ y, doM x t (mkK k) (mvK v k) = y := ⟨_, rfl⟩
                  obtain ⟨r, hr⟩ : ∃ r, mayM x t (mkK k) (mvK v k) = r := ⟨_, rfl⟩
                  have hv1 := val_in hv k
                  have hx1 := HX.out.1
                  have HD : Hid (∀ w', InW w' x s → Calls Try.prog 14 #[x.agg s c, .int .i64 t, .agg #[.int .i64 (mkK k), .int .i64 (mvK v k)]] w' (Told w' y r)) := Lib.hid (fun w' hi => by have h := do_any x t (mkK k) (mvK v k) s c w' hx1 hi hv1.1.1 hv1.1.2; rw [hy, hr] at h; exact h)
                  have HBK : Hid (r = true → (x.kind == 3) = false ∧ ∀ w' s c, InW w' y s → Calls Try.prog 14 #[y.agg s c, .int .i64 t, .agg #[.int .i64 (bkK k), .int .i64 (bvK v k)]] w' (Told w' x true)) := Lib.hid (fun he => by
                    subst he
                    have h3 := not3_all hkk hs hr
                    have hb := back_all hkk HX.out.1 HX.out.2 hs hr h3
                    rw [hy] at hb
                    refine ⟨h3, fun w' s c hi => ?_⟩
                    have h := do_any y t (bkK k) (bvK v k) s c w' hb.2.2 hi hv1.2.1 hv1.2.2
                    rw [hb.1, hb.2.1] at h
                    exact h)
                  have l0 : wo.heap.size < wi.heap.size := by have := HW.out.2; omega
                  have l1 : w.heap.size < wi.heap.size := HW.out.1
                  have HKK := Lib.hid hkk
                  clear hy hr hv1 hx1 hs hkk
                  have SF : Hid (∀ w', Kept (fun _ => False) wi w' → (fun w' => w'.cell? ⟨w.heap.size, 0, none⟩ = some (.int .i64 x.kind) ∧ w'.cell? ⟨w.heap.size, 1, none⟩ = some (.int .i64 x.n) ∧ w'.cell? ⟨w.heap.size, 2, none⟩ = some (.int .i64 x.owner) ∧ w'.cell? ⟨w.heap.size, 3, none⟩ = some (.int .i64 x.holds) ∧ w'.cell? ⟨w.heap.size, 4, none⟩ = some (.int .i64 (x.r 0)) ∧ w'.cell? ⟨w.heap.size, 5, none⟩ = some (.int .i64 (x.r 1)) ∧ w'.cell? ⟨w.heap.size, 6, none⟩ = some (.int .i64 (x.r 2)) ∧ w'.cell? ⟨w.heap.size, 7, none⟩ = some (.int .i64 (x.r 3)) ∧ w'.cell? ⟨w.heap.size, 8, none⟩ = some (.int .i64 (x.r 4)) ∧ w'.cell? ⟨w.heap.size, 9, none⟩ = some (.int .i64 (x.r 5)) ∧ w'.cell? ⟨w.heap.size, 10, none⟩ = some (.int .i64 (x.r 6)) ∧ w'.cell? ⟨w.heap.size, 11, none⟩ = some (.int .i64 (x.r 7)) ∧ w'.cell? ⟨w.heap.size, 12, none⟩ = some (.slice s x.ws.length c) ∧ w'.cell? ⟨w.heap.size, 13, none⟩ = some (.int .i64 x.offer) ∧ w'.cell? ⟨w.heap.size, 14, none⟩ = some (.int .i64 x.item) ∧ w'.cell? ⟨wo.heap.size, k * 2, none⟩ = some (.int .i64 (mkK k)) ∧ w'.cell? ⟨wo.heap.size, k * 2 + 1, none⟩ = some (.int .i64 (mvK v k))) w') := Lib.hid (fun w' hk => by have h := (HTk.out.kept0 hk).cells; have hn := marks_at (hk.at0 HA.out) HKK.out; exact ⟨h.c0, h.c1, h.c2, h.c3, h.c4, h.c5, h.c6, h.c7, h.c8, h.c9, h.c10, h.c11, h.c12, h.c13, h.c14, hn.1, hn.2⟩)
                  go_upto_region 15 with fail
                  go_cut [13, 14] (fun p bb wx => ∃ b13 s6 c6, p = .pointer (some ⟨b13, 0, none⟩) ∧ bb = .bool r ∧ BoxT wx b13 y s6 c6 ∧ InW wx y s6 ∧ Kept (fun _ => False) wi wx)
                  case first =>
                    go_region_held3 (fun w' => w'.cell? ⟨w.heap.size, 0, none⟩ = some (.int .i64 x.kind) ∧ w'.cell? ⟨w.heap.size, 1, none⟩ = some (.int .i64 x.n) ∧ w'.cell? ⟨w.heap.size, 2, none⟩ = some (.int .i64 x.owner) ∧ w'.cell? ⟨w.heap.size, 3, none⟩ = some (.int .i64 x.holds) ∧ w'.cell? ⟨w.heap.size, 4, none⟩ = some (.int .i64 (x.r 0)) ∧ w'.cell? ⟨w.heap.size, 5, none⟩ = some (.int .i64 (x.r 1)) ∧ w'.cell? ⟨w.heap.size, 6, none⟩ = some (.int .i64 (x.r 2)) ∧ w'.cell? ⟨w.heap.size, 7, none⟩ = some (.int .i64 (x.r 3)) ∧ w'.cell? ⟨w.heap.size, 8, none⟩ = some (.int .i64 (x.r 4)) ∧ w'.cell? ⟨w.heap.size, 9, none⟩ = some (.int .i64 (x.r 5)) ∧ w'.cell? ⟨w.heap.size, 10, none⟩ = some (.int .i64 (x.r 6)) ∧ w'.cell? ⟨w.heap.size, 11, none⟩ = some (.int .i64 (x.r 7)) ∧ w'.cell? ⟨w.heap.size, 12, none⟩ = some (.slice s x.ws.length c) ∧ w'.cell? ⟨w.heap.size, 13, none⟩ = some (.int .i64 x.offer) ∧ w'.cell? ⟨w.heap.size, 14, none⟩ = some (.int .i64 x.item) ∧ w'.cell? ⟨wo.heap.size, k * 2, none⟩ = some (.int .i64 (mkK k)) ∧ w'.cell? ⟨wo.heap.size, k * 2 + 1, none⟩ = some (.int .i64 (mvK v k))) (first | exact SF.out _ (Kept.refl _ _) | exact SF.out _ (Kept.refl _ _).drew | exact SF.out _ ((Kept.refl _ _).drew.alloc _) | exact SF.out _ H6 | exact SF.out _ (H6.alloc _) | exact SF.out _ hAW) (first | (go_at_call 14; refine (HD.out _ (by first | exact HEk.out.kept0 (Kept.refl _ _).drew | exact HEk.out.kept0 ((Kept.refl _ _).drew.alloc _))).mono ?_; rintro e w6 ⟨s6, c6, rfl, hN6, hk6⟩; first | (have hz : BoxT w6 wi.heap.size ⟨0, 0, 0, 0, fun _ => 0, [], 0, 0⟩ none 0 := (BoxT.fresh wi.drew).kept0 hk6; have H6 : Kept (fun _ => False) wi w6 := ((Kept.refl (fun _ => False) wi).drew.alloc _).tr0 hk6; obtain ⟨_, _, _, _, _, _, _, _, _, _, _, _, _, _, _⟩ := hz.cells; obtain ⟨_, _, _, _, _, _, _, _, _, _, _, _, _, _, _⟩ := hz.frees; obtain ⟨WS, hWS, hBS, hKS⟩ := hz.put y s6 c6; have hAW : Kept (fun _ => False) wi WS := (kept_ahead (w := wi.drew) hk6 hKS).drewL; have hAI : InW WS y s6 := new_ahead (w := wi.drew) hN6 hKS; clear hz hKS hk6 hN6) | (have H6 : Kept (fun _ => False) wi w6 := Kept.drewL hk6; have hAW : Kept (fun _ => False) wi (w6.alloc (.cells (y.box s6 c6) 27)) := (Kept.drewL hk6).alloc _; have hBS := BoxT.new w6 y s6 c6; have hAI : InW (w6.alloc (.cells (y.box s6 c6) 27)) y s6 := (show InW w6 y s6 from hN6.el).kept0 ((Kept.refl _ w6).alloc _); clear hk6 hN6)))
                    all_goals
                      have HF := Lib.hid (And.intro hBS (And.intro hAI hAW))
                      clear hBS hAI hAW
                      go_wp2_with fail
                      go_meet
                      exact ⟨_, _, _, rfl, rfl, HF.out.1, HF.out.2.1, HF.out.2.2⟩
                  case rest =>
                    obtain ⟨b13, s6, c6, hp13, hb13, hB13, hI13, hkc⟩ := hcut
                    subst hp13
                    subst hb13
                    obtain ⟨wj, hwj⟩ : ∃ z, z = wc := ⟨_, rfl⟩
                    subst hwj
                    have HTj := Lib.hid (HTk.out.kept0 hkc)
                    have HEj := Lib.hid (HEk.out.kept0 hkc)
                    have HBLj := Lib.hid (belK HBLk.out (Nat.le_refl _) hkc)
                    have HAj := Lib.hid (hkc.at0 HA.out)
                    have HBj := Lib.hid (hkc.at0 HB.out)
                    have HI13 := Lib.hid hI13
                    have HB13 := Lib.hid hB13
                    have z13 := hB13.lt
                    have l2 : wo.heap.size + 1 < wj.heap.size := by have := HW.out.2; have := hkc.size; omega
                    have l3 : w.heap.size < wj.heap.size := by have := HW.out.1; have := hkc.size; omega
                    clear SF hkc hI13 hB13 l0 l1 n0 n1 c0 c1 c2 c3 c4 c5 c7 c8 c9 c10 c11 c12 c13 c14
                    obtain ⟨d0, _, _, _, _, _, _, _, _, _, _, _, _, _, _⟩ := HTj.out.cells
                    cases r with
                    | false =>
                      go_wp2_with fail
                      go_roundw
                      case rel => first | exact ⟨k + 1, by go_num, by omega, HTj.out, HEj.out, HBLj.out, HAj.out, HBj.out⟩ | ((repeat apply Exists.intro); exact ⟨⟨k + 1, by go_num, by omega, HTj.out, HEj.out, HBLj.out, HAj.out, HBj.out⟩, rfl⟩)
                      case measure => simp [intOf]; omega
                    | true =>
                      obtain ⟨q3, hd2⟩ := HBK.out rfl
                      have HD2 : Hid (∀ w', InW w' y s6 → Calls Try.prog 14 #[y.agg s6 c6, .int .i64 t, .agg #[.int .i64 (bkK k), .int .i64 (bvK v k)]] w' (Told w' x true)) := Lib.hid (fun w' hi => hd2 w' s6 c6 hi)
                      clear hd2
                      obtain ⟨n0, n1⟩ := backs_at HBj.out HKK.out
                      obtain ⟨_, _, _, _, _, _, _, _, _, _, _, _, _, _, _⟩ := HB13.out.cells
                      have SF : Hid (∀ w', Kept (fun _ => False) wj w' → (fun w' => w'.cell? ⟨b13, 0, none⟩ = some (.int .i64 y.kind) ∧ w'.cell? ⟨b13, 1, none⟩ = some (.int .i64 y.n) ∧ w'.cell? ⟨b13, 2, none⟩ = some (.int .i64 y.owner) ∧ w'.cell? ⟨b13, 3, none⟩ = some (.int .i64 y.holds) ∧ w'.cell? ⟨b13, 4, none⟩ = some (.int .i64 (y.r 0)) ∧ w'.cell? ⟨b13, 5, none⟩ = some (.int .i64 (y.r 1)) ∧ w'.cell? ⟨b13, 6, none⟩ = some (.int .i64 (y.r 2)) ∧ w'.cell? ⟨b13, 7, none⟩ = some (.int .i64 (y.r 3)) ∧ w'.cell? ⟨b13, 8, none⟩ = some (.int .i64 (y.r 4)) ∧ w'.cell? ⟨b13, 9, none⟩ = some (.int .i64 (y.r 5)) ∧ w'.cell? ⟨b13, 10, none⟩ = some (.int .i64 (y.r 6)) ∧ w'.cell? ⟨b13, 11, none⟩ = some (.int .i64 (y.r 7)) ∧ w'.cell? ⟨b13, 12, none⟩ = some (.slice s6 y.ws.length c6) ∧ w'.cell? ⟨b13, 13, none⟩ = some (.int .i64 y.offer) ∧ w'.cell? ⟨b13, 14, none⟩ = some (.int .i64 y.item) ∧ w'.cell? ⟨wo.heap.size + 1, k * 2, none⟩ = some (.int .i64 (bkK k)) ∧ w'.cell? ⟨wo.heap.size + 1, k * 2 + 1, none⟩ = some (.int .i64 (bvK v k))) w') := Lib.hid (fun w' hk => by have h := (HB13.out.kept0 hk).cells; have hn := backs_at (hk.at0 HBj.out) HKK.out; exact ⟨h.c0, h.c1, h.c2, h.c3, h.c4, h.c5, h.c6, h.c7, h.c8, h.c9, h.c10, h.c11, h.c12, h.c13, h.c14, hn.1, hn.2⟩)
                      go_upto_region 17 with fail
                      go_cut [15, 16] (fun p bb wx => ∃ b15 s7 c7, p = .pointer (some ⟨b15, 0, none⟩) ∧ bb = .bool true ∧ BoxT wx b15 x s7 c7 ∧ InW wx x s7 ∧ Kept (fun _ => False) wj wx)
                      case first =>
                        go_region_held3 (fun w' => w'.cell? ⟨b13, 0, none⟩ = some (.int .i64 y.kind) ∧ w'.cell? ⟨b13, 1, none⟩ = some (.int .i64 y.n) ∧ w'.cell? ⟨b13, 2, none⟩ = some (.int .i64 y.owner) ∧ w'.cell? ⟨b13, 3, none⟩ = some (.int .i64 y.holds) ∧ w'.cell? ⟨b13, 4, none⟩ = some (.int .i64 (y.r 0)) ∧ w'.cell? ⟨b13, 5, none⟩ = some (.int .i64 (y.r 1)) ∧ w'.cell? ⟨b13, 6, none⟩ = some (.int .i64 (y.r 2)) ∧ w'.cell? ⟨b13, 7, none⟩ = some (.int .i64 (y.r 3)) ∧ w'.cell? ⟨b13, 8, none⟩ = some (.int .i64 (y.r 4)) ∧ w'.cell? ⟨b13, 9, none⟩ = some (.int .i64 (y.r 5)) ∧ w'.cell? ⟨b13, 10, none⟩ = some (.int .i64 (y.r 6)) ∧ w'.cell? ⟨b13, 11, none⟩ = some (.int .i64 (y.r 7)) ∧ w'.cell? ⟨b13, 12, none⟩ = some (.slice s6 y.ws.length c6) ∧ w'.cell? ⟨b13, 13, none⟩ = some (.int .i64 y.offer) ∧ w'.cell? ⟨b13, 14, none⟩ = some (.int .i64 y.item) ∧ w'.cell? ⟨wo.heap.size + 1, k * 2, none⟩ = some (.int .i64 (bkK k)) ∧ w'.cell? ⟨wo.heap.size + 1, k * 2 + 1, none⟩ = some (.int .i64 (bvK v k))) (first | exact SF.out _ (Kept.refl _ _) | exact SF.out _ (Kept.refl _ _).drew | exact SF.out _ ((Kept.refl _ _).drew.alloc _) | exact SF.out _ H6 | exact SF.out _ (H6.alloc _) | exact SF.out _ hAW) (first | (go_at_call 14; refine (HD2.out _ (by first | exact HI13.out.kept0 (Kept.refl _ _).drew | exact HI13.out.kept0 ((Kept.refl _ _).drew.alloc _))).mono ?_; rintro e w6 ⟨s6, c6, rfl, hN6, hk6⟩; first | (have hz : BoxT w6 wj.heap.size ⟨0, 0, 0, 0, fun _ => 0, [], 0, 0⟩ none 0 := (BoxT.fresh wj.drew).kept0 hk6; have H6 : Kept (fun _ => False) wj w6 := ((Kept.refl (fun _ => False) wj).drew.alloc _).tr0 hk6; obtain ⟨_, _, _, _, _, _, _, _, _, _, _, _, _, _, _⟩ := hz.cells; obtain ⟨_, _, _, _, _, _, _, _, _, _, _, _, _, _, _⟩ := hz.frees; obtain ⟨WS, hWS, hBS, hKS⟩ := hz.put x s6 c6; have hAW : Kept (fun _ => False) wj WS := (kept_ahead (w := wj.drew) hk6 hKS).drewL; have hAI : InW WS x s6 := new_ahead (w := wj.drew) hN6 hKS; clear hz hKS hk6 hN6) | (have H6 : Kept (fun _ => False) wj w6 := Kept.drewL hk6; have hAW : Kept (fun _ => False) wj (w6.alloc (.cells (x.box s6 c6) 27)) := (Kept.drewL hk6).alloc _; have hBS := BoxT.new w6 x s6 c6; have hAI : InW (w6.alloc (.cells (x.box s6 c6) 27)) x s6 := (show InW w6 x s6 from hN6.el).kept0 ((Kept.refl _ w6).alloc _); clear hk6 hN6)))
                        all_goals
                          have HF := Lib.hid (And.intro hBS (And.intro hAI hAW))
                          clear hBS hAI hAW
                          go_wp2_with fail
                          go_meet
                          exact ⟨_, _, _, rfl, rfl, HF.out.1, HF.out.2.1, HF.out.2.2⟩
                      case rest =>
                        obtain ⟨b15, s7, c7, hp15, hb15, hB15, hI15, hkd⟩ := hcut
                        subst hp15
                        subst hb15
                        have hTd := HTj.out.kept0 hkd
                        have HTd := Lib.hid hTd
                        have HEd := Lib.hid (HEj.out.kept0 hkd)
                        have HBLd := Lib.hid (belK HBLj.out (Nat.le_refl _) hkd)
                        have HAd := Lib.hid (hkd.at0 HAj.out)
                        have HBd := Lib.hid (hkd.at0 HBj.out)
                        have HI15 := Lib.hid hI15
                        clear SF hkd hI15 n0 n1 d0
                        go_wp2_with (first | refine wpList_loadT (by rfl) (by rfl) (by rfl) (by first | assumption | exact BoxT.past (by assumption) _ | exact BoxT.stepF (by assumption) (by assumption)) ?_ | refine wpList_loadN (by rfl) (by rfl) (by rfl) (by first | assumption | exact BoxN.stepF (by assumption) (by assumption)) ?_)
                        refine (same_any x x s7 s c7 c _ HI15.out HEd.out (by have := HX.out.1.ws; omega) true (sameM_refl x)).mono ?_
                        rintro e w8 ⟨rfl, hk8⟩
                        have HT8 := Lib.hid (HTd.out.kept0 hk8)
                        have HE8 := Lib.hid (HEd.out.kept0 hk8)
                        have HBL8 := Lib.hid (belK HBLd.out (Nat.le_refl _) hk8)
                        have HA8 := Lib.hid (hk8.at0 HAd.out)
                        have HB8 := Lib.hid (hk8.at0 HBd.out)
                        clear hk8 hTd hB15
                        go_wp2_with fail
                        go_roundw
                        case rel => first | exact ⟨k + 1, by go_num, by omega, HT8.out, HE8.out, HBL8.out, HA8.out, HB8.out⟩ | ((repeat apply Exists.intro); exact ⟨⟨k + 1, by go_num, by omega, HT8.out, HE8.out, HBL8.out, HA8.out, HB8.out⟩, rfl⟩)
                        case measure => simp [intOf]; omega
            · obtain rfl : k = 4 := by omega
              clear c0 c1 c2 c3 c4 c5 c6 c7 c8 c9 c10 c11 c12 c13 c14
              go_wp2_with fail
              go_ret
              exact ⟨rfl, HBLk.out⟩

theorem walk (x : Th) (s : Option Addr) (c : Nat) (t v : Int) (wv : (Lit.int .i64 v).wf = true) (w : World) (hE : InW w x s) (hok : ThOk x) : Calls Try.prog 4 #[x.agg s c, .int .i64 t, .int .i64 v] w fun e w' => e = .returned (.bool true) ∧ Below w.heap.size w w' := by
  cases h : badM (okN (lightM x) x.r 8) x with
  | true => exact main_bad (Lib.hid hE) (Lib.hid rfl) hok (i64_wf wv) (Lib.hid h)
  | false => exact main_good (Lib.hid hE) (Lib.hid rfl) hok (i64_wf wv) (Lib.hid h)

theorem own : ownKnob Try.prog.godebug = none := by kernel_rfl
theorem laidOut : laidOutB Try.prog = true := by kernel_rfl

set_option maxRecDepth 100000 in
theorem lifted (os : Os) (started : os.Started) (H : Type) (enc : TypeId × Value → H) :
    ReturnsInHanded {} Try.checked os 4 .any (Rows.modelBackSpec.pre6 enc Try.prog Try.f4 Rows.modelBackRow.domain false) (Rows.modelBackSpec.post enc Try.prog Try.f4 false true false false) := by
  refine returnsInHanded_of_change (C := Try.checked) own started (by kernel_rfl) Try.func4
    (ChangeSpec.witness6 (enc := enc) (C := Try.checked) false ⟨#[], #[.agg #[.int .i64 0, .int .i64 0, .int .i64 0, .int .i64 0, .int .i64 0, .int .i64 0, .int .i64 0, .int .i64 0, .int .i64 0, .int .i64 0, .int .i64 0, .int .i64 0, .slice none 0 0, .int .i64 0, .int .i64 0], .int .i64 0, .int .i64 0], []⟩ 8 (by kernel_rfl) (by kernel_rfl) (by kernel_rfl) (by kernel_rfl)) ?_
  intro W base args ds gs before hval0 hW hcnd _
  have hval : ∀ (j : Nat) t v, Try.f4.params[j]? = some t → args[j]? = some v → Value.okWide Try.prog W .any base t v := hval0
  have hW' := hW
  obtain ⟨p, q, hA0, hV, rfl, hfz, hnd⟩ := hW
  have hA : DataW.TrodAll enc Try.prog W 0 (fun _ => true) true Try.f4.params.toList args.toList ds p := hA0
  rw [Try.params4] at hA hval
  obtain ⟨v0, vs0, d0, ds0, p0, q0, hargs, rfl, rfl, h0, r0⟩ := trodAll_cons hA
  obtain ⟨v1, vs1, d1, ds1, p1, q1, rfl, rfl, rfl, h1, r1⟩ := trodAll_cons r0
  obtain ⟨v2, vs2, d2, ds2, p2, q2, rfl, rfl, rfl, h2, r2⟩ := trodAll_cons r1
  obtain ⟨rfl, rfl, rfl⟩ := trodAll_nil r2
  obtain rfl : args = #[v0, v1, v2] := by cases args; simp_all
  obtain ⟨rfl, rfl⟩ := trodVars_none hV
  have k0 := h0
  have lt0 : ∀ x ∈ p0, x.block < W.heap.size := by obtain ⟨m, hm⟩ := k0; exact DataW.trod_lt m _ _ _ hm
  obtain ⟨x0, s0, c0, rfl, hx0, hok0⟩ := th_of (okWide_struct Try.underlying27 (hval 0 27 v0 rfl rfl)) k0
  obtain ⟨a1, rfl, rfl, rfl, w1⟩ := open_int Try.underlying3 (hval 1 3 v1 rfl rfl) h1
  obtain ⟨a2, rfl, rfl, rfl, w2⟩ := open_int Try.underlying2 (hval 2 2 v2 rfl rfl) h2
  clear hA0 hval0
  refine (walk x0 s0 c0 a1 a2 w2 W hx0 hok0).mono fun e W' ⟨he, bel⟩ => ?_
  subst he
  exact ⟨_, rfl, _, _, _, [], _, [], hW', trodAll_mk1 (shut_bool Try.underlying4 _), (trodAll_cons_mk (Below.trod laidOut (by kernel_rfl) (of_decide_eq_true (by kernel_rfl)) k0 bel lt0) (trodAll_cons_mk (shut_int Try.underlying3 w1) (trodAll_cons_mk (shut_int Try.underlying2 w2) trodAll_mk0))), rfl, bel.frame _, fun h => by cases h⟩

theorem over : Rows.modelBackRow.holds Try.pinned (OpenSpec.ofChange Rows.modelBackSpec) :=
  OpenClaim.holds_of_wide 4 Try.f4 rfl rfl rfl rfl rfl rfl rfl ⟨rfl, rfl, rfl, rfl, rfl⟩ rfl rfl rfl rfl rfl (by kernel_rfl) Try.func4 (by kernel_rfl)
    (of_decide_eq_true (by kernel_rfl)) (by unfold Func.isWrapper; first | (rw [if_pos (by decide +kernel)]; kernel_rfl) | (rw [if_neg (by decide +kernel)]; exact ⟨rfl, rfl⟩))
    (fun os started H enc _ => lifted os started H enc)

end modelBack
/-- The statement. -/
theorem modelBack_holds : Rows.ModelBackSaid := modelBack.over
end Go.Proofs.Ythjblniabnjfhaa
