/-
  Words of floating point that stand for whole numbers: how they compare, add up and are cut (binary64).
  Conditions: none; these are lemmas for the walks.
-/
import Derived.Test.YtbhoilbkeoebgaaRows
import Derived.Laws.FloatArith
import Derived.Laws.ComplexArith
namespace Go.Proofs.Ytbhoilbkeoebgaa
namespace Flt
open Ieee
set_option exponentiation.threshold 2000

theorem two_pow (a b : Nat) (h : a ≤ b) : 2 ^ b = 2 ^ a * 2 ^ (b - a) := by
  rw [← Nat.pow_add]; congr 1; omega

theorem log2_shift (x k : Nat) (h : x ≠ 0) : (x * 2 ^ k).log2 = x.log2 + k := by
  have h1 := Nat.log2_self_le h
  have h2 := @Nat.lt_log2_self x
  have hk : 0 < 2 ^ k := Nat.two_pow_pos k
  refine (Nat.log2_eq_iff (Nat.mul_ne_zero h (by omega))).2 ⟨?_, ?_⟩
  · rw [Nat.pow_add]; exact Nat.mul_le_mul_right _ h1
  · rw [show x.log2 + k + 1 = (x.log2 + 1) + k by omega, Nat.pow_add]; exact Nat.mul_lt_mul_of_pos_right h2 hk

theorem read_word (neg : Bool) (t K : Nat) (h1 : 4503599627370496 ≤ K) (h2 : K < 9007199254740992) (ht : t ≤ 2045) :
    double.read (double.word neg (t * 4503599627370496 + K)) = .number neg K ((t : Int) - 1074) := by
  have e1 : double.signWeight = 9223372036854775808 := by decide
  have e2 : double.binade = 4503599627370496 := by decide
  have e3 : double.infRung = 9218868437227405312 := by decide
  have e4 : double.leastPlace = -1074 := by decide
  unfold Format.read
  simp only [e1, e2, e3, e4]
  have hm : double.word neg (t * 4503599627370496 + K) % 9223372036854775808 = t * 4503599627370496 + K := by
    unfold Format.word; rw [e1]; split <;> omega
  have hs : (double.word neg (t * 4503599627370496 + K) / 9223372036854775808 % 2 == 1) = neg := by
    unfold Format.word; rw [e1]
    cases neg
    · simp; omega
    · simp; omega
  rw [hm, hs, if_neg (by omega), if_pos (by omega)]
  congr 1
  · omega
  · omega

theorem cut_zero (neg : Bool) (n : Nat) : Toward.even.cut neg n 0 = n := by
  simp [Toward.cut, Nat.mod_one]

theorem cut_exact (neg : Bool) (x k d : Nat) (h : d ≤ k) (hd : d ≤ (x * 2 ^ k).log2 + 2) : Toward.even.cut neg (x * 2 ^ k) d = x * 2 ^ (k - d) := by
  have hk : 0 < 2 ^ d := Nat.two_pow_pos d
  have e : x * 2 ^ k = x * 2 ^ (k - d) * 2 ^ d := by rw [two_pow d k h]; ac_rfl
  unfold Toward.cut
  simp only [Nat.min_eq_left hd, Nat.shiftLeft_eq, Nat.one_mul]
  rw [e, Nat.mul_div_cancel _ hk, Nat.mul_mod_left]
  have : (decide (2 ^ d < 2 * 0) || (2 ^ d == 2 * 0 && x * 2 ^ (k - d) % 2 == 1)) = false := by
    simp
  rw [this]; rfl

theorem cut_range (neg : Bool) (m d lo hi : Nat) (hd : d ≤ m.log2 + 2) (h1 : lo * 2 ^ d ≤ m) (h2 : m < hi * 2 ^ d) : lo ≤ Toward.even.cut neg m d ∧ Toward.even.cut neg m d ≤ hi := by
  have hk : 0 < 2 ^ d := Nat.two_pow_pos d
  have a : lo ≤ m / 2 ^ d := (Nat.le_div_iff_mul_le hk).2 h1
  have b : m / 2 ^ d < hi := (Nat.div_lt_iff_lt_mul hk).2 h2
  unfold Toward.cut
  simp only [Nat.min_eq_left hd, Nat.shiftLeft_eq, Nat.one_mul]
  generalize (decide (2 ^ d < 2 * (m % 2 ^ d)) || (2 ^ d == 2 * (m % 2 ^ d) && m / 2 ^ d % 2 == 1)) = q
  cases q <;> simp <;> omega

/-- the nearest word's reading where the number is normal. -/
theorem nearest_norm (neg : Bool) (mag : Nat) (place last : Int) (h0 : mag ≠ 0) (hl : last = place + mag.log2 - 52) (h1 : -1074 ≤ last) (h2 : last ≤ 900) :
    ∃ K L, double.read (double.nearest neg mag place) = .number neg K L ∧ 4503599627370496 ≤ K ∧ K < 9007199254740992 ∧ last ≤ L ∧ L ≤ last + 1 := by
  have e2 : double.binade = 4503599627370496 := by decide
  have e3 : double.infRung = 9218868437227405312 := by decide
  have e4 : double.leastPlace = -1074 := by decide
  have e5 : ((double.fractionBits : Nat) : Int) = 52 := by decide
  unfold Format.nearest
  simp only [if_neg h0, e2, e3, e4, e5]
  rw [show max (place + (mag.log2 : Int) - 52) (-1074) = last by omega]
  have hself := Nat.log2_self_le h0
  have hlt := @Nat.lt_log2_self mag
  obtain ⟨kept, hkept, k1, k2⟩ : ∃ kept, Toward.even.cut neg (mag <<< (place - last).toNat) (last - place).toNat = kept ∧ 4503599627370496 ≤ kept ∧ kept ≤ 9007199254740992 := by
    refine ⟨_, rfl, ?_⟩
    by_cases c : last ≤ place
    · rw [show (last - place).toNat = 0 by omega, cut_zero, Nat.shiftLeft_eq, show (place - last).toNat = 52 - mag.log2 by omega]
      have hp : mag.log2 ≤ 52 := by omega
      have hk : 0 < 2 ^ (52 - mag.log2) := Nat.two_pow_pos _
      constructor
      · calc 4503599627370496 = 2 ^ mag.log2 * 2 ^ (52 - mag.log2) := by rw [← two_pow _ _ hp]
          _ ≤ mag * 2 ^ (52 - mag.log2) := Nat.mul_le_mul_right _ hself
      · have : mag * 2 ^ (52 - mag.log2) < 2 ^ (mag.log2 + 1) * 2 ^ (52 - mag.log2) := Nat.mul_lt_mul_of_pos_right hlt hk
        rw [← Nat.pow_add, show mag.log2 + 1 + (52 - mag.log2) = 53 by omega] at this
        omega
    · rw [show (place - last).toNat = 0 by omega, Nat.shiftLeft_zero, show (last - place).toNat = mag.log2 - 52 by omega]
      refine cut_range neg mag _ _ _ (by omega) ?_ ?_
      · rw [show (4503599627370496 : Nat) = 2 ^ 52 by decide, ← Nat.pow_add, show 52 + (mag.log2 - 52) = mag.log2 by omega]; exact hself
      · rw [show (9007199254740992 : Nat) = 2 ^ 53 by decide, ← Nat.pow_add, show 53 + (mag.log2 - 52) = mag.log2 + 1 by omega]; exact hlt
  rw [hkept]
  obtain ⟨t, ht⟩ : ∃ t : Nat, last = (t : Int) - 1074 := ⟨(last + 1074).toNat, by omega⟩
  rw [show (last - -1074).toNat = t by omega, Nat.min_eq_left (by omega)]
  by_cases c : kept = 9007199254740992
  · rw [c, show t * 4503599627370496 + 9007199254740992 = (t + 1) * 4503599627370496 + 4503599627370496 by omega]
    exact ⟨_, _, read_word neg (t + 1) 4503599627370496 (by omega) (by omega) (by omega), by omega, by omega, by omega, by omega⟩
  · exact ⟨_, _, read_word neg t kept k1 (by omega) (by omega), k1, by omega, by omega, by omega⟩

/-- the word of a whole number below 2^53, however it is written. -/
theorem nearest_int (neg : Bool) (x k : Nat) (h0 : x ≠ 0) (hx : x < 9007199254740992) (_ : k ≤ 1074) :
    double.read (double.nearest neg (x * 2 ^ k) (-(k : Int))) = .number neg (x * 2 ^ (52 - x.log2)) (-((52 - x.log2 : Nat) : Int)) := by
  have e2 : double.binade = 4503599627370496 := by decide
  have e3 : double.infRung = 9218868437227405312 := by decide
  have e4 : double.leastPlace = -1074 := by decide
  have e5 : ((double.fractionBits : Nat) : Int) = 52 := by decide
  have hlog : x.log2 < 53 := (Nat.log2_lt h0).2 (by simpa using hx)
  have hself := Nat.log2_self_le h0
  have hlt := @Nat.lt_log2_self x
  have hne : x * 2 ^ k ≠ 0 := Nat.mul_ne_zero h0 (by have := Nat.two_pow_pos k; omega)
  unfold Format.nearest
  simp only [if_neg hne, e2, e3, e4, e5, log2_shift x k h0]
  rw [show max (-(k : Int) + ((x.log2 + k : Nat) : Int) - 52) (-1074) = (x.log2 : Int) - 52 by omega]
  have hkept : Toward.even.cut neg ((x * 2 ^ k) <<< (-(k : Int) - ((x.log2 : Int) - 52)).toNat) ((x.log2 : Int) - 52 - -(k : Int)).toNat = x * 2 ^ (52 - x.log2) := by
    by_cases c : (x.log2 : Int) - 52 ≤ -(k : Int)
    · rw [show ((x.log2 : Int) - 52 - -(k : Int)).toNat = 0 by omega, cut_zero, Nat.shiftLeft_eq, Nat.mul_assoc, ← Nat.pow_add]
      congr 2; omega
    · rw [show (-(k : Int) - ((x.log2 : Int) - 52)).toNat = 0 by omega, Nat.shiftLeft_zero, cut_exact neg x k _ (by omega) (by rw [log2_shift x k h0]; omega)]
      congr 2; omega
  rw [hkept]
  have hp : x.log2 ≤ 52 := by omega
  have hk' : 0 < 2 ^ (52 - x.log2) := Nat.two_pow_pos _
  have k1 : 4503599627370496 ≤ x * 2 ^ (52 - x.log2) := by
    have : 2 ^ x.log2 * 2 ^ (52 - x.log2) ≤ x * 2 ^ (52 - x.log2) := Nat.mul_le_mul_right _ hself
    rw [← Nat.pow_add, show x.log2 + (52 - x.log2) = 52 by omega] at this
    omega
  have k2 : x * 2 ^ (52 - x.log2) < 9007199254740992 := by
    have : x * 2 ^ (52 - x.log2) < 2 ^ (x.log2 + 1) * 2 ^ (52 - x.log2) := Nat.mul_lt_mul_of_pos_right hlt hk'
    rw [← Nat.pow_add, show x.log2 + 1 + (52 - x.log2) = 53 by omega] at this
    omega
  rw [show ((x.log2 : Int) - 52 - -1074).toNat = x.log2 + 1022 by omega, Nat.min_eq_left (by omega)]
  exact (read_word neg _ _ k1 k2 (by omega)).trans (congrArg (Datum.number neg _) (by omega))

theorem nearest_zero (neg : Bool) (place : Int) : double.read (double.nearest neg 0 place) = .number neg 0 (-1074) := by
  unfold Format.nearest
  rw [if_pos rfl]
  cases neg <;> decide +kernel

theorem zero_shift (k : Nat) : Int.natAbs 0 * 2 ^ k = 0 := Nat.zero_mul _

/-- the word b stands for the whole number n. -/
def IsInt (b : Nat) (n : Int) : Prop := ∃ (s : Bool) (k : Nat), double.read b = .number s (n.natAbs * 2 ^ k) (-(k : Int)) ∧ k ≤ 1074 ∧ (n ≠ 0 → s = decide (n < 0))

/-- the word b is far from zero. -/
def IsBig (b : Nat) (neg : Bool) : Prop := ∃ (K : Nat) (L : Int), double.read b = .number neg K L ∧ 4503599627370496 ≤ K ∧ K < 9007199254740992 ∧ -1 ≤ L

/-- .. farther, and whole. -/
def IsVast (b : Nat) (neg : Bool) : Prop := ∃ (K : Nat) (L : Int), double.read b = .number neg K L ∧ 4503599627370496 ≤ K ∧ K < 9007199254740992 ∧ 0 ≤ L ∧ L ≤ 20

theorem IsVast.big {b neg} (h : IsVast b neg) : IsBig b neg := by
  obtain ⟨K, L, h, h1, h2, h3, _⟩ := h; exact ⟨K, L, h, h1, h2, by omega⟩

theorem signed_int (s : Bool) (n : Int) (k e : Nat) (h : n ≠ 0 → s = decide (n < 0)) : signed s (n.natAbs * 2 ^ k) e = n * ((2 ^ (k + e) : Nat) : Int) := by
  unfold signed
  rw [Nat.shiftLeft_eq, Nat.mul_assoc, ← Nat.pow_add]
  by_cases h0 : n = 0
  · subst h0; cases s <;> simp
  · rw [h h0]
    by_cases c : n < 0
    · rw [decide_eq_true c, if_pos rfl]
      rw [Int.natCast_mul, ← Int.neg_mul]; congr 1; omega
    · rw [decide_eq_false c, if_neg (by decide)]
      rw [Int.natCast_mul]; congr 1; omega

theorem compare_mul (a b : Int) (k : Nat) : compare (a * ((2 ^ k : Nat) : Int)) (b * ((2 ^ k : Nat) : Int)) = compare a b := by
  have hk : (0 : Int) < ((2 ^ k : Nat) : Int) := by exact_mod_cast Nat.two_pow_pos k
  show compareOfLessAndEq _ _ = compareOfLessAndEq _ _
  unfold compareOfLessAndEq
  have h1 : (a * ((2 ^ k : Nat) : Int) < b * ((2 ^ k : Nat) : Int)) ↔ a < b := ⟨fun h => Int.lt_of_mul_lt_mul_right h (by omega), fun h => Int.mul_lt_mul_of_pos_right h hk⟩
  have h2 : (a * ((2 ^ k : Nat) : Int) = b * ((2 ^ k : Nat) : Int)) ↔ a = b := ⟨fun h => Int.eq_of_mul_eq_mul_right (by omega) h, fun h => by rw [h]⟩
  simp only [h1, h2]

theorem order_int {b c : Nat} {n m : Int} (hb : IsInt b n) (hc : IsInt c m) : double.order b c = some (compare n m) := by
  obtain ⟨s, k, e, _, hs⟩ := hb
  obtain ⟨t, l, f, _, ht⟩ := hc
  unfold Format.order Datum.order
  rw [e, f]
  simp only
  rw [signed_int s n k _ hs, signed_int t m l _ ht]
  rw [show k + (-(k : Int) - min (-(k : Int)) (-(l : Int))).toNat = max k l by omega, show l + (-(l : Int) - min (-(k : Int)) (-(l : Int))).toNat = max k l by omega, compare_mul]

theorem order_big {b c : Nat} {neg : Bool} {m : Int} (hb : IsBig b neg) (hc : IsInt c m) (h1 : -1000000 ≤ m) (h2 : m ≤ 1000000) : double.order b c = some (if neg then .lt else .gt) := by
  obtain ⟨K, L, e, k1, k2, hL⟩ := hb
  obtain ⟨t, l, f, _, ht⟩ := hc
  unfold Format.order Datum.order
  rw [e, f]
  simp only
  rw [signed_int t m l _ ht]
  have big : m * ((2 ^ (l + (-(l : Int) - min L (-(l : Int))).toNat) : Nat) : Int) < ((K <<< (L - min L (-(l : Int))).toNat : Nat) : Int) ∧ -((K <<< (L - min L (-(l : Int))).toNat : Nat) : Int) < m * ((2 ^ (l + (-(l : Int) - min L (-(l : Int))).toNat) : Nat) : Int) := by
    rw [Nat.shiftLeft_eq]
    by_cases c : L < -(l : Int)
    · rw [show (L - min L (-(l : Int))).toNat = 0 by omega, show l + (-(l : Int) - min L (-(l : Int))).toNat = 1 by omega]
      constructor <;> omega
    · rw [show l + (-(l : Int) - min L (-(l : Int))).toNat = l by omega]
      obtain ⟨j, hj⟩ : ∃ j, (L - min L (-(l : Int))).toNat + 1 = l + j := ⟨(L + 1).toNat, by omega⟩
      have hp : K * 2 ^ (L - min L (-(l : Int))).toNat * 2 = K * (2 ^ l * 2 ^ j) := by
        rw [Nat.mul_assoc, ← Nat.pow_succ, Nat.succ_eq_add_one, hj, Nat.pow_add]
      have hq : 4503599627370496 * 2 ^ l ≤ K * (2 ^ l * 2 ^ j) := Nat.mul_le_mul k1 (Nat.le_mul_of_pos_right _ (Nat.two_pow_pos j))
      have hl : 0 < 2 ^ l := Nat.two_pow_pos l
      generalize K * 2 ^ (L - min L (-(l : Int))).toNat = X at *
      generalize K * (2 ^ l * 2 ^ j) = Y at *
      generalize 2 ^ l = Z at *
      have z1 : m * (Z : Int) ≤ 1000000 * (Z : Int) := Int.mul_le_mul_of_nonneg_right h2 (by omega)
      have z2 : -1000000 * (Z : Int) ≤ m * (Z : Int) := Int.mul_le_mul_of_nonneg_right h1 (by omega)
      constructor <;> omega
  unfold signed
  cases neg
  · simp only [Bool.false_eq_true, if_false]
    congr 1
    show compareOfLessAndEq _ _ = _
    unfold compareOfLessAndEq
    rw [if_neg (by omega), if_neg (by omega)]
  · simp only [if_true]
    congr 1
    show compareOfLessAndEq _ _ = _
    unfold compareOfLessAndEq
    rw [if_pos (by omega)]

theorem of_int (n : Int) (h1 : -4503599627370496 < n) (h2 : n < 4503599627370496) : IsInt (floatOfInt .f64 n) n := by
  show IsInt (double.nearest (n < 0) n.natAbs 0) n
  by_cases h : n = 0
  · subst h; exact ⟨_, 1074, by rw [zero_shift]; exact nearest_zero false 0, by omega, by simp⟩
  · have := nearest_int (decide (n < 0)) n.natAbs 0 (by omega) (by omega) (by omega)
    rw [Nat.pow_zero, Nat.mul_one] at this
    exact ⟨_, _, this, by omega, fun _ => rfl⟩

theorem of_vast (n : Int) (h : n ≤ -4503599627370496 ∨ 4503599627370496 ≤ n) (h1 : -9223372036854775808 ≤ n) (h2 : n ≤ 9223372036854775807) : IsVast (floatOfInt .f64 n) (decide (n < 0)) := by
  show IsVast (double.nearest (n < 0) n.natAbs 0) _
  have hlo : 52 ≤ n.natAbs.log2 := (Nat.le_log2 (by omega)).2 (by have : 4503599627370496 ≤ n.natAbs := by omega
                                                                  simpa using this)
  have hhi : n.natAbs.log2 < 64 := (Nat.log2_lt (by omega)).2 (by have : n.natAbs < 18446744073709551616 := by omega
                                                                  simpa using this)
  obtain ⟨K, L, h, k1, k2, l1, l2⟩ := nearest_norm (decide (n < 0)) n.natAbs 0 _ (by omega) rfl (by omega) (by omega)
  exact ⟨K, L, h, k1, k2, by omega, by omega⟩

theorem to_int {b : Nat} {n : Int} (h : IsInt b n) (h1 : 0 ≤ n) (h2 : n ≤ 1000000) : floatToIntVal .f64 b .i64 = some n := by
  obtain ⟨s, k, e, _, hs⟩ := h
  have : (FloatKind.f64.decode b).toInt .zero = some n := by
    show (double.read b).toInt .zero = some n
    unfold Datum.toInt Datum.integral
    rw [e]
    simp only
    have hc : Toward.zero.cut s ((n.natAbs * 2 ^ k) <<< (-(k : Int)).toNat) (- -(k : Int)).toNat = n.natAbs := by
      rw [show (-(k : Int)).toNat = 0 by omega, show (- -(k : Int)).toNat = k by omega, Nat.shiftLeft_zero]
      by_cases h0 : n = 0
      · subst h0; unfold Toward.cut; simp
      · unfold Toward.cut
        rw [Nat.min_eq_left (by rw [log2_shift _ _ (by omega)]; omega)]
        simp only [Nat.shiftLeft_eq, Nat.one_mul]
        rw [Nat.mul_div_cancel _ (Nat.two_pow_pos k)]; rfl
    rw [hc]
    have := signed_int s n 0 0 hs
    simp only [Nat.pow_zero, Nat.mul_one] at this
    rw [this]; simp
  unfold floatToIntVal
  rw [this]
  exact if_pos ⟨by show (-9223372036854775808 : Int) ≤ n; omega, by show n ≤ 9223372036854775807; omega⟩

theorem sum_int {b c : Nat} {n m : Int} (hb : IsInt b n) (hc : IsInt c m) (h1 : -9007199254740992 < n + m) (h2 : n + m < 9007199254740992) : ∃ r, floatBits .add .f64 b c = some r ∧ IsInt r (n + m) := by
  obtain ⟨s, k, e, hk, hs⟩ := hb
  obtain ⟨t, l, f, hl, ht⟩ := hc
  show ∃ r, double.add b c = some r ∧ _
  unfold Format.add Datum.sum
  rw [e, f]
  simp only
  rw [signed_int s n k _ hs, signed_int t m l _ ht]
  rw [show k + (-(k : Int) - min (-(k : Int)) (-(l : Int))).toNat = max k l by omega, show l + (-(l : Int) - min (-(k : Int)) (-(l : Int))).toNat = max k l by omega, ← Int.add_mul]
  rw [show min (-(k : Int)) (-(l : Int)) = -((max k l : Nat) : Int) by omega]
  refine ⟨_, rfl, ?_⟩
  have hp : 0 < 2 ^ (max k l) := Nat.two_pow_pos _
  by_cases h0 : n + m = 0
  · rw [h0]; simp only [Int.zero_mul, Int.natAbs_zero, if_true]
    exact ⟨_, 1074, by rw [zero_shift]; exact nearest_zero (s && t) _, by omega, by simp⟩
  · have hne : (n + m) * ((2 ^ (max k l) : Nat) : Int) ≠ 0 := Int.mul_ne_zero h0 (by omega)
    rw [if_neg hne, Int.natAbs_mul, Int.natAbs_natCast]
    have hsg : decide ((n + m) * ((2 ^ (max k l) : Nat) : Int) < 0) = decide (n + m < 0) := by
      refine decide_eq_decide.2 ⟨fun h => ?_, fun h => Int.mul_neg_of_neg_of_pos h (by omega)⟩
      by_cases q : n + m < 0
      · exact q
      · have := Int.mul_nonneg (show 0 ≤ n + m by omega) (show (0 : Int) ≤ ((2 ^ (max k l) : Nat) : Int) by omega)
        omega
    rw [hsg]
    refine ⟨_, _, nearest_int (decide (n + m < 0)) (n + m).natAbs (max k l) (by omega) (by omega) (by omega), by omega, fun _ => rfl⟩

theorem sum_vast {b c : Nat} {n : Int} {neg : Bool} (hb : IsInt b n) (hc : IsVast c neg) (h1 : 0 ≤ n) (h2 : n ≤ 1000000) : ∃ r, floatBits .add .f64 b c = some r ∧ IsBig r neg := by
  obtain ⟨s, k, e, hk, hs⟩ := hb
  obtain ⟨K, L, f, k1, k2, l1, l2⟩ := hc
  show ∃ r, double.add b c = some r ∧ _
  unfold Format.add Datum.sum
  rw [e, f]
  simp only
  rw [signed_int s n k _ hs, show min (-(k : Int)) L = -(k : Int) by omega, show k + (-(k : Int) - -(k : Int)).toNat = k by omega, show (L - -(k : Int)).toNat = L.toNat + k by omega]
  refine ⟨_, rfl, ?_⟩
  have hp : 0 < 2 ^ k := Nat.two_pow_pos k
  have hLp : 2 ^ L.toNat ≤ 2 ^ 20 := Nat.pow_le_pow_right (by decide) (by omega)
  have hL1 : 1 ≤ 2 ^ L.toNat := Nat.two_pow_pos _
  have hK : K <<< (L.toNat + k) = (K * 2 ^ L.toNat) * 2 ^ k := by rw [Nat.shiftLeft_eq, Nat.pow_add, Nat.mul_assoc]
  have hV1 : 4503599627370496 ≤ K * 2 ^ L.toNat := Nat.le_trans k1 (Nat.le_mul_of_pos_right _ hL1)
  have hV2 : K * 2 ^ L.toNat ≤ 9007199254740992 * 2 ^ 20 := Nat.mul_le_mul (by omega) hLp
  generalize hV : K * 2 ^ L.toNat = V at *
  obtain ⟨T, hT, hsg, hT1, hT2⟩ : ∃ T : Int, n * ((2 ^ k : Nat) : Int) + signed neg K (L.toNat + k) = T * ((2 ^ k : Nat) : Int) ∧ decide (T < 0) = neg ∧ 2251799813685248 ≤ T.natAbs ∧ T.natAbs < 18889465931478580854784 := by
    unfold signed; rw [hK]
    cases neg
    · refine ⟨n + (V : Int), ?_, decide_eq_false (by omega), by omega, by omega⟩
      simp only [Bool.false_eq_true, if_false]
      rw [Int.natCast_mul, Int.add_mul]
    · refine ⟨n - (V : Int), ?_, decide_eq_true (by omega), by omega, by omega⟩
      simp only [if_true]
      rw [Int.natCast_mul, Int.sub_mul]; omega
  rw [hT]
  have hT0 : T ≠ 0 := by omega
  have hne : T * ((2 ^ k : Nat) : Int) ≠ 0 := Int.mul_ne_zero hT0 (by omega)
  rw [if_neg hne, Int.natAbs_mul, Int.natAbs_natCast]
  have hsg' : decide (T * ((2 ^ k : Nat) : Int) < 0) = neg := by
    rw [← hsg]
    refine decide_eq_decide.2 ⟨fun h => ?_, fun h => Int.mul_neg_of_neg_of_pos h (by omega)⟩
    by_cases q : T < 0
    · exact q
    · have := Int.mul_nonneg (show 0 ≤ T by omega) (show (0 : Int) ≤ ((2 ^ k : Nat) : Int) by omega)
      omega
  rw [hsg']
  have hlo : 51 ≤ T.natAbs.log2 := (Nat.le_log2 (by omega)).2 (by simpa using hT1)
  have hhi : T.natAbs.log2 < 75 := (Nat.log2_lt (by omega)).2 (by have : T.natAbs < 37778931862957161709568 := by omega
                                                                  simpa using this)
  obtain ⟨K', L', h, q1, q2, q3, q4⟩ := nearest_norm neg (T.natAbs * 2 ^ k) (-(k : Int)) _ (Nat.mul_ne_zero (by omega) (by omega)) rfl (by rw [log2_shift _ _ (by omega)]; omega) (by rw [log2_shift _ _ (by omega)]; omega)
  rw [log2_shift _ _ (by omega)] at q3 q4
  exact ⟨K', L', h, q1, q2, by omega⟩

theorem const0 : IsInt 0 0 := ⟨false, 1074, by rw [zero_shift]; decide +kernel, by omega, by simp⟩
theorem const1000 : IsInt 4652007308841189376 1000 := ⟨false, 43, by decide +kernel, by omega, by simp⟩
end Flt
end Go.Proofs.Ytbhoilbkeoebgaa
