/-
  The contracts of package word's calls.
  Conditions: none.
-/
import Derived.Test.YtbhoilbkeoebgaaKept
import Derived.Test.YtbhoilbkeoebgaaFloats
import Derived.WalkKit
import Derived.WalkLawsBesides
namespace Go.Proofs.Ytbhoilbkeoebgaa
open Go.RowKit

/-- May this word of floating point be a count? -/
def cnt (b : Nat) : Bool := (FloatKind.f64.format.order b 0 == some .gt || FloatKind.f64.format.order b 0 == some .eq) && (FloatKind.f64.format.order b 4652007308841189376 == some .lt || FloatKind.f64.format.order b 4652007308841189376 == some .eq)

theorem count_any (b : Nat) (w : World) (r : Bool) (hr : cnt b = r) : Calls Try.prog 20 #[.float .f64 b] w fun e w' => e = .returned (.bool r) ∧ w = w' := by
  subst hr
  cases h : (FloatKind.f64.format.order b 0 == some .gt || FloatKind.f64.format.order b 0 == some .eq)
  · have hc : cnt b = false := by unfold cnt; rw [h]; rfl
    rw [hc]
    go_enter Try.func20, Try.ntmps20
    go_wp2
    go_ret
    exact ⟨rfl, rfl⟩
  · have hc : cnt b = (FloatKind.f64.format.order b 4652007308841189376 == some .lt || FloatKind.f64.format.order b 4652007308841189376 == some .eq) := by unfold cnt; rw [h]; rfl
    rw [hc]
    go_enter Try.func20, Try.ntmps20
    go_wp2
    go_ret
    exact ⟨rfl, rfl⟩

theorem both_any (r x : Int) (w : World) : Calls Try.prog 15 #[.int .i64 r, .int .i64 x] w fun e w' => e = .returned (.complex .f64 (floatOfInt .f64 r) (floatOfInt .f64 x)) ∧ w = w' := by
  go_enter Try.func15, Try.ntmps15
  go_wp2
  go_ret
  exact ⟨rfl, rfl⟩

theorem and_low (v : Int) : bits .and .i64 v 65535 = v % 65536 := by
  have e : (BitVec.ofInt 64 v &&& BitVec.ofInt 64 65535).toNat = (v % 65536).toNat := by
    rw [BitVec.toNat_and, BitVec.toNat_ofInt, BitVec.toNat_ofInt]
    rw [show ((65535 : Int) % ((2 ^ 64 : Nat) : Int)).toNat = 2 ^ 16 - 1 from by decide, Nat.and_two_pow_sub_one_eq_mod]
    omega
  show IntKind.i64.wrap (((BitVec.ofInt 64 v &&& BitVec.ofInt 64 65535).toNat : Nat) : Int) = _
  rw [e]
  have : ∀ x : Int, 0 ≤ x → x < 65536 → IntKind.i64.wrap x = x := by
    intro x a b
    have hm : x % 18446744073709551616 = x := by omega
    show (if (true && decide (x % 18446744073709551616 ≥ 9223372036854775808)) = true then x % 18446744073709551616 - 18446744073709551616 else x % 18446744073709551616) = x
    rw [hm, if_neg (by simp; omega)]
  rw [this _ (by omega) (by omega)]; omega

theorem split_any (v : Int) (w : World) : Calls Try.prog 18 #[.int .i64 v] w fun e w' => e = .returned (.complex .f64 (floatOfInt .f64 (v / 65536)) (floatOfInt .f64 (v % 65536))) ∧ w = w' := by
  have h := and_low v
  go_enter Try.func18, Try.ntmps18
  go_wp2
  go_ret
  exact ⟨by rw [← h]; rfl, rfl⟩

theorem fits_any (a b : Nat) (w : World) (r : Bool) (hr : (cnt a && cnt b) = r) : Calls Try.prog 16 #[.complex .f64 a b] w fun e w' => e = .returned (.bool r) ∧ w = w' := by
  subst hr
  cases h : cnt a
  · go_enter Try.func16, Try.ntmps16
    go_wp2_with fail
    refine (count_any _ _ _ h).mono ?_
    rintro e wx ⟨rfl, rfl⟩
    go_wp2_with fail
    go_ret
    exact ⟨rfl, rfl⟩
  · rw [Bool.true_and]
    go_enter Try.func16, Try.ntmps16
    go_wp2_with fail
    refine (count_any _ _ _ h).mono ?_
    rintro e wx ⟨rfl, rfl⟩
    go_wp2_with fail
    refine (count_any b _ _ rfl).mono ?_
    rintro e wx ⟨rfl, rfl⟩
    go_wp2_with fail
    go_ret
    exact ⟨rfl, rfl⟩

/-- May this number be a count? -/
def isCnt (n : Int) : Bool := decide (0 ≤ n) && decide (n ≤ 1000)

theorem cnt_int {b : Nat} {n : Int} (h : Flt.IsInt b n) : cnt b = isCnt n := by
  unfold cnt isCnt
  have h1 : FloatKind.f64.format.order b 0 = some (compare n 0) := Flt.order_int h Flt.const0
  have h2 : FloatKind.f64.format.order b 4652007308841189376 = some (compare n 1000) := Flt.order_int h Flt.const1000
  rw [h1, h2]
  have c : ∀ m : Int, compare n m = if n < m then .lt else if n = m then .eq else .gt := fun _ => rfl
  rw [c, c]
  congr 1
  · by_cases q : n < 0
    · simp [q]
    · by_cases q' : n = 0
      · simp [q']
      · simp [q, q']; omega
  · by_cases q : n < 1000
    · simp [q]; omega
    · by_cases q' : n = 1000
      · simp [q']
      · simp [q, q']; omega

theorem cnt_big {b : Nat} {neg : Bool} (h : Flt.IsBig b neg) : cnt b = false := by
  unfold cnt
  have h1 : FloatKind.f64.format.order b 0 = some (if neg then .lt else .gt) := Flt.order_big h Flt.const0 (by omega) (by omega)
  have h2 : FloatKind.f64.format.order b 4652007308841189376 = some (if neg then .lt else .gt) := Flt.order_big h Flt.const1000 (by omega) (by omega)
  rw [h1, h2]
  cases neg <;> rfl

theorem cnt_of (n : Int) (h1 : -9223372036854775808 ≤ n) (h2 : n ≤ 9223372036854775807) : cnt (floatOfInt .f64 n) = isCnt n := by
  by_cases h : -4503599627370496 < n ∧ n < 4503599627370496
  · exact cnt_int (Flt.of_int n h.1 h.2)
  · rw [cnt_big (Flt.of_vast n (by omega) h1 h2).big]
    unfold isCnt
    by_cases q : n < 0
    · simp [show ¬ 0 ≤ n by omega]
    · simp [show ¬ n ≤ 1000 by omega]

/-- a count, and what is added. -/
theorem sum_of (a n : Int) (h1 : 0 ≤ a) (h2 : a ≤ 1000) (n1 : -9223372036854775808 ≤ n) (n2 : n ≤ 9223372036854775807) : ∃ r, floatBits .add .f64 (floatOfInt .f64 a) (floatOfInt .f64 n) = some r ∧ cnt r = isCnt (a + n) ∧ (isCnt (a + n) = true → Flt.IsInt r (a + n)) := by
  have ha := Flt.of_int a (by omega) (by omega)
  by_cases h : -4503599627370496 < n ∧ n < 4503599627370496
  · obtain ⟨r, e, i⟩ := Flt.sum_int ha (Flt.of_int n h.1 h.2) (by omega) (by omega)
    exact ⟨r, e, cnt_int i, fun _ => i⟩
  · obtain ⟨r, e, i⟩ := Flt.sum_vast ha (Flt.of_vast n (by omega) n1 n2) h1 (by omega)
    have : isCnt (a + n) = false := by
      unfold isCnt
      by_cases q : n < 0
      · simp [show ¬ 0 ≤ a + n by omega]
      · simp [show ¬ a + n ≤ 1000 by omega]
    exact ⟨r, e, by rw [cnt_big i, this], fun h => by rw [this] at h; cases h⟩

theorem isCnt_iff (n : Int) : isCnt n = true ↔ 0 ≤ n ∧ n ≤ 1000 := by simp [isCnt]

theorem join_ok (a b : Nat) (x y : Int) (w : World) (ha : Flt.IsInt a x) (hb : Flt.IsInt b y) (hx : isCnt x = true) (hy : isCnt y = true) : Calls Try.prog 17 #[.complex .f64 a b] w fun e w' => e = .returned (.int .i64 (x * 65536 + y)) ∧ w = w' := by
  have hx' := (isCnt_iff x).1 hx
  have hy' := (isCnt_iff y).1 hy
  have h1 : ∀ w, (convert 40 2 (.float .f64 a)).run Try.prog w = .ok (.int .i64 x) w := fun w => run_convert_float_int w 40 2 .f64 .i64 a x (by rw [Try.underlying40]; rfl) Try.underlying2 (Flt.to_int ha (by omega) (by omega))
  have h2 : ∀ w, (convert 40 2 (.float .f64 b)).run Try.prog w = .ok (.int .i64 y) w := fun w => run_convert_float_int w 40 2 .f64 .i64 b y (by rw [Try.underlying40]; rfl) Try.underlying2 (Flt.to_int hb (by omega) (by omega))
  clear ha hb hx hy
  obtain ⟨x0, x1⟩ := hx'
  obtain ⟨y0, y1⟩ := hy'
  go_enter Try.func17, Try.ntmps17
  go_wp2_with (simp only [h1, h2])
  go_ret
  exact ⟨rfl, rfl⟩

end Go.Proofs.Ytbhoilbkeoebgaa
