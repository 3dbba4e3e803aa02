/-
  The contracts of package word's exported calls, and the statements' own helpers.
  Conditions: none.
-/
import Derived.Test.YtbhoilbkeoebgaaWord
import Derived.Test.YtbhoilbkeoebgaaEql
namespace Go.Proofs.Ytbhoilbkeoebgaa
open Go.RowKit

/-- Is this number a word? -/
def isWord (v : Int) : Bool := isCnt (v / 65536) && isCnt (v % 65536)

theorem isWord_iff (v : Int) : isWord v = true ↔ (0 ≤ v / 65536 ∧ v / 65536 ≤ 1000) ∧ (0 ≤ v % 65536 ∧ v % 65536 ≤ 1000) := by simp [isWord, isCnt_iff]

theorem cnt_split (v : Int) (h1 : -9223372036854775808 ≤ v) (h2 : v ≤ 9223372036854775807) : (cnt (floatOfInt .f64 (v / 65536)) && cnt (floatOfInt .f64 (v % 65536))) = isWord v := by
  rw [cnt_of _ (by omega) (by omega), cnt_of _ (by omega) (by omega)]; rfl

theorem pack_bad (r x : Int) (w : World) (r1 : -9223372036854775808 ≤ r) (r2 : r ≤ 9223372036854775807) (x1 : -9223372036854775808 ≤ x) (x2 : x ≤ 9223372036854775807) (h : (isCnt r && isCnt x) = false) :
    Calls Try.prog 8 #[.int .i64 r, .int .i64 x] w fun e w' => e = .returned (.tuple #[.int .i64 0, .iface 28 (.int .i64 1)]) ∧ w = w' := by
  have hf : (cnt (floatOfInt .f64 r) && cnt (floatOfInt .f64 x)) = false := by rw [cnt_of r r1 r2, cnt_of x x1 x2]; exact h
  go_enter Try.func8, Try.ntmps8
  go_wp2_with fail
  refine (both_any _ _ _).mono ?_
  rintro e wx ⟨rfl, rfl⟩
  go_wp2_with fail
  refine (fits_any _ _ _ _ hf).mono ?_
  rintro e wx ⟨rfl, rfl⟩
  go_wp2_with fail
  go_ret2
  exact ⟨rfl, rfl⟩

theorem pack_ok (r x : Int) (w : World) (r1 : 0 ≤ r) (r2 : r ≤ 1000) (x1 : 0 ≤ x) (x2 : x ≤ 1000) :
    Calls Try.prog 8 #[.int .i64 r, .int .i64 x] w fun e w' => e = .returned (.tuple #[.int .i64 (r * 65536 + x), .nilIface]) ∧ w = w' := by
  have hr : isCnt r = true := (isCnt_iff r).2 ⟨r1, r2⟩
  have hx : isCnt x = true := (isCnt_iff x).2 ⟨x1, x2⟩
  have hf : (cnt (floatOfInt .f64 r) && cnt (floatOfInt .f64 x)) = true := by rw [cnt_of r (by omega) (by omega), cnt_of x (by omega) (by omega), hr, hx]; rfl
  have jr := Flt.of_int r (by omega) (by omega)
  have jx := Flt.of_int x (by omega) (by omega)
  go_enter Try.func8, Try.ntmps8
  go_wp2_with fail
  refine (both_any _ _ _).mono ?_
  rintro e wx ⟨rfl, rfl⟩
  go_wp2_with fail
  refine (fits_any _ _ _ _ hf).mono ?_
  rintro e wx ⟨rfl, rfl⟩
  go_wp2_with fail
  refine (join_ok _ _ r x _ jr jx hr hx).mono ?_
  rintro e wx ⟨rfl, rfl⟩
  go_wp2_with fail
  go_ret2
  exact ⟨rfl, rfl⟩

theorem may_any (v : Int) (w : World) (h1 : -9223372036854775808 ≤ v) (h2 : v ≤ 9223372036854775807) (r : Bool) (hr : isWord v = r) :
    Calls Try.prog 11 #[.int .i64 v] w fun e w' => e = .returned (.bool r) ∧ w = w' := by
  have hf := (cnt_split v h1 h2).trans hr
  go_enter Try.func11, Try.ntmps11
  go_wp2_with fail
  refine (split_any _ _).mono ?_
  rintro e wx ⟨rfl, rfl⟩
  go_wp2_with fail
  refine (fits_any _ _ _ _ hf).mono ?_
  rintro e wx ⟨rfl, rfl⟩
  go_wp2_with fail
  go_ret
  exact ⟨rfl, rfl⟩

theorem counts_bad (v : Int) (w : World) (h1 : -9223372036854775808 ≤ v) (h2 : v ≤ 9223372036854775807) (hr : isWord v = false) :
    Calls Try.prog 19 #[.int .i64 v] w fun e w' => e = .returned (.complex .f64 0 0) ∧ w = w' := by
  have hf := (cnt_split v h1 h2).trans hr
  go_enter Try.func19, Try.ntmps19
  go_wp2_with fail
  refine (split_any _ _).mono ?_
  rintro e wx ⟨rfl, rfl⟩
  go_wp2_with fail
  refine (fits_any _ _ _ _ hf).mono ?_
  rintro e wx ⟨rfl, rfl⟩
  go_wp2_with fail
  go_ret
  exact ⟨rfl, rfl⟩

theorem counts_ok (v : Int) (w : World) (h1 : -9223372036854775808 ≤ v) (h2 : v ≤ 9223372036854775807) (hr : isWord v = true) :
    Calls Try.prog 19 #[.int .i64 v] w fun e w' => e = .returned (.complex .f64 (floatOfInt .f64 (v / 65536)) (floatOfInt .f64 (v % 65536))) ∧ w = w' := by
  have hf := (cnt_split v h1 h2).trans hr
  go_enter Try.func19, Try.ntmps19
  go_wp2_with fail
  refine (split_any _ _).mono ?_
  rintro e wx ⟨rfl, rfl⟩
  go_wp2_with fail
  refine (fits_any _ _ _ _ hf).mono ?_
  rintro e wx ⟨rfl, rfl⟩
  go_wp2_with fail
  go_ret
  exact ⟨rfl, rfl⟩

theorem cut_to (a : Nat) (x : Int) (h : Flt.IsInt a x) (x0 : 0 ≤ x) (x1 : x ≤ 1000) (w : World) : (convert 40 3 (.float .f64 a)).run Try.prog w = .ok (.int .i64 x) w :=
  run_convert_float_int w 40 3 .f64 .i64 a x (by rw [Try.underlying40]; rfl) Try.underlying3 (Flt.to_int h (by omega) (by omega))

/-- A word's readers, its writer's holds; 0 of what is none. -/
def rdF (v : Int) : Int := if isWord v then v / 65536 else 0
def wrF (v : Int) : Int := if isWord v then v % 65536 else 0

theorem readers_any (v : Int) (w : World) (h1 : -9223372036854775808 ≤ v) (h2 : v ≤ 9223372036854775807) (r : Int) (hr : rdF v = r) :
    Calls Try.prog 12 #[.int .i64 v] w fun e w' => e = .returned (.int .i64 r) ∧ w = w' := by
  cases h : isWord v
  · have : r = 0 := by rw [← hr, rdF, h]; rfl
    subst this
    have hc := cut_to 0 0 Flt.const0 (by omega) (by omega)
    go_enter Try.func12, Try.ntmps12
    go_wp2_with fail
    refine (counts_bad _ _ h1 h2 h).mono ?_
    rintro e wx ⟨rfl, rfl⟩
    go_wp2_with fail
    go_ret
    exact ⟨rfl, rfl⟩
  · have : r = v / 65536 := by rw [← hr, rdF, h]; rfl
    subst this
    have hw := (isWord_iff v).1 h
    have hc := cut_to _ _ (Flt.of_int (v / 65536) (by omega) (by omega)) hw.1.1 hw.1.2
    go_enter Try.func12, Try.ntmps12
    go_wp2_with fail
    refine (counts_ok _ _ h1 h2 h).mono ?_
    rintro e wx ⟨rfl, rfl⟩
    go_wp2_with fail
    go_ret
    exact ⟨rfl, rfl⟩

theorem writes_any (v : Int) (w : World) (h1 : -9223372036854775808 ≤ v) (h2 : v ≤ 9223372036854775807) (r : Int) (hr : wrF v = r) :
    Calls Try.prog 13 #[.int .i64 v] w fun e w' => e = .returned (.int .i64 r) ∧ w = w' := by
  cases h : isWord v
  · have : r = 0 := by rw [← hr, wrF, h]; rfl
    subst this
    have hc := cut_to 0 0 Flt.const0 (by omega) (by omega)
    go_enter Try.func13, Try.ntmps13
    go_wp2_with fail
    refine (counts_bad _ _ h1 h2 h).mono ?_
    rintro e wx ⟨rfl, rfl⟩
    go_wp2_with fail
    go_ret
    exact ⟨rfl, rfl⟩
  · have : r = v % 65536 := by rw [← hr, wrF, h]; rfl
    subst this
    have hw := (isWord_iff v).1 h
    have hc := cut_to _ _ (Flt.of_int (v % 65536) (by omega) (by omega)) hw.2.1 hw.2.2
    go_enter Try.func13, Try.ntmps13
    go_wp2_with fail
    refine (counts_ok _ _ h1 h2 h).mono ?_
    rintro e wx ⟨rfl, rfl⟩
    go_wp2_with fail
    go_ret
    exact ⟨rfl, rfl⟩

theorem more_arg (v r x : Int) (w : World) (h1 : -9223372036854775808 ≤ v) (h2 : v ≤ 9223372036854775807) (h : isWord v = false) :
    Calls Try.prog 14 #[.int .i64 v, .int .i64 r, .int .i64 x] w fun e w' => e = .returned (.tuple #[.int .i64 0, .iface 28 (.int .i64 1)]) ∧ w = w' := by
  go_enter Try.func14, Try.ntmps14
  go_wp2_with fail
  refine (may_any _ _ h1 h2 _ h).mono ?_
  rintro e wx ⟨rfl, rfl⟩
  go_wp2_with fail
  go_ret2
  exact ⟨rfl, rfl⟩

theorem more_large (v r x : Int) (w : World) (r1 : -9223372036854775808 ≤ r) (r2 : r ≤ 9223372036854775807) (x1 : -9223372036854775808 ≤ x) (x2 : x ≤ 9223372036854775807) (h : isWord v = true) (hb : (isCnt (v / 65536 + r) && isCnt (v % 65536 + x)) = false) :
    Calls Try.prog 14 #[.int .i64 v, .int .i64 r, .int .i64 x] w fun e w' => e = .returned (.tuple #[.int .i64 0, .iface 28 (.int .i64 8)]) ∧ w = w' := by
  have hw := (isWord_iff v).1 h
  obtain ⟨p, ep, cp, _⟩ := sum_of (v / 65536) r hw.1.1 hw.1.2 r1 r2
  obtain ⟨q, eq, cq, _⟩ := sum_of (v % 65536) x hw.2.1 hw.2.2 x1 x2
  have hf : (cnt p && cnt q) = false := by rw [cp, cq]; exact hb
  have hs : cSumBits .add .f64 (floatOfInt .f64 (v / 65536)) (floatOfInt .f64 (v % 65536)) (floatOfInt .f64 r) (floatOfInt .f64 x) = some (p, q) := by unfold cSumBits; rw [ep, eq]; rfl
  have ha : ∀ t w, (binOp .add t (.complex .f64 (floatOfInt .f64 (v / 65536)) (floatOfInt .f64 (v % 65536))) (.complex .f64 (floatOfInt .f64 r) (floatOfInt .f64 x))).run Try.prog w = .ok (.complex .f64 p q) w := fun t w => run_complex_sum w .add (.inl rfl) t .f64 _ _ _ _ p q hs
  have v1 : -9223372036854775808 ≤ v := by omega
  have v2 : v ≤ 9223372036854775807 := by omega
  clear hw ep cp eq cq hs hb
  go_enter Try.func14, Try.ntmps14
  go_wp2_with fail
  refine (may_any _ _ v1 v2 _ h).mono ?_
  rintro e wx ⟨rfl, rfl⟩
  go_wp2_with fail
  refine (split_any _ _).mono ?_
  rintro e wx ⟨rfl, rfl⟩
  go_wp2_with fail
  refine (both_any _ _ _).mono ?_
  rintro e wx ⟨rfl, rfl⟩
  go_wp2_with fail
  refine (fits_any _ _ _ _ hf).mono ?_
  rintro e wx ⟨rfl, rfl⟩
  go_wp2_with fail
  go_ret2
  exact ⟨rfl, rfl⟩

theorem more_ok (v r x : Int) (w : World) (r1 : -9223372036854775808 ≤ r) (r2 : r ≤ 9223372036854775807) (x1 : -9223372036854775808 ≤ x) (x2 : x ≤ 9223372036854775807) (h : isWord v = true) (hb : isCnt (v / 65536 + r) = true) (hc : isCnt (v % 65536 + x) = true) (y : Int) (hy : (v / 65536 + r) * 65536 + (v % 65536 + x) = y) :
    Calls Try.prog 14 #[.int .i64 v, .int .i64 r, .int .i64 x] w fun e w' => e = .returned (.tuple #[.int .i64 y, .nilIface]) ∧ w = w' := by
  subst hy
  have hw := (isWord_iff v).1 h
  obtain ⟨p, ep, cp, ip⟩ := sum_of (v / 65536) r hw.1.1 hw.1.2 r1 r2
  obtain ⟨q, eq, cq, iq⟩ := sum_of (v % 65536) x hw.2.1 hw.2.2 x1 x2
  have hf : (cnt p && cnt q) = true := by rw [cp, cq, hb, hc]; rfl
  have jp := ip hb
  have jq := iq hc
  have hs : cSumBits .add .f64 (floatOfInt .f64 (v / 65536)) (floatOfInt .f64 (v % 65536)) (floatOfInt .f64 r) (floatOfInt .f64 x) = some (p, q) := by unfold cSumBits; rw [ep, eq]; rfl
  have ha : ∀ t w, (binOp .add t (.complex .f64 (floatOfInt .f64 (v / 65536)) (floatOfInt .f64 (v % 65536))) (.complex .f64 (floatOfInt .f64 r) (floatOfInt .f64 x))).run Try.prog w = .ok (.complex .f64 p q) w := fun t w => run_complex_sum w .add (.inl rfl) t .f64 _ _ _ _ p q hs
  have v1 : -9223372036854775808 ≤ v := by omega
  have v2 : v ≤ 9223372036854775807 := by omega
  clear hw ep cp eq cq hs ip iq
  go_enter Try.func14, Try.ntmps14
  go_wp2_with fail
  refine (may_any _ _ v1 v2 _ h).mono ?_
  rintro e wx ⟨rfl, rfl⟩
  go_wp2_with fail
  refine (split_any _ _).mono ?_
  rintro e wx ⟨rfl, rfl⟩
  go_wp2_with fail
  refine (both_any _ _ _).mono ?_
  rintro e wx ⟨rfl, rfl⟩
  go_wp2_with fail
  refine (fits_any _ _ _ _ hf).mono ?_
  rintro e wx ⟨rfl, rfl⟩
  go_wp2_with fail
  refine (join_ok _ _ _ _ _ jp jq hb hc).mono ?_
  rintro e wx ⟨rfl, rfl⟩
  go_wp2_with fail
  go_ret2
  exact ⟨rfl, rfl⟩

theorem wordUp_any (w : World) : Calls Try.prog 7 #[] w fun e w' => e = .returned (.bool true) ∧ w = w' := by
  have hq : ∀ (w : World) (a b : Int), (binOp .eql 24 (.iface 28 (.int .i64 a)) (.iface 28 (.int .i64 b))).run Try.prog w = .ok (.bool (a == b)) w := eql_codes
  go_enter Try.func7, Try.ntmps7
  go_wp2_with fail
  refine (pack_ok 2 3 _ (by omega) (by omega) (by omega) (by omega)).mono ?_
  rintro e wx ⟨rfl, rfl⟩
  go_wp2_with fail
  refine (more_arg (-1) 0 0 _ (by omega) (by omega) (by decide)).mono ?_
  rintro e wx ⟨rfl, rfl⟩
  go_wp2_with fail
  refine (may_any 131075 _ (by omega) (by omega) true (by decide)).mono ?_
  rintro e wx ⟨rfl, rfl⟩
  go_wp2_with fail
  go_ret
  exact ⟨rfl, rfl⟩

theorem countUp_any (n : Int) (w : World) (r : Bool) (hr : isCnt n = r) : Calls Try.prog 9 #[.int .i64 n] w fun e w' => e = .returned (.bool r) ∧ w = w' := by
  subst hr
  by_cases h : 0 ≤ n
  · by_cases h1 : n ≤ 1000
    · rw [show isCnt n = true by simp [isCnt, h, h1]]
      go_enter Try.func9, Try.ntmps9
      go_wp2
      go_ret
      exact ⟨rfl, rfl⟩
    · rw [show isCnt n = false by simp [isCnt, h1]]
      go_enter Try.func9, Try.ntmps9
      go_wp2
      go_ret
      exact ⟨rfl, rfl⟩
  · rw [show isCnt n = false by simp [isCnt, h]]
    go_enter Try.func9, Try.ntmps9
    go_wp2
    go_ret
    exact ⟨rfl, rfl⟩

theorem mayUp_any (v : Int) (w : World) (h1 : -9223372036854775808 ≤ v) (h2 : v ≤ 9223372036854775807) (r : Bool) (hr : isWord v = r) : Calls Try.prog 10 #[.int .i64 v] w fun e w' => e = .returned (.bool r) ∧ w = w' := by
  subst hr
  by_cases h : 0 ≤ v
  · by_cases h3 : v / 65536 ≤ 1000
    · by_cases h4 : v % 65536 ≤ 1000
      · rw [(isWord_iff v).2 ⟨⟨by omega, h3⟩, by omega, h4⟩]
        go_enter Try.func10, Try.ntmps10
        go_wp2
        go_ret
        exact ⟨rfl, rfl⟩
      · rw [show isWord v = false by simp [isWord, isCnt, h4]]
        go_enter Try.func10, Try.ntmps10
        go_wp2
        go_ret
        exact ⟨rfl, rfl⟩
    · rw [show isWord v = false by simp [isWord, isCnt, h3]]
      go_enter Try.func10, Try.ntmps10
      go_wp2
      go_ret
      exact ⟨rfl, rfl⟩
  · rw [show isWord v = false by simp [isWord, isCnt]; omega]
    go_enter Try.func10, Try.ntmps10
    go_wp2
    go_ret
    exact ⟨rfl, rfl⟩

end Go.Proofs.Ytbhoilbkeoebgaa
