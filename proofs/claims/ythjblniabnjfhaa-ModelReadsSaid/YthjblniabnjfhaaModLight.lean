/-
  The statements' own helpers of layer 10: light, and up, the document's example.
  Conditions: none.
-/
import Derived.Test.YthjblniabnjfhaaModTog
import Derived.Test.YthjblniabnjfhaaModCan
import Derived.LoopTactic
import Derived.Deep.QuietTactic
import Derived.BigQuiet
import Derived.Outline
import Derived.ChangeKeysEq
namespace Go.Proofs.Ythjblniabnjfhaa
open Go.RowKit
set_option linter.unusedSimpArgs false
set_option linter.unusedVariables false

/-- Whether the first k reads are light, too. -/
def okTo (v : Bool) (r : Nat → Int) : Nat → Bool
  | 0 => v
  | k + 1 => okTo v r k && decide (-1000000 ≤ r k) && decide (r k ≤ 1000000)
def baseM (x : Th) : Bool := decide (-1000000 ≤ x.n) && decide (x.n ≤ 1000000) && decide (-1000000 ≤ x.holds) && decide (x.holds ≤ 1000000) && decide (x.ws.length ≤ 100)
def lightM (x : Th) : Bool := okTo (baseM x) x.r 8
theorem okTo_read {v : Bool} {r : Nat → Int} : ∀ {k : Nat}, okTo v r k = true → v = true ∧ ∀ i, i < k → -1000000 ≤ r i ∧ r i ≤ 1000000
  | 0, h => ⟨h, fun i hi => absurd hi (Nat.not_lt_zero _)⟩
  | k + 1, h => by
    unfold okTo at h
    simp only [Bool.and_eq_true, decide_eq_true_eq] at h
    obtain ⟨h1, h2⟩ := okTo_read (k := k) h.1.1
    refine ⟨h1, fun i hi => ?_⟩
    by_cases e : i = k
    · subst e; exact ⟨h.1.2, h.2⟩
    · exact h2 i (by omega)
theorem light_fit {x : Th} (h : lightM x = true) (o0 : -9223372036854775808 ≤ x.offer) (o1 : x.offer ≤ 9223372036854775807) (t0 : ∀ q ∈ x.ws, -9223372036854775808 ≤ q.thread) (t1 : ∀ q ∈ x.ws, q.thread ≤ 9223372036854775807) : Fit x ∧ x.ws.length ≤ 100 ∧ (-1000000 ≤ x.n ∧ x.n ≤ 1000000) ∧ (-1000000 ≤ x.holds ∧ x.holds ≤ 1000000) ∧ ∀ i, i < 8 → -1000000 ≤ x.r i ∧ x.r i ≤ 1000000 := by
  obtain ⟨h1, h2⟩ := okTo_read h
  unfold baseM at h1
  simp only [Bool.and_eq_true, decide_eq_true_eq] at h1
  obtain ⟨⟨⟨⟨a, b⟩, c⟩, d⟩, e⟩ := h1
  exact ⟨⟨by omega, by omega, by omega, by omega, fun i hi => by have := h2 i hi; omega, fun i hi => by have := h2 i hi; omega, by omega, o0, o1, t0, t1⟩, e, ⟨a, b⟩, ⟨c, d⟩, h2⟩

theorem len_le {n : Nat} {v : Bool} (h : decide (n ≤ 100) = v) : decide ((n : Int) ≤ 100) = v := by rw [← h]; by_cases e : n ≤ 100 <;> simp [e] <;> omega

set_option maxHeartbeats 4000000 in
theorem light_any (x : Th) (s : Option Addr) (c : Nat) (w : World) (r : Bool) (hr : lightM x = r) :
    Calls Try.prog 10 #[x.agg s c] w fun e w' => e = .returned (.bool r) ∧ Kept (fun _ => False) w w' := by
  obtain ⟨W1, hW1⟩ : ∃ W1, w.alloc (.cells (x.box s c) 27) = W1 := ⟨_, rfl⟩
  have hT := BoxT.new w x s c
  have hk : Kept (fun _ => False) w (w.alloc (.cells (x.box s c) 27)) := (Kept.refl _ w).alloc _
  rw [hW1] at hT hk
  have HT := Lib.hid hT
  have HK := Lib.hid hk
  obtain ⟨_, _, _, _, _, _, _, _, _, _, _, _, _, _, _⟩ := hT.cells
  have HR := Lib.hid hr
  clear hT hk hr
  obtain ⟨v, hv⟩ : ∃ v, baseM x = v := ⟨_, rfl⟩
  have HV := Lib.hid hv
  unfold baseM at hv
  cases h1 : (decide (-1000000 ≤ x.n)) with
  | false =>
    obtain rfl : v = false := by rw [← hv]; simp only [h1, Bool.and_true, Bool.true_and, Bool.false_and, Bool.and_false, Bool.or_true, Bool.true_or, Bool.false_or, Bool.or_false, Bool.not_true, Bool.not_false]
    clear hv
    go_enter Try.func10, Try.ntmps10
    go_wp2_with fail
    go_loopw [3, 4] (fun a i wr => ∃ k : Nat, a = .bool (okTo false x.r k) ∧ i = .int .i64 k ∧ k ≤ 8 ∧ wr = W1) (fun _ i _ => 8 - (intOf i).toNat)
    case atStart => exact ⟨0, rfl, rfl, by omega, rfl⟩
    case round =>
      obtain ⟨k, rfl, rfl, hk, rfl⟩ := hrel
      by_cases hkk : k < 8
      · have y0 := HT.out.read hkk
        have k1 : (k : Int) < 8 := by omega
        have k2 : (k : Int) + 1 ≤ 8 := by omega
        have HO : Hid (okTo false x.r (k + 1) = (okTo false x.r k && decide (-1000000 ≤ x.r k) && decide (x.r k ≤ 1000000))) := Lib.hid rfl
        cases e0 : okTo false x.r k with
        | false =>
          rw [e0] at HO
          go_wp2_with fail
          go_roundw
          case rel => exact ⟨k + 1, by rw [HO.out]; rfl, by go_num, by omega, by first | rfl | trivial⟩
          case measure => simp [intOf]; omega
        | true =>
          rw [e0] at HO
          cases e1 : decide (-1000000 ≤ x.r k) with
          | false =>
            rw [e1] at HO
            go_wp2_with fail
            go_roundw
            case rel => exact ⟨k + 1, by rw [HO.out]; rfl, by go_num, by omega, by first | rfl | trivial⟩
            case measure => simp [intOf]; omega
          | true =>
            rw [e1] at HO
            cases e2 : decide (x.r k ≤ 1000000) with
            | false =>
              rw [e2] at HO
              go_wp2_with fail
              go_roundw
              case rel => exact ⟨k + 1, by rw [HO.out]; rfl, by go_num, by omega, by first | rfl | trivial⟩
              case measure => simp [intOf]; omega
            | true =>
              rw [e2] at HO
              go_wp2_with fail
              go_roundw
              case rel => exact ⟨k + 1, by rw [HO.out]; rfl, by go_num, by omega, by first | rfl | trivial⟩
              case measure => simp [intOf]; omega
      · obtain rfl : k = 8 := by omega
        go_wp2_with fail
        go_ret
        exact ⟨by rw [← HR.out]; unfold lightM; rw [HV.out]; rfl, HK.out⟩
  | true =>
    cases h2 : (decide (x.n ≤ 1000000)) with
    | false =>
      obtain rfl : v = false := by rw [← hv]; simp only [h1, h2, Bool.and_true, Bool.true_and, Bool.false_and, Bool.and_false, Bool.or_true, Bool.true_or, Bool.false_or, Bool.or_false, Bool.not_true, Bool.not_false]
      clear hv
      go_enter Try.func10, Try.ntmps10
      go_wp2_with fail
      go_loopw [3, 4] (fun a i wr => ∃ k : Nat, a = .bool (okTo false x.r k) ∧ i = .int .i64 k ∧ k ≤ 8 ∧ wr = W1) (fun _ i _ => 8 - (intOf i).toNat)
      case atStart => exact ⟨0, rfl, rfl, by omega, rfl⟩
      case round =>
        obtain ⟨k, rfl, rfl, hk, rfl⟩ := hrel
        by_cases hkk : k < 8
        · have y0 := HT.out.read hkk
          have k1 : (k : Int) < 8 := by omega
          have k2 : (k : Int) + 1 ≤ 8 := by omega
          have HO : Hid (okTo false x.r (k + 1) = (okTo false x.r k && decide (-1000000 ≤ x.r k) && decide (x.r k ≤ 1000000))) := Lib.hid rfl
          cases e0 : okTo false x.r k with
          | false =>
            rw [e0] at HO
            go_wp2_with fail
            go_roundw
            case rel => exact ⟨k + 1, by rw [HO.out]; rfl, by go_num, by omega, by first | rfl | trivial⟩
            case measure => simp [intOf]; omega
          | true =>
            rw [e0] at HO
            cases e1 : decide (-1000000 ≤ x.r k) with
            | false =>
              rw [e1] at HO
              go_wp2_with fail
              go_roundw
              case rel => exact ⟨k + 1, by rw [HO.out]; rfl, by go_num, by omega, by first | rfl | trivial⟩
              case measure => simp [intOf]; omega
            | true =>
              rw [e1] at HO
              cases e2 : decide (x.r k ≤ 1000000) with
              | false =>
                rw [e2] at HO
                go_wp2_with fail
                go_roundw
                case rel => exact ⟨k + 1, by rw [HO.out]; rfl, by go_num, by omega, by first | rfl | trivial⟩
                case measure => simp [intOf]; omega
              | true =>
                rw [e2] at HO
                go_wp2_with fail
                go_roundw
                case rel => exact ⟨k + 1, by rw [HO.out]; rfl, by go_num, by omega, by first | rfl | trivial⟩
                case measure => simp [intOf]; omega
        · obtain rfl : k = 8 := by omega
          go_wp2_with fail
          go_ret
          exact ⟨by rw [← HR.out]; unfold lightM; rw [HV.out]; rfl, HK.out⟩
    | true =>
      cases h3 : (decide (-1000000 ≤ x.holds)) with
      | false =>
        obtain rfl : v = false := by rw [← hv]; simp only [h1, h2, h3, Bool.and_true, Bool.true_and, Bool.false_and, Bool.and_false, Bool.or_true, Bool.true_or, Bool.false_or, Bool.or_false, Bool.not_true, Bool.not_false]
        clear hv
        go_enter Try.func10, Try.ntmps10
        go_wp2_with fail
        go_loopw [3, 4] (fun a i wr => ∃ k : Nat, a = .bool (okTo false x.r k) ∧ i = .int .i64 k ∧ k ≤ 8 ∧ wr = W1) (fun _ i _ => 8 - (intOf i).toNat)
        case atStart => exact ⟨0, rfl, rfl, by omega, rfl⟩
        case round =>
          obtain ⟨k, rfl, rfl, hk, rfl⟩ := hrel
          by_cases hkk : k < 8
          · have y0 := HT.out.read hkk
            have k1 : (k : Int) < 8 := by omega
            have k2 : (k : Int) + 1 ≤ 8 := by omega
            have HO : Hid (okTo false x.r (k + 1) = (okTo false x.r k && decide (-1000000 ≤ x.r k) && decide (x.r k ≤ 1000000))) := Lib.hid rfl
            cases e0 : okTo false x.r k with
            | false =>
              rw [e0] at HO
              go_wp2_with fail
              go_roundw
              case rel => exact ⟨k + 1, by rw [HO.out]; rfl, by go_num, by omega, by first | rfl | trivial⟩
              case measure => simp [intOf]; omega
            | true =>
              rw [e0] at HO
              cases e1 : decide (-1000000 ≤ x.r k) with
              | false =>
                rw [e1] at HO
                go_wp2_with fail
                go_roundw
                case rel => exact ⟨k + 1, by rw [HO.out]; rfl, by go_num, by omega, by first | rfl | trivial⟩
                case measure => simp [intOf]; omega
              | true =>
                rw [e1] at HO
                cases e2 : decide (x.r k ≤ 1000000) with
                | false =>
                  rw [e2] at HO
                  go_wp2_with fail
                  go_roundw
                  case rel => exact ⟨k + 1, by rw [HO.out]; rfl, by go_num, by omega, by first | rfl | trivial⟩
                  case measure => simp [intOf]; omega
                | true =>
                  rw [e2] at HO
                  go_wp2_with fail
                  go_roundw
                  case rel => exact ⟨k + 1, by rw [HO.out]; rfl, by go_num, by omega, by first | rfl | trivial⟩
                  case measure => simp [intOf]; omega
          · obtain rfl : k = 8 := by omega
            go_wp2_with fail
            go_ret
            exact ⟨by rw [← HR.out]; unfold lightM; rw [HV.out]; rfl, HK.out⟩
      | true =>
        cases h4 : (decide (x.holds ≤ 1000000)) with
        | false =>
          obtain rfl : v = false := by rw [← hv]; simp only [h1, h2, h3, h4, Bool.and_true, Bool.true_and, Bool.false_and, Bool.and_false, Bool.or_true, Bool.true_or, Bool.false_or, Bool.or_false, Bool.not_true, Bool.not_false]
          clear hv
          go_enter Try.func10, Try.ntmps10
          go_wp2_with fail
          go_loopw [3, 4] (fun a i wr => ∃ k : Nat, a = .bool (okTo false x.r k) ∧ i = .int .i64 k ∧ k ≤ 8 ∧ wr = W1) (fun _ i _ => 8 - (intOf i).toNat)
          case atStart => exact ⟨0, rfl, rfl, by omega, rfl⟩
          case round =>
            obtain ⟨k, rfl, rfl, hk, rfl⟩ := hrel
            by_cases hkk : k < 8
            · have y0 := HT.out.read hkk
              have k1 : (k : Int) < 8 := by omega
              have k2 : (k : Int) + 1 ≤ 8 := by omega
              have HO : Hid (okTo false x.r (k + 1) = (okTo false x.r k && decide (-1000000 ≤ x.r k) && decide (x.r k ≤ 1000000))) := Lib.hid rfl
              cases e0 : okTo false x.r k with
              | false =>
                rw [e0] at HO
                go_wp2_with fail
                go_roundw
                case rel => exact ⟨k + 1, by rw [HO.out]; rfl, by go_num, by omega, by first | rfl | trivial⟩
                case measure => simp [intOf]; omega
              | true =>
                rw [e0] at HO
                cases e1 : decide (-1000000 ≤ x.r k) with
                | false =>
                  rw [e1] at HO
                  go_wp2_with fail
                  go_roundw
                  case rel => exact ⟨k + 1, by rw [HO.out]; rfl, by go_num, by omega, by first | rfl | trivial⟩
                  case measure => simp [intOf]; omega
                | true =>
                  rw [e1] at HO
                  cases e2 : decide (x.r k ≤ 1000000) with
                  | false =>
                    rw [e2] at HO
                    go_wp2_with fail
                    go_roundw
                    case rel => exact ⟨k + 1, by rw [HO.out]; rfl, by go_num, by omega, by first | rfl | trivial⟩
                    case measure => simp [intOf]; omega
                  | true =>
                    rw [e2] at HO
                    go_wp2_with fail
                    go_roundw
                    case rel => exact ⟨k + 1, by rw [HO.out]; rfl, by go_num, by omega, by first | rfl | trivial⟩
                    case measure => simp [intOf]; omega
            · obtain rfl : k = 8 := by omega
              go_wp2_with fail
              go_ret
              exact ⟨by rw [← HR.out]; unfold lightM; rw [HV.out]; rfl, HK.out⟩
        | true =>
          cases h5 : (decide (x.ws.length ≤ 100)) with
          | false =>
            obtain rfl : v = false := by rw [← hv]; simp only [h1, h2, h3, h4, h5, Bool.and_true, Bool.true_and, Bool.false_and, Bool.and_false, Bool.or_true, Bool.true_or, Bool.false_or, Bool.or_false, Bool.not_true, Bool.not_false]
            have gh5 := len_le h5
            clear hv
            go_enter Try.func10, Try.ntmps10
            go_wp2_with fail
            go_loopw [3, 4] (fun a i wr => ∃ k : Nat, a = .bool (okTo false x.r k) ∧ i = .int .i64 k ∧ k ≤ 8 ∧ wr = W1) (fun _ i _ => 8 - (intOf i).toNat)
            case atStart => exact ⟨0, rfl, rfl, by omega, rfl⟩
            case round =>
              obtain ⟨k, rfl, rfl, hk, rfl⟩ := hrel
              by_cases hkk : k < 8
              · have y0 := HT.out.read hkk
                have k1 : (k : Int) < 8 := by omega
                have k2 : (k : Int) + 1 ≤ 8 := by omega
                have HO : Hid (okTo false x.r (k + 1) = (okTo false x.r k && decide (-1000000 ≤ x.r k) && decide (x.r k ≤ 1000000))) := Lib.hid rfl
                cases e0 : okTo false x.r k with
                | false =>
                  rw [e0] at HO
                  go_wp2_with fail
                  go_roundw
                  case rel => exact ⟨k + 1, by rw [HO.out]; rfl, by go_num, by omega, by first | rfl | trivial⟩
                  case measure => simp [intOf]; omega
                | true =>
                  rw [e0] at HO
                  cases e1 : decide (-1000000 ≤ x.r k) with
                  | false =>
                    rw [e1] at HO
                    go_wp2_with fail
                    go_roundw
                    case rel => exact ⟨k + 1, by rw [HO.out]; rfl, by go_num, by omega, by first | rfl | trivial⟩
                    case measure => simp [intOf]; omega
                  | true =>
                    rw [e1] at HO
                    cases e2 : decide (x.r k ≤ 1000000) with
                    | false =>
                      rw [e2] at HO
                      go_wp2_with fail
                      go_roundw
                      case rel => exact ⟨k + 1, by rw [HO.out]; rfl, by go_num, by omega, by first | rfl | trivial⟩
                      case measure => simp [intOf]; omega
                    | true =>
                      rw [e2] at HO
                      go_wp2_with fail
                      go_roundw
                      case rel => exact ⟨k + 1, by rw [HO.out]; rfl, by go_num, by omega, by first | rfl | trivial⟩
                      case measure => simp [intOf]; omega
              · obtain rfl : k = 8 := by omega
                go_wp2_with fail
                go_ret
                exact ⟨by rw [← HR.out]; unfold lightM; rw [HV.out]; rfl, HK.out⟩
          | true =>
            obtain rfl : v = true := by rw [← hv]; simp only [h1, h2, h3, h4, h5, Bool.and_true, Bool.true_and, Bool.false_and, Bool.and_false, Bool.or_true, Bool.true_or, Bool.false_or, Bool.or_false, Bool.not_true, Bool.not_false]
            have gh5 := len_le h5
            clear hv
            go_enter Try.func10, Try.ntmps10
            go_wp2_with fail
            go_loopw [3, 4] (fun a i wr => ∃ k : Nat, a = .bool (okTo true x.r k) ∧ i = .int .i64 k ∧ k ≤ 8 ∧ wr = W1) (fun _ i _ => 8 - (intOf i).toNat)
            case atStart => exact ⟨0, rfl, rfl, by omega, rfl⟩
            case round =>
              obtain ⟨k, rfl, rfl, hk, rfl⟩ := hrel
              by_cases hkk : k < 8
              · have y0 := HT.out.read hkk
                have k1 : (k : Int) < 8 := by omega
                have k2 : (k : Int) + 1 ≤ 8 := by omega
                have HO : Hid (okTo true x.r (k + 1) = (okTo true x.r k && decide (-1000000 ≤ x.r k) && decide (x.r k ≤ 1000000))) := Lib.hid rfl
                cases e0 : okTo true x.r k with
                | false =>
                  rw [e0] at HO
                  go_wp2_with fail
                  go_roundw
                  case rel => exact ⟨k + 1, by rw [HO.out]; rfl, by go_num, by omega, by first | rfl | trivial⟩
                  case measure => simp [intOf]; omega
                | true =>
                  rw [e0] at HO
                  cases e1 : decide (-1000000 ≤ x.r k) with
                  | false =>
                    rw [e1] at HO
                    go_wp2_with fail
                    go_roundw
                    case rel => exact ⟨k + 1, by rw [HO.out]; rfl, by go_num, by omega, by first | rfl | trivial⟩
                    case measure => simp [intOf]; omega
                  | true =>
                    rw [e1] at HO
                    cases e2 : decide (x.r k ≤ 1000000) with
                    | false =>
                      rw [e2] at HO
                      go_wp2_with fail
                      go_roundw
                      case rel => exact ⟨k + 1, by rw [HO.out]; rfl, by go_num, by omega, by first | rfl | trivial⟩
                      case measure => simp [intOf]; omega
                    | true =>
                      rw [e2] at HO
                      go_wp2_with fail
                      go_roundw
                      case rel => exact ⟨k + 1, by rw [HO.out]; rfl, by go_num, by omega, by first | rfl | trivial⟩
                      case measure => simp [intOf]; omega
              · obtain rfl : k = 8 := by omega
                go_wp2_with fail
                go_ret
                exact ⟨by rw [← HR.out]; unfold lightM; rw [HV.out]; rfl, HK.out⟩

theorem up_fit : Fit (newM 1 0) := ⟨by decide, by decide, by decide, by decide, fun _ _ => by show (-2000000 : Int) ≤ 0; decide, fun _ _ => by show (0 : Int) ≤ 2000000; decide, by decide, by decide, by decide, fun q h => (by cases h), fun q h => (by cases h)⟩
theorem inW_nil {w : World} {x : Th} (h : x.ws = []) (s : Option Addr) : InW w x s := by unfold InW; rw [h]; exact Elems.nil
/-- A lock that was taken once. -/
def upTh : Th := ⟨1, 0, 3, 1, fun _ => 0, [], -1, 0⟩

set_option maxHeartbeats 2000000 in
theorem up_any (w : World) : Calls Try.prog 9 #[] w fun e w' => e = .returned (.bool true) ∧ Kept (fun _ => False) w w' := by
  have HA : Hid (∀ w', Calls Try.prog 14 #[(newM 1 0).agg none 0, .int .i64 3, .agg #[.int .i64 1, .int .i64 1]] w' (Told w' upTh true)) := Lib.hid (fun w' => by
    have h := do_any (newM 1 0) 3 1 1 none 0 w' up_fit (inW_nil rfl _) (by decide) (by decide)
    rw [show doM (newM 1 0) 3 1 1 = upTh from rfl, show mayM (newM 1 0) 3 1 1 = true from rfl] at h
    exact h)
  have HB : Hid (∀ w', Calls Try.prog 14 #[(newM 1 0).agg none 0, .int .i64 3, .agg #[.int .i64 3, .int .i64 0]] w' (Told w' (newM 1 0) false)) := Lib.hid (fun w' => by
    have h := do_any (newM 1 0) 3 3 0 none 0 w' up_fit (inW_nil rfl _) (by decide) (by decide)
    rw [show doM (newM 1 0) 3 3 0 = newM 1 0 from rfl, show mayM (newM 1 0) 3 3 0 = false from rfl] at h
    exact h)
  go_enter Try.func9, Try.ntmps9
  go_wp2_with fail
  refine (new_any 1 0 false _).mono ?_
  rintro e w1 ⟨rfl, hk1⟩
  have HK1 := Lib.hid hk1; clear hk1
  go_wp2_with fail
  refine (HA.out _).mono ?_
  rintro e w2 ⟨s2, c2, rfl, _, hk2⟩
  have HK2 := Lib.hid (HK1.out.tr0 hk2); clear hk2
  have k3 : Kept (fun _ => False) w2 (w2.alloc (.cells (upTh.box s2 c2) 27)) := (Kept.refl _ w2).alloc _
  have b3 := BoxT.new w2 upTh s2 c2
  obtain ⟨W3, hW3⟩ : ∃ W3, w2.alloc (.cells (upTh.box s2 c2) 27) = W3 := ⟨_, rfl⟩
  rw [hW3] at k3 b3
  have u2 : (upTh.owner == 3) = true := rfl
  have u3 : (upTh.holds == 1) = true := rfl
  have HK3 := Lib.hid (HK2.out.tr0 k3)
  have HB3 := Lib.hid b3
  clear k3 b3
  go_wp2_with fail
  refine (new_any 1 0 false _).mono ?_
  rintro e w4 ⟨rfl, hk4⟩
  have HK4 := Lib.hid (HK3.out.tr0 hk4)
  have HB4 := Lib.hid (HB3.out.kept0 hk4); clear hk4
  go_wp2_with fail
  refine (HB.out _).mono ?_
  rintro e w5 ⟨s5, c5, rfl, _, hk5⟩
  have HK5 := Lib.hid (HK4.out.tr0 hk5)
  have hB5 := HB4.out.kept0 hk5
  have p2 := hB5.cells.c2
  have p3 := hB5.cells.c3
  have hlt := hB5.lt
  clear hk5 hB5
  go_wp2_with fail
  go_ret
  exact ⟨rfl, HK5.out.alloc _⟩

end Go.Proofs.Ythjblniabnjfhaa
