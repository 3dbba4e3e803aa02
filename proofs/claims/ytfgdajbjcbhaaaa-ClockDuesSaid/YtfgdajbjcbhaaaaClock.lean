/-
  The contracts of package clock: Add, Deadline, Due, First.
  Conditions: First's list lies in memory as a row of numbers.
-/
import Derived.Test.YtfgdajbjcbhaaaaNums
import Derived.WalkKit
import Derived.LoopTactic
namespace Go.Proofs.Ytfgdajbjcbhaaaa
open Go.RowKit

def laterF (now n : Int) : Int := if 9223372036854775807 - now < n then 9223372036854775807 else now + n

theorem laterF_in (now n : Int) (h : 0 ≤ now) (h1 : now ≤ 9223372036854775807) (h2 : 0 ≤ n) : now ≤ laterF now n ∧ laterF now n ≤ 9223372036854775807 := by
  unfold laterF; split <;> omega

theorem add_bad (now n : Int) (w : World) (h : now < 0 ∨ n < 0) :
    Calls Try.prog 8 #[.int .i64 now, .int .i64 n] w fun e w' => e = .returned (.tuple #[.int .i64 0, .iface 27 (.int .i64 1)]) ∧ w = w' := by
  by_cases h1 : now < 0
  · go_enter Try.func8, Try.ntmps8
    go_wp2
    go_ret2
    exact ⟨rfl, rfl⟩
  · have h2 : n < 0 := by omega
    go_enter Try.func8, Try.ntmps8
    go_wp2
    go_ret2
    exact ⟨rfl, rfl⟩

theorem add_ok (now n : Int) (w : World) (h : 0 ≤ now) (h1 : now ≤ 9223372036854775807) (h2 : 0 ≤ n) (h3 : n ≤ 9223372036854775807) (r : Int) (hr : laterF now n = r) :
    Calls Try.prog 8 #[.int .i64 now, .int .i64 n] w fun e w' => e = .returned (.tuple #[.int .i64 r, .nilIface]) ∧ w = w' := by
  subst hr
  by_cases h4 : 9223372036854775807 - now < n
  · have hl : laterF now n = 9223372036854775807 := if_pos h4
    have HL := Lib.hid hl; clear hl
    go_enter Try.func8, Try.ntmps8
    go_wp2
    go_ret2
    exact ⟨by rw [HL.out]; rfl, rfl⟩
  · have hl : laterF now n = now + n := if_neg h4
    have HL := Lib.hid hl; clear hl
    go_enter Try.func8, Try.ntmps8
    go_wp2
    go_ret2
    exact ⟨by rw [HL.out]; rfl, rfl⟩

theorem deadline_bad (now n : Int) (w : World) (h : now < 0 ∨ n < -1) :
    Calls Try.prog 9 #[.int .i64 now, .int .i64 n] w fun e w' => e = .returned (.tuple #[.int .i64 0, .iface 27 (.int .i64 1)]) ∧ w = w' := by
  by_cases h1 : now < 0
  · go_enter Try.func9, Try.ntmps9
    go_wp2_with fail
    go_ret2
    exact ⟨rfl, rfl⟩
  · have h2 : n < -1 := by omega
    go_enter Try.func9, Try.ntmps9
    go_wp2_with fail
    go_ret2
    exact ⟨rfl, rfl⟩

theorem deadline_forever (now : Int) (w : World) (h : 0 ≤ now) :
    Calls Try.prog 9 #[.int .i64 now, .int .i64 (-1)] w fun e w' => e = .returned (.tuple #[.int .i64 (-1), .nilIface]) ∧ w = w' := by
  have h1 : ¬ now < 0 := by omega
  go_enter Try.func9, Try.ntmps9
  go_wp2_with fail
  go_ret2
  exact ⟨rfl, rfl⟩

theorem deadline_ok (now n : Int) (w : World) (h : 0 ≤ now) (h1 : now ≤ 9223372036854775807) (h2 : 0 ≤ n) (h3 : n ≤ 9223372036854775807) (r : Int) (hr : laterF now n = r) :
    Calls Try.prog 9 #[.int .i64 now, .int .i64 n] w fun e w' => e = .returned (.tuple #[.int .i64 r, .nilIface]) ∧ w = w' := by
  subst hr
  have h4 : ¬ n = -1 := by omega
  go_enter Try.func9, Try.ntmps9
  go_wp2_with fail
  refine (add_ok now n _ h h1 h2 h3 _ rfl).mono ?_
  rintro e w' ⟨rfl, rfl⟩
  go_wp2_with fail
  go_ret2
  exact ⟨rfl, rfl⟩

def dueF (now d : Int) : Bool := decide (0 ≤ d) && decide (d ≤ now)

theorem due_any (now d : Int) (w : World) (r : Bool) (hr : dueF now d = r) :
    Calls Try.prog 10 #[.int .i64 now, .int .i64 d] w fun e w' => e = .returned (.bool r) ∧ w = w' := by
  subst hr
  by_cases h : 0 ≤ d
  · by_cases h1 : d ≤ now
    · have hd : dueF now d = true := by simp [dueF, h, h1]
      rw [hd]
      go_enter Try.func10, Try.ntmps10
      go_wp2
      go_ret
      exact ⟨rfl, rfl⟩
    · have hd : dueF now d = false := by simp [dueF, h, h1]
      rw [hd]
      have h2 : decide (d ≤ now) = false := by simpa using h1
      go_enter Try.func10, Try.ntmps10
      go_wp2
      go_ret
      exact ⟨rfl, rfl⟩
  · have hd : dueF now d = false := by simp [dueF, h]
    rw [hd]
    have h2 : decide (0 ≤ d) = false := by simpa using h
    go_enter Try.func10, Try.ntmps10
    go_wp2
    go_ret
    exact ⟨rfl, rfl⟩

theorem due_back (now d : Int) (w : World) (r : Bool) (hr : dueF now d = r) :
    Calls Try.prog 10 #[.int .i64 now, .int .i64 d] w fun e w' => e = .returned (.bool r) ∧ w' = w :=
  (due_any now d w r hr).mono fun _ _ ⟨h1, h2⟩ => ⟨h1, h2.symm⟩

theorem dueF_iff (now d : Int) : dueF now d = true ↔ 0 ≤ d ∧ d ≤ now := by simp [dueF]

def nearF (f x : Int) : Int := if 0 ≤ x ∧ (f = -1 ∨ x < f) then x else f
def firstF (l : List Int) : Int := l.foldl nearF (-1)

theorem nearF_lo (f x : Int) (h : -1 ≤ f) : -1 ≤ nearF f x := by unfold nearF; split <;> omega
theorem fold_lo (l : List Int) : ∀ f, -1 ≤ f → -1 ≤ l.foldl nearF f := by
  induction l with
  | nil => intro f h; exact h
  | cons x l ih => intro f h; exact ih _ (nearF_lo f x h)
theorem firstF_lo (l : List Int) : -1 ≤ firstF l := fold_lo l _ (by omega)

theorem firstF_snoc (l : List Int) (x : Int) : firstF (l ++ [x]) = nearF (firstF l) x := by simp [firstF]

/-- What is folded into a first. -/
theorem fold_near (l : List Int) : ∀ f, -1 ≤ f → l.foldl nearF f = nearF f (firstF l) := by
  induction l with
  | nil => intro f h; simp [firstF, nearF]
  | cons x l ih =>
    intro f h
    have h1 := nearF_lo f x h
    have h2 := nearF_lo (-1) x (by omega)
    simp only [firstF, List.foldl_cons]
    rw [ih _ h1, ih _ h2]
    have h3 := firstF_lo l
    generalize firstF l = y at *
    unfold nearF
    omega

/-- The first of two lists is the first of their firsts. -/
theorem firstF_append (a b : List Int) : firstF (a ++ b) = firstF [firstF a, firstF b] := by
  have h := firstF_lo a
  have e1 : nearF (-1) (firstF a) = firstF a := by unfold nearF; split <;> omega
  rw [firstF, List.foldl_append]
  show List.foldl nearF (firstF a) b = nearF (nearF (-1) (firstF a)) (firstF b)
  rw [fold_near b _ h, e1]

theorem firstF_take (xs : List Int) (k : Nat) (h : k < xs.length) : firstF (xs.take (k + 1)) = nearF (firstF (xs.take k)) (xs.getD k 0) := by
  rw [take_next xs k h, firstF_snoc]

theorem first_any {s : Option Addr} {xs : List Int} {B : Nat} (n c : Nat) (w : World) (hN : Nums w B s xs) (hn : xs.length = n) :
    Calls Try.prog 11 #[.slice s n c] w fun e w' => e = .returned (.int .i64 (firstF xs)) ∧ w = w' := by
  subst hn
  obtain ⟨hm, hc⟩ := hN
  unfold maxLen at hm
  have HC := Lib.hid hc
  clear hc
  go_enter Try.func11, Try.ntmps11
  go_wp2_with fail
  go_loop [3, 8] (fun f i => ∃ k : Nat, i = .int .i64 k ∧ f = .int .i64 (firstF (xs.take k)) ∧ k ≤ xs.length) (fun _ i => xs.length - (intOf i).toNat)
  case atStart => exact ⟨0, rfl, rfl, by omega⟩
  case round =>
    obtain ⟨k, rfl, rfl, hk⟩ := hrel
    have hlo := firstF_lo (xs.take k)
    by_cases hk1 : k < xs.length
    · obtain ⟨g, off, rfl, hg, hcell⟩ := HC.out k hk1
      have hst := firstF_take xs k hk1
      generalize hf : firstF (xs.take k) = f at *
      generalize hx : xs.getD k 0 = x at *
      have HST := Lib.hid hst; clear hst hf hx
      by_cases h1 : 0 ≤ x
      · by_cases h2 : f = -1
        · subst h2
          go_wp2_with fail
          go_round
          case rel => exact ⟨k + 1, by go_num, by rw [HST.out, nearF, if_pos ⟨h1, .inl rfl⟩], by omega⟩
          case measure => simp [intOf]; omega
        · by_cases h3 : x < f
          · go_wp2_with fail
            go_round
            case rel => exact ⟨k + 1, by go_num, by rw [HST.out, nearF, if_pos ⟨h1, .inr h3⟩], by omega⟩
            case measure => simp [intOf]; omega
          · have h4 : decide (x < f) = false := by simpa using h3
            go_wp2_with fail
            go_round
            case rel => exact ⟨k + 1, by go_num, by rw [HST.out, nearF, if_neg (by omega)], by omega⟩
            case measure => simp [intOf]; omega
      · have h4 : decide (0 ≤ x) = false := by simpa using h1
        go_wp2_with fail
        go_round
        case rel => exact ⟨k + 1, by go_num, by rw [HST.out, nearF, if_neg (by omega)], by omega⟩
        case measure => simp [intOf]; omega
    · have hk2 : xs.take k = xs := List.take_of_length_le (by omega)
      have HK := Lib.hid hk2; clear hk2
      go_wp2_with fail
      go_ret
      exact ⟨by rw [HK.out]; rfl, rfl⟩

end Go.Proofs.Ytfgdajbjcbhaaaa
