/-
  The contracts of package clock's Add and Due.
  Conditions: none.
-/
import Derived.Test.YtdphbigkgdeecaaKept
import Derived.WalkKit
namespace Go.Proofs.Ytdphbigkgdeecaa
open Go.RowKit

def laterF (now n : Int) : Int := if 9223372036854775807 - now < n then 9223372036854775807 else now + n

theorem laterF_in (now n : Int) (h : 0 ≤ now) (h1 : now ≤ 9223372036854775807) (h2 : 0 ≤ n) : now ≤ laterF now n ∧ laterF now n ≤ 9223372036854775807 := by
  unfold laterF; split <;> omega

theorem add_bad (now n : Int) (w : World) (h : now < 0 ∨ n < 0) :
    Calls Try.prog 28 #[.int .i64 now, .int .i64 n] w fun e w' => e = .returned (.tuple #[.int .i64 0, .iface 29 (.int .i64 1)]) ∧ w = w' := by
  by_cases h1 : now < 0
  · go_enter Try.func28, Try.ntmps28
    go_wp2
    go_ret2
    exact ⟨rfl, rfl⟩
  · have h2 : n < 0 := by omega
    go_enter Try.func28, Try.ntmps28
    go_wp2
    go_ret2
    exact ⟨rfl, rfl⟩

theorem add_ok (now n : Int) (w : World) (h : 0 ≤ now) (h1 : now ≤ 9223372036854775807) (h2 : 0 ≤ n) (h3 : n ≤ 9223372036854775807) (r : Int) (hr : laterF now n = r) :
    Calls Try.prog 28 #[.int .i64 now, .int .i64 n] w fun e w' => e = .returned (.tuple #[.int .i64 r, .nilIface]) ∧ w = w' := by
  subst hr
  by_cases h4 : 9223372036854775807 - now < n
  · have hl : laterF now n = 9223372036854775807 := if_pos h4
    have HL := Lib.hid hl; clear hl
    go_enter Try.func28, Try.ntmps28
    go_wp2
    go_ret2
    exact ⟨by rw [HL.out]; rfl, rfl⟩
  · have hl : laterF now n = now + n := if_neg h4
    have HL := Lib.hid hl; clear hl
    go_enter Try.func28, Try.ntmps28
    go_wp2
    go_ret2
    exact ⟨by rw [HL.out]; rfl, rfl⟩

def dueF (now d : Int) : Bool := decide (0 ≤ d) && decide (d ≤ now)

theorem due_any (now d : Int) (w : World) (r : Bool) (hr : dueF now d = r) :
    Calls Try.prog 29 #[.int .i64 now, .int .i64 d] w fun e w' => e = .returned (.bool r) ∧ w = w' := by
  subst hr
  by_cases h : 0 ≤ d
  · by_cases h1 : d ≤ now
    · have hd : dueF now d = true := by simp [dueF, h, h1]
      rw [hd]
      go_enter Try.func29, Try.ntmps29
      go_wp2
      go_ret
      exact ⟨rfl, rfl⟩
    · have hd : dueF now d = false := by simp [dueF, h, h1]
      rw [hd]
      have h2 : decide (d ≤ now) = false := by simpa using h1
      go_enter Try.func29, Try.ntmps29
      go_wp2
      go_ret
      exact ⟨rfl, rfl⟩
  · have hd : dueF now d = false := by simp [dueF, h]
    rw [hd]
    have h2 : decide (0 ≤ d) = false := by simpa using h
    go_enter Try.func29, Try.ntmps29
    go_wp2
    go_ret
    exact ⟨rfl, rfl⟩

theorem due_back (now d : Int) (w : World) (r : Bool) (hr : dueF now d = r) :
    Calls Try.prog 29 #[.int .i64 now, .int .i64 d] w fun e w' => e = .returned (.bool r) ∧ w' = w :=
  (due_any now d w r hr).mono fun _ _ ⟨h1, h2⟩ => ⟨h1, h2.symm⟩

theorem dueF_iff (now d : Int) : dueF now d = true ↔ 0 ≤ d ∧ d ≤ now := by simp [dueF]

end Go.Proofs.Ytdphbigkgdeecaa
