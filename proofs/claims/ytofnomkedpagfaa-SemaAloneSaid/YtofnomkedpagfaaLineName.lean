/-
  What the document's Name of layer 7 comes to.
  Conditions: none on the strings but that they are strings.
-/
import Derived.Test.YtofnomkedpagfaaLineMem
namespace Go.Proofs.Ytofnomkedpagfaa
open Go.RowKit

theorem isName_cons (c : UInt8) (r : Str) : isName (c :: r) = (decide ((c :: r).length ≤ 24) && isLow c && (c :: r).all inName) := rfl
theorem isName_short {l : Str} (h : l.length < 1 ∨ 24 < l.length) : isName l = false := by
  match l with
  | [] => rfl
  | c :: r =>
    rw [isName_cons, decide_eq_false (by rcases h with h | h; simp at h; omega), Bool.false_and, Bool.false_and]
theorem isName_first {l : Str} {c : UInt8} (h : l[0]? = some c) (hc : isLow c = false) : isName l = false := by
  match l, h with
  | d :: r, h =>
    simp only [List.getElem?_cons_zero, Option.some.injEq] at h
    subst h
    rw [isName_cons, hc, Bool.and_false, Bool.false_and]
theorem isName_bad {l : Str} {c : UInt8} {k : Nat} (h : l[k]? = some c) (hc : inName c = false) : isName l = false := by
  match l, h with
  | d :: r, h =>
    rw [isName_cons]
    have : (d :: r).all inName = false := by
      rw [List.all_eq_false]
      exact ⟨c, List.mem_of_getElem? h, by rw [hc]; simp⟩
    rw [this, Bool.and_false]
theorem isName_good {l : Str} {c : UInt8} (h : l[0]? = some c) (hc : isLow c = true) (hl : l.length ≤ 24) (hall : ∀ (k : Nat) (d : UInt8), l[k]? = some d → inName d = true) : isName l = true := by
  match l, h with
  | d :: r, h =>
    simp only [List.getElem?_cons_zero, Option.some.injEq] at h
    subst h
    rw [isName_cons, hc, decide_eq_true hl]
    have : (d :: r).all inName = true := List.all_eq_true.2 fun x hx => by
      obtain ⟨i, hi⟩ := List.getElem?_of_mem hx
      exact hall i x hi
    rw [this]; rfl
/-- The sorts of bytes that may stand in a name, and the others. -/
theorem inName_sorts (c : UInt8) : (inName c = true ∧ ((97 ≤ c.toNat ∧ c.toNat ≤ 122) ∨ (48 ≤ c.toNat ∧ c.toNat ≤ 57) ∨ c.toNat = 95 ∨ c.toNat = 46)) ∨
    (inName c = false ∧ (c.toNat < 97 ∨ 122 < c.toNat) ∧ (c.toNat < 48 ∨ 57 < c.toNat) ∧ c.toNat ≠ 95 ∧ c.toNat ≠ 46) := by
  unfold inName isLow isDig
  cases h : decide (97 ≤ c.toNat) && decide (c.toNat ≤ 122) || decide (48 ≤ c.toNat) && decide (c.toNat ≤ 57) || c.toNat == 95 || c.toNat == 46
  · right
    simp only [Bool.or_eq_false_iff, Bool.and_eq_false_iff, decide_eq_false_iff_not, beq_eq_false_iff_ne, ne_eq] at h
    refine ⟨rfl, ?_, ?_, ?_, ?_⟩ <;> omega
  · left
    simp only [Bool.or_eq_true, Bool.and_eq_true, decide_eq_true_eq, beq_iff_eq] at h
    refine ⟨rfl, ?_⟩
    omega

set_option maxHeartbeats 4000000 in
theorem refName_any (s : ByteArray) (w : World) (hs : s.size ≤ 9223372036854775807) : Calls Try.prog 38 #[.string s] w fun e w' => e = .returned (.bool (isName (bytesS s))) ∧ w = w' := by
  by_cases h1 : s.size < 1
  · have e := isName_short (l := bytesS s) (.inl (by rw [bytesS_len]; exact h1))
    have h1' : (s.size : Int) < 1 := by omega
    rw [e]
    go_enter Try.func38, Try.ntmps38
    go_wp2_with fail
    go_ret
    exact ⟨rfl, rfl⟩
  have h1' : ¬ (s.size : Int) < 1 := by omega
  by_cases h2 : 24 < s.size
  · have e := isName_short (l := bytesS s) (.inr (by rw [bytesS_len]; exact h2))
    have h2' : (24 : Int) < (s.size : Int) := by omega
    rw [e]
    go_enter Try.func38, Try.ntmps38
    go_wp2_with fail
    go_ret
    exact ⟨rfl, rfl⟩
  have h2' : ¬ (24 : Int) < (s.size : Int) := by omega
  have h0 : 0 < s.size := by omega
  have hat := bytesS_at s 0 h0
  cases hlow : isLow s[0]
  · have e := isName_first hat hlow
    rw [e]
    unfold isLow at hlow
    simp only [Bool.and_eq_false_iff, decide_eq_false_iff_not] at hlow
    clear hat e
    by_cases h3 : s[0].toNat < 97
    · have h3' : (s[0].toNat : Int) < 97 := by omega
      go_enter Try.func38, Try.ntmps38
      go_wp2_with fail
      go_ret
      exact ⟨rfl, rfl⟩
    · have h3' : ¬ (s[0].toNat : Int) < 97 := by omega
      have h4' : (122 : Int) < (s[0].toNat : Int) := by omega
      clear hlow
      go_enter Try.func38, Try.ntmps38
      go_wp2_with fail
      go_ret
      exact ⟨rfl, rfl⟩
  have HLOW := Lib.hid hlow
  have HAT := Lib.hid hat
  unfold isLow at hlow
  simp only [Bool.and_eq_true, decide_eq_true_eq] at hlow
  have h3' : ¬ (s[0].toNat : Int) < 97 := by omega
  have h4' : ¬ (122 : Int) < (s[0].toNat : Int) := by omega
  clear hlow hat
  go_enter Try.func38, Try.ntmps38
  go_wp2_with fail
  clear h1' h2' h3' h4'
  go_loop [3] (fun i => ∃ k : Nat, i = .int .i64 k ∧ k ≤ s.size ∧ ∀ (j : Nat) (d : UInt8), j < k → (bytesS s)[j]? = some d → inName d = true) (fun i => s.size - (intOf i).toNat)
  case atStart => exact ⟨0, rfl, by omega, fun j d h => by omega⟩
  case round =>
    obtain ⟨k, rfl, hk, hall⟩ := hrel
    have HALL := Lib.hid hall
    clear hall
    by_cases hks : k < s.size
    · have hatk := bytesS_at s k hks
      rcases inName_sorts s[k] with ⟨hin, hsort⟩ | ⟨hin, n1, n2, n3, n4⟩
      · have HF : Hid (∀ (j : Nat) (d : UInt8), j < k + 1 → (bytesS s)[j]? = some d → inName d = true) := Lib.hid (fun j d hj hd => by
          rcases Nat.lt_or_ge j k with h | h
          · exact HALL.out j d h hd
          · obtain rfl : j = k := by omega
            rw [hatk] at hd
            simp only [Option.some.injEq] at hd
            rw [← hd]; exact hin)
        clear hatk hin
        rcases hsort with ⟨a1, a2⟩ | ⟨a1, a2⟩ | a1 | a1
        · have b1 : (97 : Int) ≤ (s[k].toNat : Int) := by omega
          have b2 : (s[k].toNat : Int) ≤ 122 := by omega
          clear a1 a2
          go_wp2_with fail
          go_round
          case rel => exact ⟨k + 1, by go_num, by omega, HF.out⟩
          case measure => simp [intOf]; omega
        · have b0 : ¬ (97 : Int) ≤ (s[k].toNat : Int) := by omega
          have b1 : (48 : Int) ≤ (s[k].toNat : Int) := by omega
          have b2 : (s[k].toNat : Int) ≤ 57 := by omega
          clear a1 a2
          go_wp2_with fail
          go_round
          case rel => exact ⟨k + 1, by go_num, by omega, HF.out⟩
          case measure => simp [intOf]; omega
        · have b0 : (s[k].toNat : Int) ≤ 122 := by omega
          have b1 : ¬ (97 : Int) ≤ (s[k].toNat : Int) := by omega
          have b2 : ¬ (s[k].toNat : Int) ≤ 57 := by omega
          have b3 : (48 : Int) ≤ (s[k].toNat : Int) := by omega
          have b4 : ((s[k].toNat : Int) == 95) = true := by rw [beq_iff_eq]; omega
          clear a1
          go_wp2_with fail
          go_round
          case rel => exact ⟨k + 1, by go_num, by omega, HF.out⟩
          case measure => simp [intOf]; omega
        · have b1 : ¬ (97 : Int) ≤ (s[k].toNat : Int) := by omega
          have b3 : ¬ (48 : Int) ≤ (s[k].toNat : Int) := by omega
          have b4 : ((s[k].toNat : Int) == 95) = false := by rw [beq_eq_false_iff_ne]; omega
          have b5 : ((s[k].toNat : Int) == 46) = true := by rw [beq_iff_eq]; omega
          clear a1
          go_wp2_with fail
          go_round
          case rel => exact ⟨k + 1, by go_num, by omega, HF.out⟩
          case measure => simp [intOf]; omega
      · have HE := Lib.hid (isName_bad hatk hin)
        have b4 : ((s[k].toNat : Int) == 95) = false := by rw [beq_eq_false_iff_ne]; omega
        have b5 : ((s[k].toNat : Int) == 46) = false := by rw [beq_eq_false_iff_ne]; omega
        clear hatk hin n3 n4
        rcases n1 with n1 | n1
        · have b1 : ¬ (97 : Int) ≤ (s[k].toNat : Int) := by omega
          rcases n2 with n2 | n2
          · have b2 : ¬ (48 : Int) ≤ (s[k].toNat : Int) := by omega
            clear n1 n2
            go_wp2_with fail
            go_ret
            exact ⟨ret_bool HE.out.symm, rfl⟩
          · have b2 : (48 : Int) ≤ (s[k].toNat : Int) := by omega
            have b3 : ¬ (s[k].toNat : Int) ≤ 57 := by omega
            clear n1 n2
            go_wp2_with fail
            go_ret
            exact ⟨ret_bool HE.out.symm, rfl⟩
        · have b1 : (97 : Int) ≤ (s[k].toNat : Int) := by omega
          have b0 : ¬ (s[k].toNat : Int) ≤ 122 := by omega
          have b2 : (48 : Int) ≤ (s[k].toNat : Int) := by omega
          have b3 : ¬ (s[k].toNat : Int) ≤ 57 := by omega
          clear n1 n2
          go_wp2_with fail
          go_ret
          exact ⟨ret_bool HE.out.symm, rfl⟩
    · have HE := Lib.hid (isName_good (l := bytesS s) HAT.out HLOW.out (by rw [bytesS_len]; omega) (fun j d hd => HALL.out j d (by have := (List.getElem?_eq_some_iff.1 hd).1; rw [bytesS_len] at this; omega) hd))
      have hks' : ¬ (k : Int) < (s.size : Int) := by omega
      go_wp2_with fail
      go_ret
      exact ⟨ret_bool HE.out.symm, rfl⟩


end Go.Proofs.Ytofnomkedpagfaa
