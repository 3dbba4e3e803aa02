/-
  What the program's isName and parseName come to.
  Conditions: strings of at most 100000 bytes.
-/
import Derived.Test.YtibgkhfadlgonaaGreatDoorInsSmall
import Derived.Test.YtibgkhfadlgonaaGreatDoorLineName
namespace Go.Proofs.YtibgkhfadlgonaaGreatDoor
open Go.RowKit

theorem empty_no {s : ByteArray} (h : 0 < s.size) : s.toList.isEmpty = false ∧ ¬ s.toList = [] := by
  have e : ¬ s.toList = [] := by
    intro e
    rw [Lib.toList_data] at e
    have := Lib.size_eq s
    rw [e, List.length_nil] at this
    omega
  exact ⟨by rw [List.isEmpty_eq_false_iff]; exact e, e⟩
theorem empty_yes {s : ByteArray} (h : s.size = 0) : s.toList.isEmpty = true ∧ s.toList = [] := by
  have e : s.toList = [] := by
    rw [Lib.toList_data]
    exact List.eq_nil_of_length_eq_zero (by rw [← Lib.size_eq]; exact h)
  exact ⟨by rw [e]; rfl, e⟩

set_option maxHeartbeats 1000000 in
theorem isName_any (s : ByteArray) (w : World) (hs : s.size ≤ 9223372036854775807) : Calls Tryz.prog 14 #[.string s] w fun e w' => e = .returned (.bool (isName (bytesS s))) ∧ w' = w := by
  rcases Nat.eq_zero_or_pos s.size with h0 | h0
  · have e : isName (bytesS s) = false := isName_short (.inl (by rw [bytesS_len]; omega))
    rw [e]
    obtain ⟨e1, e2⟩ := empty_yes h0
    clear e h0
    go_enter Tryz.func14, Tryz.ntmps14
    go_wp2_with fail
    go_ret
    exact ⟨rfl, rfl⟩
  obtain ⟨e1, e2⟩ := empty_no h0
  by_cases h24 : 24 < s.size
  · have e : isName (bytesS s) = false := isName_short (.inr (by rw [bytesS_len]; omega))
    rw [e]
    have h2 : (24 : Int) < (s.size : Int) := by omega
    clear e h24
    go_enter Tryz.func14, Tryz.ntmps14
    go_wp2_with fail
    go_ret
    exact ⟨rfl, rfl⟩
  have h2' : ¬ (24 : Int) < (s.size : Int) := by omega
  have hat := bytesS_at s 0 h0
  have h01 : (0 : Int) < (s.size : Int) := by omega
  cases hlow : isLow s[0]
  · have e := isName_first hat hlow
    rw [e]
    clear hat e
    go_enter Tryz.func14, Tryz.ntmps14
    go_wp2_with fail
    refine (isLetter_any s[0] _).mono ?_
    rintro e wx ⟨rfl, rfl⟩
    go_wp2_with fail
    go_ret
    exact ⟨rfl, rfl⟩
  have HAT := Lib.hid hat
  clear hat
  go_enter Tryz.func14, Tryz.ntmps14
  go_wp2_with fail
  refine (isLetter_any s[0] _).mono ?_
  rintro e wx ⟨rfl, rfl⟩
  go_wp2_with fail
  have HLOW := Lib.hid hlow
  clear hlow h2' e1 e2
  go_loop [20] (fun i => ∃ k : Nat, i = .int .i64 k ∧ k ≤ s.size ∧ ∀ (j : Nat) (d : UInt8), j < k → (bytesS s)[j]? = some d → inName d = true) (fun i => s.size - (intOf i).toNat)
  case atStart => exact ⟨0, rfl, by omega, fun j d h => by omega⟩
  case round =>
    obtain ⟨k, rfl, hk, hall⟩ := hrel
    have HALL := Lib.hid hall
    clear hall
    by_cases hks : k < s.size
    case neg =>
      have hks' : ¬ (k : Int) < (s.size : Int) := by omega
      have HE := Lib.hid (isName_good (l := bytesS s) HAT.out HLOW.out (by rw [bytesS_len]; omega) (fun j d hd => HALL.out j d (by have := (List.getElem?_eq_some_iff.1 hd).1; rw [bytesS_len] at this; omega) hd))
      go_wp2_with fail
      go_ret
      exact ⟨ret_bool HE.out.symm, rfl⟩
    have hks' : (k : Int) < (s.size : Int) := by omega
    have hatk := bytesS_at s k hks
    by_cases hin : inName s[k] = true
    case neg =>
      have HE := Lib.hid (isName_bad hatk (by simpa using hin))
      unfold inName at hin
      simp only [Bool.or_eq_true, not_or, Bool.not_eq_true, beq_iff_eq] at hin
      obtain ⟨⟨⟨g1, g2⟩, g3⟩, g4⟩ := hin
      have b4 : ((s[k].toNat : Int) != 95) = true := by rw [bne_iff_ne]; omega
      have b5 : ((s[k].toNat : Int) != 46) = true := by rw [bne_iff_ne]; omega
      clear hatk g3 g4
      go_wp2_with fail
      refine (isLetter_any s[k] _).mono ?_
      rintro e wx ⟨rfl, rfl⟩
      go_wp2_with fail
      refine (isDigit_any s[k] _).mono ?_
      rintro e wx ⟨rfl, rfl⟩
      go_wp2_with fail
      go_ret
      exact ⟨ret_bool HE.out.symm, rfl⟩
    have HF : Hid (∀ (j : Nat) (d : UInt8), j < k + 1 → (bytesS s)[j]? = some d → inName d = true) := Lib.hid (fun j d hj hd => by
      rcases Nat.lt_or_ge j k with h | h
      · exact HALL.out j d h hd
      · obtain rfl : j = k := by omega
        rw [hatk] at hd
        simp only [Option.some.injEq] at hd
        rw [← hd]; exact hin)
    clear hatk
    unfold inName at hin
    cases g1 : isLow s[k]
    · cases g2 : isDig s[k]
      · rw [g1, g2] at hin
        simp only [Bool.or_eq_true, Bool.false_eq_true, false_or, beq_iff_eq] at hin
        by_cases g3 : s[k].toNat = 95
        · have b4 : ((s[k].toNat : Int) != 95) = false := by rw [bne_eq_false_iff_eq]; omega
          clear hin g3
          go_wp2_with fail
          refine (isLetter_any s[k] _).mono ?_
          rintro e wx ⟨rfl, rfl⟩
          go_wp2_with fail
          refine (isDigit_any s[k] _).mono ?_
          rintro e wx ⟨rfl, rfl⟩
          go_wp2_with fail
          go_round
          case rel => exact ⟨k + 1, by go_num, by omega, HF.out⟩
          case measure => simp [intOf]; omega
        · have b4 : ((s[k].toNat : Int) != 95) = true := by rw [bne_iff_ne]; omega
          have b5 : ((s[k].toNat : Int) != 46) = false := by rw [bne_eq_false_iff_eq]; omega
          clear hin g3
          go_wp2_with fail
          refine (isLetter_any s[k] _).mono ?_
          rintro e wx ⟨rfl, rfl⟩
          go_wp2_with fail
          refine (isDigit_any s[k] _).mono ?_
          rintro e wx ⟨rfl, rfl⟩
          go_wp2_with fail
          go_round
          case rel => exact ⟨k + 1, by go_num, by omega, HF.out⟩
          case measure => simp [intOf]; omega
      · clear hin
        go_wp2_with fail
        refine (isLetter_any s[k] _).mono ?_
        rintro e wx ⟨rfl, rfl⟩
        go_wp2_with fail
        refine (isDigit_any s[k] _).mono ?_
        rintro e wx ⟨rfl, rfl⟩
        go_wp2_with fail
        go_round
        case rel => exact ⟨k + 1, by go_num, by omega, HF.out⟩
        case measure => simp [intOf]; omega
    · clear hin
      go_wp2_with fail
      refine (isLetter_any s[k] _).mono ?_
      rintro e wx ⟨rfl, rfl⟩
      go_wp2_with fail
      go_round
      case rel => exact ⟨k + 1, by go_num, by omega, HF.out⟩
      case measure => simp [intOf]; omega

/-- What parseName comes to. -/
def NameTo (w : World) (l : Str) (e : Ending) (w' : World) : Prop := ∃ (n : Str) (ok : Bool), e = .returned (.tuple #[.string (strS n), .bool ok]) ∧ n = (if isName l then l else []) ∧ ok = isName l ∧ Kept (fun _ => False) w w'
theorem parseName_any (s : ByteArray) (w : World) (hs : s.size ≤ 100000) : Calls Tryz.prog 47 #[.string s] w (NameTo w (bytesS s)) := by
  cases hn : isName (bytesS s)
  · have HR : Hid (NameTo w (bytesS s) (.returned (.tuple #[.string (strS []), .bool false])) w) := Lib.hid ⟨[], false, rfl, by rw [hn]; rfl, hn.symm, Kept.refl _ _⟩
    go_enter Tryz.func47, Tryz.ntmps47
    go_wp2_with fail
    refine (isName_any s w (by omega)).mono ?_
    rintro e1 w1 ⟨rfl, rfl⟩
    go_wp2_with fail
    go_ret2
    exact HR.out
  · go_enter Tryz.func47, Tryz.ntmps47
    go_wp2_with fail
    refine (isName_any s w (by omega)).mono ?_
    rintro e1 w1 ⟨rfl, rfl⟩
    go_wp2_with fail
    go_in
    go_wp2_with fail
    refine (clone_any s _ (by omega)).mono ?_
    rintro e1 w2 ⟨rfl, hk⟩
    have HR : Hid (NameTo w1 (bytesS s) (.returned (.tuple #[.string s, .bool true])) w2) := Lib.hid ⟨bytesS s, true, rfl, by rw [hn]; rfl, hn.symm, hk⟩
    clear hk
    go_wp2_with fail
    go_ret2
    exact HR.out

end Go.Proofs.YtibgkhfadlgonaaGreatDoor
