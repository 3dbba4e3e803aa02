/-
  What the program's isName and parseName come to.
  Conditions: strings of at most 100000 bytes.
  What the program's printRegister, parseRegister and parseNumber come to.
  Conditions: the table lies as the program's text lays it; strings of at most 100000 bytes.
-/
import Derived.Test.YtlhnbihpefgcbaaGreatDoorInsSmall
import Derived.Test.YtlhnbihpefgcbaaGreatDoorLineName
import Derived.Deep.QuietTactic
import Derived.BigQuiet
section
namespace Go.Proofs.YtlhnbihpefgcbaaGreatDoor
open Go.RowKit

theorem empty_no {s : ByteArray} (h : 0 < s.size) : s.toList.isEmpty = false ∧ ¬ s.toList = [] := by
  have e : ¬ s.toList = [] := by
    intro e
    rw [Lib.toList_data] at e
    have := Lib.size_eq s
    rw [e, List.length_nil] at this
    omega
  exact ⟨by rw [List.isEmpty_eq_false_iff]; exact e, e⟩
theorem empty_yes {s : ByteArray} (h : s.size = 0) : s.toList.isEmpty = true ∧ s.toList = [] := by
  have e : s.toList = [] := by
    rw [Lib.toList_data]
    exact List.eq_nil_of_length_eq_zero (by rw [← Lib.size_eq]; exact h)
  exact ⟨by rw [e]; rfl, e⟩

set_option maxHeartbeats 1000000 in
theorem isName_any (s : ByteArray) (w : World) (hs : s.size ≤ 9223372036854775807) : Calls Tryz.prog 82 #[.string s] w fun e w' => e = .returned (.bool (isName (bytesS s))) ∧ w' = w := by
  rcases Nat.eq_zero_or_pos s.size with h0 | h0
  · have e : isName (bytesS s) = false := isName_short (.inl (by rw [bytesS_len]; omega))
    rw [e]
    obtain ⟨e1, e2⟩ := empty_yes h0
    clear e h0
    go_enter Tryz.func82, Tryz.ntmps82
    go_wp2_with fail
    go_ret
    exact ⟨rfl, rfl⟩
  obtain ⟨e1, e2⟩ := empty_no h0
  by_cases h24 : 24 < s.size
  · have e : isName (bytesS s) = false := isName_short (.inr (by rw [bytesS_len]; omega))
    rw [e]
    have h2 : (24 : Int) < (s.size : Int) := by omega
    clear e h24
    go_enter Tryz.func82, Tryz.ntmps82
    go_wp2_with fail
    go_ret
    exact ⟨rfl, rfl⟩
  have h2' : ¬ (24 : Int) < (s.size : Int) := by omega
  have hat := bytesS_at s 0 h0
  have h01 : (0 : Int) < (s.size : Int) := by omega
  cases hlow : isLow s[0]
  · have e := isName_first hat hlow
    rw [e]
    clear hat e
    go_enter Tryz.func82, Tryz.ntmps82
    go_wp2_with fail
    refine (isLetter_any s[0] _).mono ?_
    rintro e wx ⟨rfl, rfl⟩
    go_wp2_with fail
    go_ret
    exact ⟨rfl, rfl⟩
  have HAT := Lib.hid hat
  clear hat
  go_enter Tryz.func82, Tryz.ntmps82
  go_wp2_with fail
  refine (isLetter_any s[0] _).mono ?_
  rintro e wx ⟨rfl, rfl⟩
  go_wp2_with fail
  have HLOW := Lib.hid hlow
  clear hlow h2' e1 e2
  go_loop [20] (fun i => ∃ k : Nat, i = .int .i64 k ∧ k ≤ s.size ∧ ∀ (j : Nat) (d : UInt8), j < k → (bytesS s)[j]? = some d → inName d = true) (fun i => s.size - (intOf i).toNat)
  case atStart => exact ⟨0, rfl, by omega, fun j d h => by omega⟩
  case round =>
    obtain ⟨k, rfl, hk, hall⟩ := hrel
    have HALL := Lib.hid hall
    clear hall
    by_cases hks : k < s.size
    case neg =>
      have hks' : ¬ (k : Int) < (s.size : Int) := by omega
      have HE := Lib.hid (isName_good (l := bytesS s) HAT.out HLOW.out (by rw [bytesS_len]; omega) (fun j d hd => HALL.out j d (by have := (List.getElem?_eq_some_iff.1 hd).1; rw [bytesS_len] at this; omega) hd))
      go_wp2_with fail
      go_ret
      exact ⟨ret_bool HE.out.symm, rfl⟩
    have hks' : (k : Int) < (s.size : Int) := by omega
    have hatk := bytesS_at s k hks
    by_cases hin : inName s[k] = true
    case neg =>
      have HE := Lib.hid (isName_bad hatk (by simpa using hin))
      unfold inName at hin
      simp only [Bool.or_eq_true, not_or, Bool.not_eq_true, beq_iff_eq] at hin
      obtain ⟨⟨⟨g1, g2⟩, g3⟩, g4⟩ := hin
      have b4 : ((s[k].toNat : Int) != 95) = true := by rw [bne_iff_ne]; omega
      have b5 : ((s[k].toNat : Int) != 46) = true := by rw [bne_iff_ne]; omega
      clear hatk g3 g4
      go_wp2_with fail
      refine (isLetter_any s[k] _).mono ?_
      rintro e wx ⟨rfl, rfl⟩
      go_wp2_with fail
      refine (isDigit_any s[k] _).mono ?_
      rintro e wx ⟨rfl, rfl⟩
      go_wp2_with fail
      go_ret
      exact ⟨ret_bool HE.out.symm, rfl⟩
    have HF : Hid (∀ (j : Nat) (d : UInt8), j < k + 1 → (bytesS s)[j]? = some d → inName d = true) := Lib.hid (fun j d hj hd => by
      rcases Nat.lt_or_ge j k with h | h
      · exact HALL.out j d h hd
      · obtain rfl : j = k := by omega
        rw [hatk] at hd
        simp only [Option.some.injEq] at hd
        rw [← hd]; exact hin)
    clear hatk
    unfold inName at hin
    cases g1 : isLow s[k]
    · cases g2 : isDig s[k]
      · rw [g1, g2] at hin
        simp only [Bool.or_eq_true, Bool.false_eq_true, false_or, beq_iff_eq] at hin
        by_cases g3 : s[k].toNat = 95
        · have b4 : ((s[k].toNat : Int) != 95) = false := by rw [bne_eq_false_iff_eq]; omega
          clear hin g3
          go_wp2_with fail
          refine (isLetter_any s[k] _).mono ?_
          rintro e wx ⟨rfl, rfl⟩
          go_wp2_with fail
          refine (isDigit_any s[k] _).mono ?_
          rintro e wx ⟨rfl, rfl⟩
          go_wp2_with fail
          go_round
          case rel => exact ⟨k + 1, by go_num, by omega, HF.out⟩
          case measure => simp [intOf]; omega
        · have b4 : ((s[k].toNat : Int) != 95) = true := by rw [bne_iff_ne]; omega
          have b5 : ((s[k].toNat : Int) != 46) = false := by rw [bne_eq_false_iff_eq]; omega
          clear hin g3
          go_wp2_with fail
          refine (isLetter_any s[k] _).mono ?_
          rintro e wx ⟨rfl, rfl⟩
          go_wp2_with fail
          refine (isDigit_any s[k] _).mono ?_
          rintro e wx ⟨rfl, rfl⟩
          go_wp2_with fail
          go_round
          case rel => exact ⟨k + 1, by go_num, by omega, HF.out⟩
          case measure => simp [intOf]; omega
      · clear hin
        go_wp2_with fail
        refine (isLetter_any s[k] _).mono ?_
        rintro e wx ⟨rfl, rfl⟩
        go_wp2_with fail
        refine (isDigit_any s[k] _).mono ?_
        rintro e wx ⟨rfl, rfl⟩
        go_wp2_with fail
        go_round
        case rel => exact ⟨k + 1, by go_num, by omega, HF.out⟩
        case measure => simp [intOf]; omega
    · clear hin
      go_wp2_with fail
      refine (isLetter_any s[k] _).mono ?_
      rintro e wx ⟨rfl, rfl⟩
      go_wp2_with fail
      go_round
      case rel => exact ⟨k + 1, by go_num, by omega, HF.out⟩
      case measure => simp [intOf]; omega

/-- What parseName comes to. -/
def NameTo (w : World) (l : Str) (e : Ending) (w' : World) : Prop := ∃ (n : Str) (ok : Bool), e = .returned (.tuple #[.string (strS n), .bool ok]) ∧ n = (if isName l then l else []) ∧ ok = isName l ∧ Kept (fun _ => False) w w'
theorem parseName_any (s : ByteArray) (w : World) (hs : s.size ≤ 100000) : Calls Tryz.prog 68 #[.string s] w (NameTo w (bytesS s)) := by
  cases hn : isName (bytesS s)
  · have HR : Hid (NameTo w (bytesS s) (.returned (.tuple #[.string (strS []), .bool false])) w) := Lib.hid ⟨[], false, rfl, by rw [hn]; rfl, hn.symm, Kept.refl _ _⟩
    go_enter Tryz.func68, Tryz.ntmps68
    go_wp2_with fail
    refine (isName_any s w (by omega)).mono ?_
    rintro e1 w1 ⟨rfl, rfl⟩
    go_wp2_with fail
    go_ret2
    exact HR.out
  · go_enter Tryz.func68, Tryz.ntmps68
    go_wp2_with fail
    refine (isName_any s w (by omega)).mono ?_
    rintro e1 w1 ⟨rfl, rfl⟩
    go_wp2_with fail
    go_in
    go_wp2_with fail
    refine (clone_any s _ (by omega)).mono ?_
    rintro e1 w2 ⟨rfl, hk⟩
    have HR : Hid (NameTo w1 (bytesS s) (.returned (.tuple #[.string s, .bool true])) w2) := Lib.hid ⟨bytesS s, true, rfl, by rw [hn]; rfl, hn.symm, hk⟩
    clear hk
    go_wp2_with fail
    go_ret2
    exact HR.out

end Go.Proofs.YtlhnbihpefgcbaaGreatDoor
end
section
namespace Go.Proofs.YtlhnbihpefgcbaaGreatDoor
open Go.RowKit

theorem decI_len (v : Int) : (decI v).length ≤ 21 := by
  unfold decI
  split
  · rw [List.length_cons]; have := decF_len 20 (-v).toNat; unfold decN; omega
  · have := decF_len 20 v.toNat; unfold decN; omega
theorem printRegister_any (k : Nat) (hk : k < 100) (w : World) : Calls Tryz.prog 91 #[.int .i64 k] w fun e w' => e = .returned (.string (strS (regT (k : Int)))) ∧ w' = w := by
  have hadd : ∀ (w' : World), (Op.stringOp .add ({ data := #[114] } : ByteArray) (strS (decI (k : Int)))).run Tryz.prog w' = .ok (.string (strS (regT (k : Int)))) w' := fun w' => by
    have := run_string_add_sum (P := Tryz.prog) w' (strS [114]) (strS (decI (k : Int))) (by rw [strS_size, strS_size]; have := decI_len (k : Int); simp; omega)
    rw [strS_add] at this
    exact this
  go_enter Tryz.func91, Tryz.ntmps91
  go_wp2_with fail
  refine (itoa_any k hk w).mono ?_
  rintro e wx ⟨rfl, rfl⟩
  go_wp2_with fail
  go_ret
  exact ⟨rfl, rfl⟩

def RegisterTo (w : World) (l : Str) (e : Ending) (w' : World) : Prop := e = .returned (.tuple #[.int .i64 ((regL l).getD 0), .bool (regL l).isSome]) ∧ w' = w
set_option maxHeartbeats 1000000 in
theorem parseRegister_any (s : ByteArray) (w : World) : Calls Tryz.prog 78 #[.string s] w (RegisterTo w (bytesS s)) := by
  go_enter Tryz.func78, Tryz.ntmps78
  go_wp2_with fail
  go_loop [5] (fun i => ∃ k : Nat, i = .int .i64 k ∧ k ≤ 16 ∧ (∀ j : Nat, j < k → bytesS s ≠ regT (j : Int))) (fun i => 16 - (intOf i).toNat)
  case atStart => exact ⟨0, rfl, by omega, (fun j h => by omega)⟩
  case round =>
    obtain ⟨k, rfl, hk, hall⟩ := hrel
    have HALL := Lib.hid hall
    clear hall
    by_cases hks : k < 16
    · have hks' : (k : Int) < 16 := by omega
      go_wp2_with fail
      refine (printRegister_any k (by omega) _).mono ?_
      rintro e wx ⟨rfl, rfl⟩
      have heq := str_eq s (regT (k : Int))
      by_cases he : bytesS s = regT (k : Int)
      · rw [decide_eq_true he] at heq
        have HR : Hid (RegisterTo wx (bytesS s) (.returned (.tuple #[.int .i64 (k : Int), .bool true])) wx) := Lib.hid ⟨by rw [he, regT_reg (by omega) (by omega)]; rfl, rfl⟩
        clear he
        go_wp2_with fail
        go_ret2
        exact HR.out
      · rw [decide_eq_false he] at heq
        have HF : Hid (∀ j : Nat, j < k + 1 → bytesS s ≠ regT (j : Int)) := Lib.hid (fun j hj => by
          rcases Nat.lt_or_ge j k with h | h
          · exact HALL.out j h
          · obtain rfl : j = k := by omega
            exact he)
        clear he
        go_wp2_with fail
        go_round
        case rel => exact ⟨k + 1, by go_num, by omega, HF.out⟩
        case measure => simp [intOf]; omega
    · obtain rfl : k = 16 := by omega
      have HR : Hid (RegisterTo w (bytesS s) (.returned (.tuple #[.int .i64 0, .bool false])) w) := Lib.hid ⟨by rw [regL_none HALL.out]; rfl, rfl⟩
      go_wp2_with fail
      go_ret2
      exact HR.out

def NumberTo (w : World) (l : Str) (e : Ending) (w' : World) : Prop := e = .returned (.tuple #[.int .i64 ((numL l).getD 0), .bool (numL l).isSome]) ∧ Kept (fun _ => False) w w'
theorem unsign_len (l : Str) : (unsign l).length ≤ l.length := by
  match l with
  | [] => exact Nat.le_refl _
  | c :: r => rw [unsign_cons]; split <;> simp
set_option maxHeartbeats 1000000 in
theorem parseNumber_any (s : ByteArray) (w : World) (hL : Laid w) (hs : s.size ≤ 100000) : Calls Tryz.prog 79 #[.string s] w (NumberTo w (bytesS s)) := by
  have HU := Lib.hid (unsign_any s w)
  obtain ⟨t, ht⟩ : ∃ t, strS (unsign (bytesS s)) = t := ⟨_, rfl⟩
  have htb : bytesS t = unsign (bytesS s) := by rw [← ht]; rfl
  have hts : t.size ≤ 100000 := by have := unsign_len (bytesS s); rw [← htb, bytesS_len, bytesS_len] at this; omega
  rw [ht] at HU
  clear ht
  by_cases h18 : 18 < t.size
  · have HR : Hid (NumberTo w (bytesS s) (.returned (.tuple #[.int .i64 0, .bool false])) w) := Lib.hid ⟨by rw [num_bad (.inl (by rw [← htb, bytesS_len]; exact h18))]; rfl, Kept.refl _ _⟩
    have h1 : (18 : Int) < (t.size : Int) := by omega
    clear h18 htb
    go_enter Tryz.func79, Tryz.ntmps79
    go_wp2_with fail
    refine (HU.out).mono ?_
    rintro e wx ⟨rfl, rfl⟩
    go_wp2_with fail
    go_ret2
    exact HR.out
  have h1 : ¬ (18 : Int) < (t.size : Int) := by omega
  have HTB := Lib.hid htb
  have HL := Lib.hid hL
  clear htb hL
  go_enter Tryz.func79, Tryz.ntmps79
  go_wp2_with fail
  refine (HU.out).mono ?_
  rintro e wx ⟨rfl, rfl⟩
  go_wp2_with fail
  clear h1
  go_loop [15] (fun i => ∃ k : Nat, i = .int .i64 k ∧ k ≤ t.size ∧ ∀ (j : Nat) (d : UInt8), j < k → (bytesS t)[j]? = some d → isDig d = true) (fun i => t.size - (intOf i).toNat)
  case atStart => exact ⟨0, rfl, by omega, fun j d h => by omega⟩
  case round =>
    obtain ⟨k, rfl, hk, hall⟩ := hrel
    have HALL := Lib.hid hall
    clear hall
    by_cases hks : k < t.size
    case pos =>
      have hks' : (k : Int) < (t.size : Int) := by omega
      have hatk := bytesS_at t k hks
      by_cases hd : isDig t[k] = true
      · have HF : Hid (∀ (j : Nat) (d : UInt8), j < k + 1 → (bytesS t)[j]? = some d → isDig d = true) := Lib.hid (fun j d hj hjd => by
          rcases Nat.lt_or_ge j k with h | h
          · exact HALL.out j d h hjd
          · obtain rfl : j = k := by omega
            rw [hatk] at hjd
            simp only [Option.some.injEq] at hjd
            rw [← hjd]; exact hd)
        clear hatk
        go_wp2_with fail
        refine (isDigit_any t[k] _).mono ?_
        rintro e wx ⟨rfl, rfl⟩
        go_wp2_with fail
        go_round
        case rel => exact ⟨k + 1, by go_num, by omega, HF.out⟩
        case measure => simp [intOf]; omega
      · have hd' : isDig t[k] = false := by simpa using hd
        have hall : (unsign (bytesS s)).all isDig = false := by
          rw [← HTB.out, List.all_eq_false]
          exact ⟨t[k], List.mem_of_getElem? hatk, by rw [hd']; simp⟩
        have HR : ∀ wr, Hid (NumberTo wr (bytesS s) (.returned (.tuple #[.int .i64 0, .bool false])) wr) := fun wr => Lib.hid ⟨by rw [num_bad (.inr hall)]; rfl, Kept.refl _ _⟩
        clear hall hatk hd
        go_wp2_with fail
        refine (isDigit_any t[k] _).mono ?_
        rintro e wx ⟨rfl, rfl⟩
        go_wp2_with fail
        go_ret2
        exact (HR _).out
    case neg =>
      obtain rfl : k = t.size := by omega
      have hks' : ¬ (t.size : Int) < (t.size : Int) := by omega
      have hdig : (unsign (bytesS s)).all isDig = true := by
        rw [← HTB.out, List.all_eq_true]
        intro d hd
        obtain ⟨j, hj⟩ := List.getElem?_of_mem hd
        exact HALL.out j d (by have := (List.getElem?_eq_some_iff.1 hj).1; rw [bytesS_len] at this; exact this) hj
      by_cases h0 : unsign (bytesS s) = []
      · obtain ⟨p1, p2⟩ := int_none h0
        have HP := Lib.hid (int_no s wx HL.out hs p1)
        have HN := Lib.hid p2
        clear p1 p2 h0 hdig
        go_wp2_with fail
        refine HP.out.mono ?_
        rintro e w1 ⟨ty, p, rfl, hk1⟩
        have HR : Hid (∀ n, NumberTo wx (bytesS s) (.returned (.tuple #[.int .i64 0, .bool false])) (w1.drewN n)) := Lib.hid (fun n => ⟨by rw [HN.out]; rfl, hk1.drewN n⟩)
        clear hk1
        go_wp2_with fail
        go_quiet (fail)
        go_wp2_with fail
        go_ret2
        exact HR.out _
      · obtain ⟨v, p1, p2⟩ := int_some hdig h0 (by rw [← HTB.out, bytesS_len]; omega)
        have HP := Lib.hid (int_yes s wx hs p1)
        have HN := Lib.hid p2
        clear p1 p2 h0 hdig
        go_wp2_with fail
        refine HP.out.mono ?_
        rintro e w1 ⟨rfl, hk1⟩
        have HR : Hid (∀ n, NumberTo wx (bytesS s) (.returned (.tuple #[.int .i64 v, .bool true])) (w1.drewN n)) := Lib.hid (fun n => ⟨by rw [HN.out]; rfl, hk1.drewN n⟩)
        clear hk1
        go_wp2_with fail
        go_quiet (fail)
        go_wp2_with fail
        go_ret2
        exact HR.out _

end Go.Proofs.YtlhnbihpefgcbaaGreatDoor
end
