/-
  What the program's printRegister, parseRegister and parseNumber come to.
  Conditions: the table lies as the program's text lays it; strings of at most 100000 bytes.
-/
import Derived.Test.YtibgkhfadlgonaaGreatDoorInsName
import Derived.Deep.QuietTactic
import Derived.BigQuiet
namespace Go.Proofs.YtibgkhfadlgonaaGreatDoor
open Go.RowKit

theorem decI_len (v : Int) : (decI v).length ≤ 21 := by
  unfold decI
  split
  · rw [List.length_cons]; have := decF_len 20 (-v).toNat; unfold decN; omega
  · have := decF_len 20 v.toNat; unfold decN; omega
theorem printRegister_any (k : Nat) (hk : k < 100) (w : World) : Calls Tryz.prog 49 #[.int .i64 k] w fun e w' => e = .returned (.string (strS (regT (k : Int)))) ∧ w' = w := by
  have hadd : ∀ (w' : World), (Op.stringOp .add ({ data := #[114] } : ByteArray) (strS (decI (k : Int)))).run Tryz.prog w' = .ok (.string (strS (regT (k : Int)))) w' := fun w' => by
    have := run_string_add_sum (P := Tryz.prog) w' (strS [114]) (strS (decI (k : Int))) (by rw [strS_size, strS_size]; have := decI_len (k : Int); simp; omega)
    rw [strS_add] at this
    exact this
  go_enter Tryz.func49, Tryz.ntmps49
  go_wp2_with fail
  refine (itoa_any k hk w).mono ?_
  rintro e wx ⟨rfl, rfl⟩
  go_wp2_with fail
  go_ret
  exact ⟨rfl, rfl⟩

def RegisterTo (w : World) (l : Str) (e : Ending) (w' : World) : Prop := e = .returned (.tuple #[.int .i64 ((regL l).getD 0), .bool (regL l).isSome]) ∧ w' = w
set_option maxHeartbeats 1000000 in
theorem parseRegister_any (s : ByteArray) (w : World) : Calls Tryz.prog 60 #[.string s] w (RegisterTo w (bytesS s)) := by
  go_enter Tryz.func60, Tryz.ntmps60
  go_wp2_with fail
  go_loop [5] (fun i => ∃ k : Nat, i = .int .i64 k ∧ k ≤ 16 ∧ (∀ j : Nat, j < k → bytesS s ≠ regT (j : Int))) (fun i => 16 - (intOf i).toNat)
  case atStart => exact ⟨0, rfl, by omega, (fun j h => by omega)⟩
  case round =>
    obtain ⟨k, rfl, hk, hall⟩ := hrel
    have HALL := Lib.hid hall
    clear hall
    by_cases hks : k < 16
    · have hks' : (k : Int) < 16 := by omega
      go_wp2_with fail
      refine (printRegister_any k (by omega) _).mono ?_
      rintro e wx ⟨rfl, rfl⟩
      have heq := str_eq s (regT (k : Int))
      by_cases he : bytesS s = regT (k : Int)
      · rw [decide_eq_true he] at heq
        have HR : Hid (RegisterTo wx (bytesS s) (.returned (.tuple #[.int .i64 (k : Int), .bool true])) wx) := Lib.hid ⟨by rw [he, regT_reg (by omega) (by omega)]; rfl, rfl⟩
        clear he
        go_wp2_with fail
        go_ret2
        exact HR.out
      · rw [decide_eq_false he] at heq
        have HF : Hid (∀ j : Nat, j < k + 1 → bytesS s ≠ regT (j : Int)) := Lib.hid (fun j hj => by
          rcases Nat.lt_or_ge j k with h | h
          · exact HALL.out j h
          · obtain rfl : j = k := by omega
            exact he)
        clear he
        go_wp2_with fail
        go_round
        case rel => exact ⟨k + 1, by go_num, by omega, HF.out⟩
        case measure => simp [intOf]; omega
    · obtain rfl : k = 16 := by omega
      have HR : Hid (RegisterTo w (bytesS s) (.returned (.tuple #[.int .i64 0, .bool false])) w) := Lib.hid ⟨by rw [regL_none HALL.out]; rfl, rfl⟩
      go_wp2_with fail
      go_ret2
      exact HR.out

def NumberTo (w : World) (l : Str) (e : Ending) (w' : World) : Prop := e = .returned (.tuple #[.int .i64 ((numL l).getD 0), .bool (numL l).isSome]) ∧ Kept (fun _ => False) w w'
theorem unsign_len (l : Str) : (unsign l).length ≤ l.length := by
  match l with
  | [] => exact Nat.le_refl _
  | c :: r => rw [unsign_cons]; split <;> simp
set_option maxHeartbeats 1000000 in
theorem parseNumber_any (s : ByteArray) (w : World) (hL : Laid w) (hs : s.size ≤ 100000) : Calls Tryz.prog 61 #[.string s] w (NumberTo w (bytesS s)) := by
  have HU := Lib.hid (unsign_any s w)
  obtain ⟨t, ht⟩ : ∃ t, strS (unsign (bytesS s)) = t := ⟨_, rfl⟩
  have htb : bytesS t = unsign (bytesS s) := by rw [← ht]; rfl
  have hts : t.size ≤ 100000 := by have := unsign_len (bytesS s); rw [← htb, bytesS_len, bytesS_len] at this; omega
  rw [ht] at HU
  clear ht
  by_cases h18 : 18 < t.size
  · have HR : Hid (NumberTo w (bytesS s) (.returned (.tuple #[.int .i64 0, .bool false])) w) := Lib.hid ⟨by rw [num_bad (.inl (by rw [← htb, bytesS_len]; exact h18))]; rfl, Kept.refl _ _⟩
    have h1 : (18 : Int) < (t.size : Int) := by omega
    clear h18 htb
    go_enter Tryz.func61, Tryz.ntmps61
    go_wp2_with fail
    refine (HU.out).mono ?_
    rintro e wx ⟨rfl, rfl⟩
    go_wp2_with fail
    go_ret2
    exact HR.out
  have h1 : ¬ (18 : Int) < (t.size : Int) := by omega
  have HTB := Lib.hid htb
  have HL := Lib.hid hL
  clear htb hL
  go_enter Tryz.func61, Tryz.ntmps61
  go_wp2_with fail
  refine (HU.out).mono ?_
  rintro e wx ⟨rfl, rfl⟩
  go_wp2_with fail
  clear h1
  go_loop [15] (fun i => ∃ k : Nat, i = .int .i64 k ∧ k ≤ t.size ∧ ∀ (j : Nat) (d : UInt8), j < k → (bytesS t)[j]? = some d → isDig d = true) (fun i => t.size - (intOf i).toNat)
  case atStart => exact ⟨0, rfl, by omega, fun j d h => by omega⟩
  case round =>
    obtain ⟨k, rfl, hk, hall⟩ := hrel
    have HALL := Lib.hid hall
    clear hall
    by_cases hks : k < t.size
    case pos =>
      have hks' : (k : Int) < (t.size : Int) := by omega
      have hatk := bytesS_at t k hks
      by_cases hd : isDig t[k] = true
      · have HF : Hid (∀ (j : Nat) (d : UInt8), j < k + 1 → (bytesS t)[j]? = some d → isDig d = true) := Lib.hid (fun j d hj hjd => by
          rcases Nat.lt_or_ge j k with h | h
          · exact HALL.out j d h hjd
          · obtain rfl : j = k := by omega
            rw [hatk] at hjd
            simp only [Option.some.injEq] at hjd
            rw [← hjd]; exact hd)
        clear hatk
        go_wp2_with fail
        refine (isDigit_any t[k] _).mono ?_
        rintro e wx ⟨rfl, rfl⟩
        go_wp2_with fail
        go_round
        case rel => exact ⟨k + 1, by go_num, by omega, HF.out⟩
        case measure => simp [intOf]; omega
      · have hd' : isDig t[k] = false := by simpa using hd
        have hall : (unsign (bytesS s)).all isDig = false := by
          rw [← HTB.out, List.all_eq_false]
          exact ⟨t[k], List.mem_of_getElem? hatk, by rw [hd']; simp⟩
        have HR : ∀ wr, Hid (NumberTo wr (bytesS s) (.returned (.tuple #[.int .i64 0, .bool false])) wr) := fun wr => Lib.hid ⟨by rw [num_bad (.inr hall)]; rfl, Kept.refl _ _⟩
        clear hall hatk hd
        go_wp2_with fail
        refine (isDigit_any t[k] _).mono ?_
        rintro e wx ⟨rfl, rfl⟩
        go_wp2_with fail
        go_ret2
        exact (HR _).out
    case neg =>
      obtain rfl : k = t.size := by omega
      have hks' : ¬ (t.size : Int) < (t.size : Int) := by omega
      have hdig : (unsign (bytesS s)).all isDig = true := by
        rw [← HTB.out, List.all_eq_true]
        intro d hd
        obtain ⟨j, hj⟩ := List.getElem?_of_mem hd
        exact HALL.out j d (by have := (List.getElem?_eq_some_iff.1 hj).1; rw [bytesS_len] at this; exact this) hj
      by_cases h0 : unsign (bytesS s) = []
      · obtain ⟨p1, p2⟩ := int_none h0
        have HP := Lib.hid (int_no s wx HL.out hs p1)
        have HN := Lib.hid p2
        clear p1 p2 h0 hdig
        go_wp2_with fail
        refine HP.out.mono ?_
        rintro e w1 ⟨ty, p, rfl, hk1⟩
        have HR : Hid (∀ n, NumberTo wx (bytesS s) (.returned (.tuple #[.int .i64 0, .bool false])) (w1.drewN n)) := Lib.hid (fun n => ⟨by rw [HN.out]; rfl, hk1.drewN n⟩)
        clear hk1
        go_wp2_with fail
        go_quiet (fail)
        go_wp2_with fail
        go_ret2
        exact HR.out _
      · obtain ⟨v, p1, p2⟩ := int_some hdig h0 (by rw [← HTB.out, bytesS_len]; omega)
        have HP := Lib.hid (int_yes s wx hs p1)
        have HN := Lib.hid p2
        clear p1 p2 h0 hdig
        go_wp2_with fail
        refine HP.out.mono ?_
        rintro e w1 ⟨rfl, hk1⟩
        have HR : Hid (∀ n, NumberTo wx (bytesS s) (.returned (.tuple #[.int .i64 v, .bool true])) (w1.drewN n)) := Lib.hid (fun n => ⟨by rw [HN.out]; rfl, hk1.drewN n⟩)
        clear hk1
        go_wp2_with fail
        go_quiet (fail)
        go_wp2_with fail
        go_ret2
        exact HR.out _

end Go.Proofs.YtibgkhfadlgonaaGreatDoor
