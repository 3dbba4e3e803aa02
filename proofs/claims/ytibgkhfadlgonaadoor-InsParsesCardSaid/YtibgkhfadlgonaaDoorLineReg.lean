/-
  What the document's register of layer 7 comes to.
  Conditions: none on the strings but that they are strings.
-/
import Derived.Test.YtibgkhfadlgonaaDoorLineDig
namespace Go.Proofs.YtibgkhfadlgonaaDoor
open Go.RowKit


/-- What the register's number is, or -1. -/
def RegTo (w : World) (l : Str) (e : Ending) (w' : World) : Prop := e = .returned (.int .i64 ((regL l).getD (-1))) ∧ Kept (fun _ => False) w w'

set_option maxHeartbeats 1000000 in
theorem refReg_any (s : ByteArray) (w : World) : Calls Tryd.prog 18 #[.string s] w (RegTo w (bytesS s)) := by
  go_enter Tryd.func18, Tryd.ntmps18
  go_wp2_with fail
  go_loopw [3] (fun i wr => ∃ k : Nat, i = .int .i64 k ∧ k ≤ 16 ∧ (∀ j : Nat, j < k → bytesS s ≠ regT (j : Int)) ∧ Kept (fun _ => False) w wr) (fun i _ => 16 - (intOf i).toNat)
  case atStart => exact ⟨0, rfl, by omega, (fun j h => by omega), Kept.refl _ _⟩
  case round =>
    obtain ⟨k, rfl, hk, hall, hkept⟩ := hrel
    have HALL := Lib.hid hall
    have HK := Lib.hid hkept
    clear hall hkept
    by_cases hks : k < 16
    · have hsm : small (k : Int) = true := by unfold small; simp; omega
      have hlen : (decI (k : Int)).length ≤ 20 := by
        unfold decI
        rw [if_neg (by omega)]
        exact decF_len 20 _
      have hadd : ∀ (w' : World), (Op.stringOp .add ({ data := #[114] } : ByteArray) (strS (decI (k : Int)))).run Tryd.prog w' = .ok (.string (strS (regT (k : Int)))) w' := fun w' => by
        have := run_string_add_sum (P := Tryd.prog) w' (strS [114]) (strS (decI (k : Int))) (by rw [strS_size, strS_size]; simp; omega)
        rw [strS_add] at this
        exact this
      have HD := Lib.hid (refDigits_any (k : Int) hsm wr)
      clear hsm hlen
      go_wp2_with fail
      refine (HD.out).mono ?_
      rintro e w1 ⟨rfl, hk1⟩
      have HK1 := Lib.hid (HK.out.trans hk1 (fun _ _ f => f))
      have heq := str_eq s (regT (k : Int))
      clear hk1
      by_cases he : bytesS s = regT (k : Int)
      · rw [decide_eq_true he] at heq
        have HR : Hid (RegTo w (bytesS s) (.returned (.int .i64 (k : Int))) w1) := Lib.hid ⟨by rw [he, regT_reg (by omega) (by omega)]; rfl, HK1.out⟩
        clear he
        go_wp2_with fail
        go_ret
        exact HR.out
      · rw [decide_eq_false he] at heq
        have HF : Hid (∀ j : Nat, j < k + 1 → bytesS s ≠ regT (j : Int)) := Lib.hid (fun j hj => by
          rcases Nat.lt_or_ge j k with h | h
          · exact HALL.out j h
          · obtain rfl : j = k := by omega
            exact he)
        clear he
        go_wp2_with fail
        go_roundw
        case rel => exact ⟨k + 1, by go_num, by omega, HF.out, HK1.out⟩
        case measure => simp [intOf]; omega
    · obtain rfl : k = 16 := by omega
      have HR : Hid (RegTo w (bytesS s) (.returned (.int .i64 (-1))) wr) := Lib.hid ⟨by rw [regL_none HALL.out]; rfl, HK.out⟩
      go_wp2_with fail
      go_ret
      exact HR.out


end Go.Proofs.YtibgkhfadlgonaaDoor
