/-
  What package pack's writers of numbers and of flags come to.
  Conditions: a number has 64 bits; the bytes so far are the call's own.
-/
import Derived.Test.YtkicpbnphbcdaaaWire
import Derived.Test.YtkicpbnphbcdaaaBytes
namespace Go.Proofs.Ytkicpbnphbcdaaa
open Go.RowKit

theorem fold_any (n : Int) (hn : InR n) (w : World) (r : Int) (hr : (foldN n : Int) = r) : Calls Try.prog 57 #[.int .i64 n] w fun e w' => e = .returned (.int .u64 r) ∧ w = w' := by
  obtain ⟨h1, h2⟩ := hn
  by_cases h : n < 0
  · have e : r = 2 * (-(n + 1)) + 1 := by rw [← hr]; unfold foldN; rw [if_pos h]; omega
    subst e
    clear hr
    go_enter Try.func57, Try.ntmps57
    go_wp2_with fail
    go_ret
    exact ⟨rfl, rfl⟩
  · have e : r = 2 * n := by rw [← hr]; unfold foldN; rw [if_neg h]; omega
    subst e
    clear hr
    go_enter Try.func57, Try.ntmps57
    go_wp2_with fail
    go_ret
    exact ⟨rfl, rfl⟩

/-- What a writer leaves: a value that owns these bytes. -/
def PutTo (base : Nat) (w : World) (v : Value) (bs : List Nat) (e : Ending) (w' : World) : Prop := ∃ v', e = .returned v' ∧ Put base w v w' v' bs

set_option maxHeartbeats 400000 in
theorem putNumber_any {base : Nat} {w : World} {v : Value} {bs : List Nat} (n : Int) (hn : InR n) (h : Own base w v bs) (hlen : bs.length + 10 ≤ 1099511627776) (hbase : base ≤ w.heap.size) :
    Calls Try.prog 42 #[v, .int .i64 n] w (PutTo base w v (bs ++ numB n)) := by
  have hlt := fold_lt hn
  have HN := Lib.hid hn
  have HL := Lib.hid (numB_len hn)
  have H := Lib.hid h
  have hu : ∃ m, m = foldN n := ⟨_, rfl⟩
  obtain ⟨u0, hu0⟩ := hu
  rw [← hu0] at hlt
  have HU := Lib.hid hu0
  clear hn h hu0
  go_enter Try.func42, Try.ntmps42
  go_wp2_with fail
  refine (fold_any n HN.out _ (u0 : Int) (by rw [HU.out])).mono ?_
  rintro e wx ⟨rfl, rfl⟩
  go_wp2_with fail
  go_loopw [0, 5] (fun b u wr => ∃ (m : Nat) (pre : List Nat), u = .int .u64 m ∧ m < 18446744073709551616 ∧ pre ++ dig m = numB n ∧ Put base w v wr b (bs ++ pre)) (fun _ u _ => (intOf u).toNat)
  case atStart => exact ⟨u0, [], rfl, hlt, by rw [HU.out]; rfl, by rw [List.append_nil]; exact Put.refl H.out⟩
  case round =>
    obtain ⟨m, pre, rfl, hm, hd, hp⟩ := hrel
    have hpl : pre.length + 1 ≤ 10 := by have h1 := HL.out; rw [← hd, List.length_append] at h1; have := dig_pos m; omega
    have HD := Lib.hid hd
    have HP := Lib.hid hp
    have HPL := Lib.hid hpl
    clear hd hp hpl
    by_cases hs : m < 128
    · have hs1 : ¬ ((128 : Int) ≤ (m : Int)) := by omega
      have e1 : (m : Int) % 256 = (m : Int) := by omega
      go_wp2_with (at_builtin; refine wpList_push _ rfl (.tmp 19) (.tmp 22) rfl base _ (bs ++ pre) _ m rfl rfl ?c1 HP.out.own ?c2 ?c3 ?_)
      case c1 => first | exact e1 | omega | rfl
      case c2 => have := HPL.out; (try simp only [List.length_append]); omega
      case c3 => exact Nat.le_trans hbase HP.out.kept.size
      intro v' w2 hp2
      have hfin : PutTo base w v (bs ++ numB n) (.returned v') w2 := ⟨v', rfl, by
        have h := HP.out.trans hp2
        try simp only [List.append_assoc] at h
        rwa [← dig_small hs, HD.out] at h⟩
      have HF := Lib.hid hfin
      clear hfin hp2
      go_wp2_with fail
      go_ret
      exact HF.out
    · have hs1 : (128 : Int) ≤ (m : Int) := by omega
      have e1 : (m : Int) % 128 % 256 = (m : Int) % 128 := by omega
      go_wp2_with (at_builtin; refine wpList_push _ rfl (.tmp 10) (.tmp 15) rfl base _ (bs ++ pre) _ (m % 128 + 128) rfl rfl ?d1 HP.out.own ?d2 ?d3 ?_)
      case d1 => first | rfl | omega | (simp; omega)
      case d2 => have := HPL.out; (try simp only [List.length_append]); omega
      case d3 => exact Nat.le_trans hbase HP.out.kept.size
      intro v' w2 hp2
      have hfin : ∃ (m' : Nat) (pre' : List Nat), Value.int .u64 ((m : Int) / 128) = .int .u64 m' ∧ m' < 18446744073709551616 ∧ pre' ++ dig m' = numB n ∧ Put base w v w2 v' (bs ++ pre') :=
        ⟨m / 128, pre ++ [m % 128 + 128], by rw [Int.natCast_ediv]; rfl, by omega, by rw [List.append_assoc, List.singleton_append, ← dig_big (by omega)]; exact HD.out, by
          have h := HP.out.trans hp2
          try simp only [List.append_assoc] at h
          exact h⟩
      have HF := Lib.hid hfin
      clear hfin hp2
      go_wp2_with fail
      go_roundw
      case rel => exact HF.out
      case measure => simp [intOf]; omega

theorem putFlag_any {base : Nat} {w : World} {v : Value} {bs : List Nat} (b : Bool) (h : Own base w v bs) (hlen : bs.length + 10 ≤ 1099511627776) (hbase : base ≤ w.heap.size) :
    Calls Try.prog 43 #[v, .bool b] w (PutTo base w v (bs ++ numB (truthN b))) := by
  have H0 := Lib.hid (putNumber_any 0 (truth_in false) h hlen hbase)
  have H1 := Lib.hid (putNumber_any 1 (truth_in true) h hlen hbase)
  cases b
  · go_enter Try.func43, Try.ntmps43
    go_wp2_with fail
    refine (H0.out).mono ?_
    rintro e w2 ⟨v', rfl, hp⟩
    have HF : Hid (PutTo base w v (bs ++ numB (truthN false)) (.returned v') w2) := Lib.hid ⟨v', rfl, hp⟩
    clear hp
    go_wp2_with fail
    go_ret
    exact HF.out
  · go_enter Try.func43, Try.ntmps43
    go_wp2_with fail
    refine (H1.out).mono ?_
    rintro e w2 ⟨v', rfl, hp⟩
    have HF : Hid (PutTo base w v (bs ++ numB (truthN true)) (.returned v') w2) := Lib.hid ⟨v', rfl, hp⟩
    clear hp
    go_wp2_with fail
    go_ret
    exact HF.out

end Go.Proofs.Ytkicpbnphbcdaaa
