/-
  What the document's answer of layer 6 comes to: a number's bytes, a bool's number.
  Conditions: a number has 64 bits.
-/
import Derived.Test.YtkicpbnphbcdaaaPuts
namespace Go.Proofs.Ytkicpbnphbcdaaa
open Go.RowKit

/-- New memory that holds these bytes. -/
def BytesTo (w : World) (bs : List Nat) (e : Ending) (w' : World) : Prop := ∃ v, e = .returned v ∧ Own w.heap.size w' v bs ∧ Kept (fun _ => False) w w'

theorem truth_any (b : Bool) (w : World) : Calls Try.prog 48 #[.bool b] w fun e w' => e = .returned (.int .i64 (truthN b)) ∧ w = w' := by
  cases b
  · go_enter Try.func48, Try.ntmps48
    go_wp2_with fail
    go_ret
    exact ⟨rfl, rfl⟩
  · go_enter Try.func48, Try.ntmps48
    go_wp2_with fail
    go_ret
    exact ⟨rfl, rfl⟩

set_option maxHeartbeats 1000000 in
theorem refNumber_any (n : Int) (hn : InR n) (w : World) : Calls Try.prog 29 #[.int .i64 n] w (BytesTo w (numB n)) := by
  have hlt := fold_lt hn
  have HN := Lib.hid hn
  have HL := Lib.hid (numB_len hn)
  obtain ⟨h1, h2⟩ := hn
  by_cases hneg : n < 0
  · obtain ⟨u0, hu0⟩ : ∃ u0, foldN n = u0 := ⟨_, rfl⟩
    have hu : (-(n + 1)) * 2 + 1 = (u0 : Int) := by rw [← hu0]; unfold foldN; rw [if_pos hneg]; omega
    have HU := Lib.hid hu0
    have HUU := Lib.hid hu
    rw [hu0] at hlt
    clear hu0 hu
    go_enter Try.func29, Try.ntmps29
    go_wp2_with fail
    rw [HUU.out]
    go_loopw [3, 4] (fun u b wr => ∃ (m : Nat) (pre : List Nat), u = .int .u64 m ∧ m < 18446744073709551616 ∧ pre ++ dig m = numB n ∧ Put w.heap.size w (.slice none 0 0) wr b pre) (fun u _ _ => (intOf u).toNat)
    case atStart => exact ⟨u0, [], rfl, hlt, by unfold numB; rw [HU.out]; rfl, Put.refl (own_nil _ _)⟩
    case round =>
      obtain ⟨m, pre, rfl, hm, hd, hp⟩ := hrel
      have hpl : pre.length + 1 ≤ 10 := by have h1 := HL.out; rw [← hd, List.length_append] at h1; have := dig_pos m; omega
      have HD := Lib.hid hd
      have HP := Lib.hid hp
      have HPL := Lib.hid hpl
      clear hd hp hpl
      by_cases hs : m < 128
      · have hs1 : ¬ ((127 : Int) < (m : Int)) := by omega
        have e1 : (m : Int) % 256 = (m : Int) := by omega
        go_wp2_with (at_builtin; refine wpList_push _ rfl (.tmp 27) (.tmp 30) rfl w.heap.size _ pre _ m rfl rfl ?c1 HP.out.own ?c2 ?c3 ?_)
        case c1 => first | exact e1 | omega | rfl
        case c2 => have := HPL.out; omega
        case c3 => exact HP.out.kept.size
        intro v' w2 hp2
        have hfin : BytesTo w (numB n) (.returned v') w2 := ⟨v', rfl, by
          have h := (HP.out.trans hp2).own
          rwa [← dig_small hs, HD.out] at h, (HP.out.trans hp2).kept.mono (fun i _ e => by simp [Value.ownBlock] at e)⟩
        have HF := Lib.hid hfin
        clear hfin hp2
        go_wp2_with fail
        go_ret
        exact HF.out
      · have hs1 : (127 : Int) < (m : Int) := by omega
        go_wp2_with (at_builtin; refine wpList_push _ rfl (.tmp 18) (.tmp 23) rfl w.heap.size _ pre _ (m % 128 + 128) rfl rfl ?d1 HP.out.own ?d2 ?d3 ?_)
        case d1 => first | rfl | omega | (simp; omega)
        case d2 => have := HPL.out; omega
        case d3 => exact HP.out.kept.size
        intro v' w2 hp2
        have hfin : ∃ (m' : Nat) (pre' : List Nat), Value.int .u64 ((m : Int) / 128) = .int .u64 m' ∧ m' < 18446744073709551616 ∧ pre' ++ dig m' = numB n ∧ Put w.heap.size w (.slice none 0 0) w2 v' pre' :=
          ⟨m / 128, pre ++ [m % 128 + 128], by rw [Int.natCast_ediv]; rfl, by omega, by rw [List.append_assoc, List.singleton_append, ← dig_big (by omega)]; exact HD.out, HP.out.trans hp2⟩
        have HF := Lib.hid hfin
        clear hfin hp2
        go_wp2_with fail
        go_roundw
        case rel => exact HF.out
        case measure => simp [intOf]; omega
  · obtain ⟨u0, hu0⟩ : ∃ u0, foldN n = u0 := ⟨_, rfl⟩
    have hu : n * 2 = (u0 : Int) := by rw [← hu0]; unfold foldN; rw [if_neg hneg]; omega
    have HU := Lib.hid hu0
    have HUU := Lib.hid hu
    rw [hu0] at hlt
    clear hu0 hu
    go_enter Try.func29, Try.ntmps29
    go_wp2_with fail
    rw [HUU.out]
    go_loopw [3, 4] (fun u b wr => ∃ (m : Nat) (pre : List Nat), u = .int .u64 m ∧ m < 18446744073709551616 ∧ pre ++ dig m = numB n ∧ Put w.heap.size w (.slice none 0 0) wr b pre) (fun u _ _ => (intOf u).toNat)
    case atStart => exact ⟨u0, [], rfl, hlt, by unfold numB; rw [HU.out]; rfl, Put.refl (own_nil _ _)⟩
    case round =>
      obtain ⟨m, pre, rfl, hm, hd, hp⟩ := hrel
      have hpl : pre.length + 1 ≤ 10 := by have h1 := HL.out; rw [← hd, List.length_append] at h1; have := dig_pos m; omega
      have HD := Lib.hid hd
      have HP := Lib.hid hp
      have HPL := Lib.hid hpl
      clear hd hp hpl
      by_cases hs : m < 128
      · have hs1 : ¬ ((127 : Int) < (m : Int)) := by omega
        have e1 : (m : Int) % 256 = (m : Int) := by omega
        go_wp2_with (at_builtin; refine wpList_push _ rfl (.tmp 27) (.tmp 30) rfl w.heap.size _ pre _ m rfl rfl ?k1 HP.out.own ?k2 ?k3 ?_)
        case k1 => first | exact e1 | omega | rfl
        case k2 => have := HPL.out; omega
        case k3 => exact HP.out.kept.size
        intro v' w2 hp2
        have hfin : BytesTo w (numB n) (.returned v') w2 := ⟨v', rfl, by
          have h := (HP.out.trans hp2).own
          rwa [← dig_small hs, HD.out] at h, (HP.out.trans hp2).kept.mono (fun i _ e => by simp [Value.ownBlock] at e)⟩
        have HF := Lib.hid hfin
        clear hfin hp2
        go_wp2_with fail
        go_ret
        exact HF.out
      · have hs1 : (127 : Int) < (m : Int) := by omega
        go_wp2_with (at_builtin; refine wpList_push _ rfl (.tmp 18) (.tmp 23) rfl w.heap.size _ pre _ (m % 128 + 128) rfl rfl ?l1 HP.out.own ?l2 ?l3 ?_)
        case l1 => first | rfl | omega | (simp; omega)
        case l2 => have := HPL.out; omega
        case l3 => exact HP.out.kept.size
        intro v' w2 hp2
        have hfin : ∃ (m' : Nat) (pre' : List Nat), Value.int .u64 ((m : Int) / 128) = .int .u64 m' ∧ m' < 18446744073709551616 ∧ pre' ++ dig m' = numB n ∧ Put w.heap.size w (.slice none 0 0) w2 v' pre' :=
          ⟨m / 128, pre ++ [m % 128 + 128], by rw [Int.natCast_ediv]; rfl, by omega, by rw [List.append_assoc, List.singleton_append, ← dig_big (by omega)]; exact HD.out, HP.out.trans hp2⟩
        have HF := Lib.hid hfin
        clear hfin hp2
        go_wp2_with fail
        go_roundw
        case rel => exact HF.out
        case measure => simp [intOf]; omega

end Go.Proofs.Ytkicpbnphbcdaaa
