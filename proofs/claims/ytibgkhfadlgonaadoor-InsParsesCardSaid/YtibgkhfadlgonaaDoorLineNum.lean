/-
  What the document's number of layer 7 comes to.
  Conditions: none on the strings but that they are strings.
-/
import Derived.Test.YtibgkhfadlgonaaDoorLineStr
namespace Go.Proofs.YtibgkhfadlgonaaDoor
open Go.RowKit

theorem digsL_short {l : Str} (h : l.length < 1 ∨ 18 < l.length) : digsL l = none := by
  unfold digsL
  rw [if_neg]; omega
theorem digsL_bad {l : Str} {k : Nat} {c : UInt8} (h : l[k]? = some c) (hc : isDig c = false) : digsL l = none := by
  unfold digsL
  rw [if_neg]
  intro hh
  have := List.all_eq_true.1 hh.2.2 c (List.mem_of_getElem? h)
  rw [hc] at this; cases this
theorem digsL_good {l : Str} (h1 : 1 ≤ l.length) (h2 : l.length ≤ 18) (hall : ∀ (k : Nat) (d : UInt8), l[k]? = some d → isDig d = true) : digsL l = some (valL l : Int) := by
  unfold digsL
  rw [if_pos]
  exact ⟨h1, h2, List.all_eq_true.2 fun x hx => by
    obtain ⟨i, hi⟩ := List.getElem?_of_mem hx
    exact hall i x hi⟩
theorem valL_lt : ∀ (l : Str), (∀ d ∈ l, isDig d = true) → valL l < 10 ^ l.length := by
  intro l
  refine snoc_ind (P := fun l => (∀ d ∈ l, isDig d = true) → valL l < 10 ^ l.length) ?_ ?_ l
  · intro _; simp [valL]
  · intro l c ih hl
    have h1 := ih (fun d hd => hl d (by simp [hd]))
    have h2 : isDig c = true := hl c (by simp)
    unfold isDig at h2
    simp only [Bool.and_eq_true, decide_eq_true_eq] at h2
    rw [valL_snoc, List.length_append, List.length_singleton, Nat.pow_succ]
    omega
theorem take_snocS (l : Str) (k : Nat) (c : UInt8) (h : l[k]? = some c) : l.take (k + 1) = l.take k ++ [c] := by
  rw [List.take_add_one, h]; rfl

set_option maxHeartbeats 4000000 in
/-- A number's loop over digits, behind a sign or not. -/
theorem refNumber_any (s : ByteArray) (w : World) (hs : s.size ≤ 9223372036854775807) : Calls Tryd.prog 19 #[.string s] w fun e w' => e = .returned (.tuple #[.int .i64 ((numL (bytesS s)).getD 0), .bool (numL (bytesS s)).isSome]) ∧ w = w' := by
  by_cases h0 : s.size = 0
  · have e : numL (bytesS s) = none := by
      have := bytesS_len s
      rw [h0] at this
      rw [List.eq_nil_of_length_eq_zero this]; rfl
    rw [e]
    have h1' : ¬ (0 : Int) < (s.size : Int) := by omega
    have h2' : (s.size : Int) < 1 := by omega
    clear e h0
    go_enter Tryd.func19, Tryd.ntmps19
    go_wp2_with fail
    go_ret2
    exact ⟨rfl, rfl⟩
  have hp : 0 < s.size := by omega
  have hat := bytesS_at s 0 hp
  by_cases h45 : s[0].toNat = 45
  · obtain ⟨t, ht⟩ : ∃ t, s.extract 1 s.size = t := ⟨_, rfl⟩
    have hb : bytesS t = (bytesS s).drop 1 := by
      rw [← ht]
      simp [bytesS, ByteArray.data_extract]
      exact List.take_of_length_le (by simp)
    have hts : t.size = s.size - 1 := by rw [← bytesS_len, hb, List.length_drop, bytesS_len]
    have HN : Hid (numL (bytesS s) = (digsL (bytesS t)).map (fun v => -v)) := Lib.hid (by
      rw [hb]
      rcases hl : bytesS s with _ | ⟨c, r⟩
      · rw [hl] at hat; simp at hat
      · rw [hl] at hat
        simp only [List.getElem?_cons_zero, Option.some.injEq] at hat
        subst hat
        show (if s[0].toNat = 45 then (digsL r).map (fun v => -v) else digsL (s[0] :: r)) = _
        rw [if_pos h45]; rfl)
    have hmax : t.size ≤ 9223372036854775807 := by omega
    have h45' : ((s[0].toNat : Int) == 45) = true := by rw [beq_iff_eq]; omega
    have hp' : (0 : Int) < (s.size : Int) := by omega
    have HTS := Lib.hid hts
    clear hat hb hts h45
    go_enter Tryd.func19, Tryd.ntmps19
    by_cases g1 : t.size < 1
    · have e := digsL_short (l := bytesS t) (.inl (by rw [bytesS_len]; exact g1))
      have g1' : (t.size : Int) < 1 := by omega
      have HE : Hid (numL (bytesS s) = none) := Lib.hid (by rw [HN.out, e]; rfl)
      clear e g1
      go_wp2_with fail
      go_ret2
      exact ⟨by rw [HE.out]; rfl, rfl⟩
    have g1' : ¬ (t.size : Int) < 1 := by omega
    by_cases g2 : 18 < t.size
    · have e := digsL_short (l := bytesS t) (.inr (by rw [bytesS_len]; exact g2))
      have g2' : (18 : Int) < (t.size : Int) := by omega
      have HE : Hid (numL (bytesS s) = none) := Lib.hid (by rw [HN.out, e]; rfl)
      clear e g1 g2
      go_wp2_with fail
      go_ret2
      exact ⟨by rw [HE.out]; rfl, rfl⟩
    have g2' : ¬ (18 : Int) < (t.size : Int) := by omega
    go_wp2_with fail
    go_loop [5, 6] (fun v i => ∃ k : Nat, i = .int .i64 k ∧ k ≤ t.size ∧ v = .int .i64 (valL ((bytesS t).take k) : Nat) ∧ ∀ (j : Nat) (d : UInt8), j < k → (bytesS t)[j]? = some d → isDig d = true) (fun _ i => t.size - (intOf i).toNat)
    case atStart => exact ⟨0, rfl, by omega, rfl, fun j d h => by omega⟩
    case round =>
      obtain ⟨k, rfl, hk, rfl, hall⟩ := hrel
      have hval : valL ((bytesS t).take k) < 10 ^ k := by
        have h1 := valL_lt ((bytesS t).take k) (fun d hd => by
          obtain ⟨j, hj⟩ := List.getElem?_of_mem hd
          rw [List.getElem?_take] at hj
          split at hj
          · exact hall j d (by assumption) hj
          · cases hj)
        have h2 : ((bytesS t).take k).length = k := by rw [List.length_take, bytesS_len]; omega
        rwa [h2] at h1
      have HALL := Lib.hid hall
      clear hall
      by_cases hks : k < t.size
      · have hatk := bytesS_at t k hks
        have hp17 : 10 ^ k ≤ 10 ^ 17 := Nat.pow_le_pow_right (by omega) (by omega)
        cases hd : isDig t[k]
        · have HE : Hid (numL (bytesS s) = none) := Lib.hid (by rw [HN.out, digsL_bad hatk hd]; rfl)
          unfold isDig at hd
          simp only [Bool.and_eq_false_iff, decide_eq_false_iff_not] at hd
          clear hatk hval hp17
          by_cases b1 : t[k].toNat < 48
          · have b1' : (t[k].toNat : Int) < 48 := by omega
            clear hd b1
            go_wp2_with fail
            go_ret2
            exact ⟨by rw [HE.out]; rfl, rfl⟩
          · have b1' : ¬ (t[k].toNat : Int) < 48 := by omega
            have b2' : (57 : Int) < (t[k].toNat : Int) := by omega
            clear hd b1
            go_wp2_with fail
            go_ret2
            exact ⟨by rw [HE.out]; rfl, rfl⟩
        · have HS : Hid (valL ((bytesS t).take (k + 1)) = valL ((bytesS t).take k) * 10 + (t[k].toNat - 48)) := Lib.hid (by rw [take_snocS _ _ _ hatk, valL_snoc])
          have HF : Hid (∀ (j : Nat) (d : UInt8), j < k + 1 → (bytesS t)[j]? = some d → isDig d = true) := Lib.hid (fun j d hj hd' => by
            rcases Nat.lt_or_ge j k with h | h
            · exact HALL.out j d h hd'
            · obtain rfl : j = k := by omega
              rw [hatk] at hd'
              simp only [Option.some.injEq] at hd'
              rw [← hd']; exact hd)
          unfold isDig at hd
          simp only [Bool.and_eq_true, decide_eq_true_eq] at hd
          have b1' : ¬ (t[k].toNat : Int) < 48 := by omega
          have b2' : ¬ (57 : Int) < (t[k].toNat : Int) := by omega
          obtain ⟨n, hn⟩ : ∃ n, valL ((bytesS t).take k) = n := ⟨_, rfl⟩
          rw [hn] at hval
          have hn1 : (n : Int) ≤ 100000000000000000 := by omega
          have HN2 := Lib.hid hn
          rw [hn]
          have w1 : IntKind.u8.wrap ((t[k].toNat : Int) - 48) = (t[k].toNat : Int) - 48 := IntWalk.u8_in _ (by omega)
          clear hatk hval hp17 hd hn
          go_wp2_with fail
          clear w1
          go_round
          case rel => exact ⟨k + 1, by go_num, by omega, by rw [HS.out, HN2.out]; congr 1; omega, HF.out⟩
          case measure => simp [intOf]; omega
      · obtain rfl : k = t.size := by omega
        have hks' : ¬ (t.size : Int) < (t.size : Int) := by omega
        have ht : (bytesS t).take t.size = bytesS t := List.take_of_length_le (by rw [bytesS_len]; omega)
        have HE : Hid (numL (bytesS s) = some (-(valL (bytesS t) : Int))) := Lib.hid (by rw [HN.out, digsL_good (by rw [bytesS_len]; omega) (by rw [bytesS_len]; omega) (fun j d hd => HALL.out j d (by have := (List.getElem?_eq_some_iff.1 hd).1; rw [bytesS_len] at this; omega) hd)]; rfl)
        have hp18 : 10 ^ t.size ≤ 10 ^ 18 := Nat.pow_le_pow_right (by omega) (by omega)
        rw [ht] at hval ⊢
        obtain ⟨n, hn⟩ : ∃ n, valL (bytesS t) = n := ⟨_, rfl⟩
        rw [hn] at hval ⊢
        have hn1 : (n : Int) ≤ 1000000000000000000 := by omega
        have HN2 := Lib.hid hn
        clear hval hp18 ht hn
        go_wp2_with fail
        go_ret2
        exact ⟨by rw [HE.out, HN2.out]; rfl, rfl⟩
  · have HN : Hid (numL (bytesS s) = digsL (bytesS s)) := Lib.hid (by
      rcases hl : bytesS s with _ | ⟨c, r⟩
      · rw [hl] at hat; simp at hat
      · rw [hl] at hat
        simp only [List.getElem?_cons_zero, Option.some.injEq] at hat
        subst hat
        show (if s[0].toNat = 45 then (digsL r).map (fun v => -v) else digsL (s[0] :: r)) = _
        rw [if_neg h45])
    have h45' : ((s[0].toNat : Int) == 45) = false := by rw [beq_eq_false_iff_ne]; omega
    have hp' : (0 : Int) < (s.size : Int) := by omega
    clear hat h45
    go_enter Tryd.func19, Tryd.ntmps19
    by_cases g1 : s.size < 1
    · have e := digsL_short (l := bytesS s) (.inl (by rw [bytesS_len]; exact g1))
      have g1' : (s.size : Int) < 1 := by omega
      have HE : Hid (numL (bytesS s) = none) := Lib.hid (by rw [HN.out, e])
      clear e g1
      go_wp2_with fail
      go_ret2
      exact ⟨by rw [HE.out]; rfl, rfl⟩
    have g1' : ¬ (s.size : Int) < 1 := by omega
    by_cases g2 : 18 < s.size
    · have e := digsL_short (l := bytesS s) (.inr (by rw [bytesS_len]; exact g2))
      have g2' : (18 : Int) < (s.size : Int) := by omega
      have HE : Hid (numL (bytesS s) = none) := Lib.hid (by rw [HN.out, e])
      clear e g1 g2
      go_wp2_with fail
      go_ret2
      exact ⟨by rw [HE.out]; rfl, rfl⟩
    have g2' : ¬ (18 : Int) < (s.size : Int) := by omega
    go_wp2_with fail
    go_loop [5, 6] (fun v i => ∃ k : Nat, i = .int .i64 k ∧ k ≤ s.size ∧ v = .int .i64 (valL ((bytesS s).take k) : Nat) ∧ ∀ (j : Nat) (d : UInt8), j < k → (bytesS s)[j]? = some d → isDig d = true) (fun _ i => s.size - (intOf i).toNat)
    case atStart => exact ⟨0, rfl, by omega, rfl, fun j d h => by omega⟩
    case round =>
      obtain ⟨k, rfl, hk, rfl, hall⟩ := hrel
      have hval : valL ((bytesS s).take k) < 10 ^ k := by
        have h1 := valL_lt ((bytesS s).take k) (fun d hd => by
          obtain ⟨j, hj⟩ := List.getElem?_of_mem hd
          rw [List.getElem?_take] at hj
          split at hj
          · exact hall j d (by assumption) hj
          · cases hj)
        have h2 : ((bytesS s).take k).length = k := by rw [List.length_take, bytesS_len]; omega
        rwa [h2] at h1
      have HALL := Lib.hid hall
      clear hall
      by_cases hks : k < s.size
      · have hatk := bytesS_at s k hks
        have hp17 : 10 ^ k ≤ 10 ^ 17 := Nat.pow_le_pow_right (by omega) (by omega)
        cases hd : isDig s[k]
        · have HE : Hid (numL (bytesS s) = none) := Lib.hid (by rw [HN.out, digsL_bad hatk hd])
          unfold isDig at hd
          simp only [Bool.and_eq_false_iff, decide_eq_false_iff_not] at hd
          clear hatk hval hp17
          by_cases b1 : s[k].toNat < 48
          · have b1' : (s[k].toNat : Int) < 48 := by omega
            clear hd b1
            go_wp2_with fail
            go_ret2
            exact ⟨by rw [HE.out]; rfl, rfl⟩
          · have b1' : ¬ (s[k].toNat : Int) < 48 := by omega
            have b2' : (57 : Int) < (s[k].toNat : Int) := by omega
            clear hd b1
            go_wp2_with fail
            go_ret2
            exact ⟨by rw [HE.out]; rfl, rfl⟩
        · have HS : Hid (valL ((bytesS s).take (k + 1)) = valL ((bytesS s).take k) * 10 + (s[k].toNat - 48)) := Lib.hid (by rw [take_snocS _ _ _ hatk, valL_snoc])
          have HF : Hid (∀ (j : Nat) (d : UInt8), j < k + 1 → (bytesS s)[j]? = some d → isDig d = true) := Lib.hid (fun j d hj hd' => by
            rcases Nat.lt_or_ge j k with h | h
            · exact HALL.out j d h hd'
            · obtain rfl : j = k := by omega
              rw [hatk] at hd'
              simp only [Option.some.injEq] at hd'
              rw [← hd']; exact hd)
          unfold isDig at hd
          simp only [Bool.and_eq_true, decide_eq_true_eq] at hd
          have b1' : ¬ (s[k].toNat : Int) < 48 := by omega
          have b2' : ¬ (57 : Int) < (s[k].toNat : Int) := by omega
          obtain ⟨n, hn⟩ : ∃ n, valL ((bytesS s).take k) = n := ⟨_, rfl⟩
          rw [hn] at hval
          have hn1 : (n : Int) ≤ 100000000000000000 := by omega
          have HN2 := Lib.hid hn
          rw [hn]
          have w1 : IntKind.u8.wrap ((s[k].toNat : Int) - 48) = (s[k].toNat : Int) - 48 := IntWalk.u8_in _ (by omega)
          clear hatk hval hp17 hd hn
          go_wp2_with fail
          clear w1
          go_round
          case rel => exact ⟨k + 1, by go_num, by omega, by rw [HS.out, HN2.out]; congr 1; omega, HF.out⟩
          case measure => simp [intOf]; omega
      · obtain rfl : k = s.size := by omega
        have hks' : ¬ (s.size : Int) < (s.size : Int) := by omega
        have ht : (bytesS s).take s.size = bytesS s := List.take_of_length_le (by rw [bytesS_len]; omega)
        have HE : Hid (numL (bytesS s) = some (valL (bytesS s) : Int)) := Lib.hid (by rw [HN.out, digsL_good (by rw [bytesS_len]; omega) (by rw [bytesS_len]; omega) (fun j d hd => HALL.out j d (by have := (List.getElem?_eq_some_iff.1 hd).1; rw [bytesS_len] at this; omega) hd)])
        have hp18 : 10 ^ s.size ≤ 10 ^ 18 := Nat.pow_le_pow_right (by omega) (by omega)
        rw [ht] at hval ⊢
        obtain ⟨n, hn⟩ : ∃ n, valL (bytesS s) = n := ⟨_, rfl⟩
        rw [hn] at hval ⊢
        have hn1 : (n : Int) ≤ 1000000000000000000 := by omega
        have HN2 := Lib.hid hn
        clear hval hp18 ht hn
        go_wp2_with fail
        go_ret2
        exact ⟨by rw [HE.out, HN2.out]; rfl, rfl⟩


end Go.Proofs.YtibgkhfadlgonaaDoor
