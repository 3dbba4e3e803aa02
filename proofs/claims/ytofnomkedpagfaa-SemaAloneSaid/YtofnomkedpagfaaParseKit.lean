/-
  What the document's Digits of layer 7 come to.
  Conditions: none on the strings but that they are strings.
  What the document's register of layer 7 comes to.
  Conditions: none on the strings but that they are strings.
  What the document's number of layer 7 comes to.
  Conditions: none on the strings but that they are strings.
  The document's Parse in parts: its frame, its code's loops, a line in memory.
  Conditions: none; these are lemmas for the walks.
-/
import Derived.Test.YtofnomkedpagfaaLineMem
import Derived.Laws.BytesArg
import Derived.Lib.Bytes
import Derived.Deep.RegionHeld3
import Derived.Test.YtofnomkedpagfaaLineSplit
import Derived.Test.YtofnomkedpagfaaLineName
import Derived.Test.YtofnomkedpagfaaLineWords
import Derived.Test.YtofnomkedpagfaaDown
section
namespace Go.Proofs.Ytofnomkedpagfaa
open Go.RowKit


/-- A slice of one byte as a string. -/
theorem conv_one {w : World} {g : Nat} {c : Int} (h : w.cell? ⟨g, 0, none⟩ = some (.int .u8 c)) : (convert 122 9 (.slice (some ⟨g, 0, none⟩) 1 1)).run Try.prog w = .ok (.string (strS [UInt8.ofNat c.toNat])) w := by
  have hl : (loadCells ⟨g, 0, none⟩ 1).run Try.prog w = .ok (#[Value.int .u8 c]) w := by
    have := run_loadCells_list (P := Try.prog) w ⟨g, 0, none⟩ [Value.int .u8 c] (fun j v hj => by
      match j, hj with
      | 0, hj => simp only [List.getElem?_cons_zero, Option.some.injEq] at hj; subst hj; exact h)
    simpa using this
  have hl2 : (loadCells ⟨g, 0, none⟩ 1).run Try.prog w = .ok (([c]).map (Value.int .u8)).toArray w := hl
  rw [run_convert_bytes_string w _ _ 5 _ _ _ Try.underlying122 Try.underlying5 Try.underlying9, run_bytesToString w _ _ 1 _ hl2]
  rfl
theorem conv_new (c : Int) (w : World) : (convert 122 9 (.slice (some ⟨w.heap.size, 0, none⟩) 1 1)).run Try.prog (w.alloc (.cells #[.int .u8 c] 5)) = .ok (.string (strS [UInt8.ofNat c.toNat])) (w.alloc (.cells #[.int .u8 c] 5)) :=
  conv_one (by rw [cell_at _ _ 0 _ _ (heap_new1 w _)]; rfl)
theorem conv_kept {c : Int} {w w' : World} (hk : Kept (fun _ => False) (w.alloc (.cells #[.int .u8 c] 5)) w') : (convert 122 9 (.slice (some ⟨w.heap.size, 0, none⟩) 1 1)).run Try.prog w' = .ok (.string (strS [UInt8.ofNat c.toNat])) w' :=
  conv_one (by rw [cell_at _ _ 0 _ _ ((hk.block w.heap.size (by simp) (fun f => f)).trans (heap_new1 w _))]; rfl)

/-- What a string's making leaves. -/
def StrTo (w : World) (l : Str) (e : Ending) (w' : World) : Prop := e = .returned (.string (strS l)) ∧ Kept (fun _ => False) w w'

set_option maxHeartbeats 600000 in
theorem refDigits_nat : ∀ (f n : Nat), n < 10 ^ f → 1 ≤ f → f ≤ 18 → ∀ (w : World), Calls Try.prog 53 #[.int .i64 (n : Int)] w (StrTo w (decN n)) := by
  intro f
  induction f with
  | zero => intro n _ h; omega
  | succ f ih =>
    intro n hn _ hf w
    have hp18 : 10 ^ (f + 1) ≤ 10 ^ 18 := Nat.pow_le_pow_right (by omega) hf
    have hn18 : (n : Int) ≤ 1000000000000000000 := by omega
    have h0 : ¬ (n : Int) < 0 := by omega
    by_cases h10 : n < 10
    · obtain ⟨ch, hch⟩ : ∃ ch, UInt8.ofNat (48 + n) = ch := ⟨_, rfl⟩
      have e : decN n = [ch] := by unfold decN decF; rw [if_pos h10, hch]
      have e2 : (48 + (n : Int)).toNat = 48 + n := by omega
      have h10' : (n : Int) < 10 := by omega
      have hc := conv_new (48 + (n : Int)) w
      rw [e2, hch] at hc
      have HF := Lib.hid (show StrTo w (decN n) (.returned (.string (strS [ch]))) (w.alloc (.cells #[.int .u8 (48 + (n : Int))] 5)) from ⟨by rw [e], (Kept.refl _ w).alloc _⟩)
      clear e e2 hn hp18 ih h10 hch
      go_enter Try.func53, Try.ntmps53
      go_wp2_with fail
      go_ret
      exact HF.out
    · have hf1 : 1 ≤ f := by
        rcases Nat.eq_zero_or_pos f with h | h
        · subst h; simp at hn; omega
        · exact h
      have hn2 : n / 10 < 10 ^ f := by rw [Nat.pow_succ] at hn; omega
      have e : decN n = decN (n / 10) ++ [UInt8.ofNat (48 + n % 10)] := by
        show decF 20 n = decF 20 (n / 10) ++ _
        rw [decF_more 19 20 (n / 10) (by omega) (by omega) (by omega)]
        conv => lhs; unfold decF
        rw [if_neg h10]
      have h10' : ¬ (n : Int) < 10 := by omega
      have q1 : (n : Int).tdiv 10 = ((n / 10 : Nat) : Int) := by rw [Int.tdiv_eq_ediv_of_nonneg (by omega)]; omega
      have q2 : (n : Int).tmod 10 = ((n % 10 : Nat) : Int) := by rw [Int.tmod_eq_emod_of_nonneg (by omega)]; omega
      obtain ⟨d, hd⟩ : ∃ d, n / 10 = d := ⟨_, rfl⟩
      obtain ⟨m, hm⟩ : ∃ m, n % 10 = m := ⟨_, rfl⟩
      obtain ⟨ch, hch⟩ : ∃ ch, UInt8.ofNat (48 + m) = ch := ⟨_, rfl⟩
      rw [hd] at hn2 e q1
      rw [hm] at e q2
      rw [hch] at e
      have hm9 : (m : Int) ≤ 9 := by omega
      have e2 : (48 + (m : Int)).toNat = 48 + m := by omega
      have w1 : IntKind.i64.wrap (48 + (m : Int)) = 48 + (m : Int) := IntWalk.i64_in _ (by omega)
      have w2 : IntKind.u8.wrap (48 + (m : Int)) = 48 + (m : Int) := IntWalk.u8_in _ (by omega)
      have hlen : (decN d).length ≤ 18 := decN_len (Nat.lt_of_lt_of_le hn2 (Nat.pow_le_pow_right (by omega) (by omega)))
      have hadd : ∀ (w' : World), (Op.stringOp .add (strS (decN d)) (strS [ch])).run Try.prog w' = .ok (.string (strS (decN n))) w' := fun w' => by
        rw [run_string_add_sum w' _ _ (by rw [strS_size, strS_size]; simp; omega), strS_add, e]
      have HIH := Lib.hid (fun w => ih d hn2 hf1 (by omega) w)
      have hcv : ∀ (w' : World), (convert 122 9 (.slice (some ⟨w'.heap.size, 0, none⟩) 1 1)).run Try.prog (w'.alloc (.cells #[.int .u8 (48 + (m : Int))] 5)) = .ok (.string (strS [ch])) (w'.alloc (.cells #[.int .u8 (48 + (m : Int))] 5)) := fun w' => by
        have := conv_new (48 + (m : Int)) w'
        rwa [e2, hch] at this
      have hcv2 : ∀ (w' : World), (convert 122 9 (.slice (some ⟨w'.heap.size, 0, none⟩) 1 1)).run Try.prog (w'.alloc (.cells #[.int .u8 (48 + (m : Int))] 5)).drew = .ok (.string (strS [ch])) (w'.alloc (.cells #[.int .u8 (48 + (m : Int))] 5)).drew := fun w' => by
        have := conv_kept (Kept.refl _ (w'.alloc (.cells #[.int .u8 (48 + (m : Int))] 5))).drew
        rwa [e2, hch] at this
      have HCK := Lib.hid (fun (w0 w' : World) (hk : Kept (fun _ => False) (w0.alloc (.cells #[.int .u8 (48 + (m : Int))] 5)).drew w') (g : Nat) (hg : g = w0.heap.size) => (by
        have := conv_kept ((Kept.refl _ (w0.alloc (.cells #[.int .u8 (48 + (m : Int))] 5))).drew.trans hk (fun _ _ f => f))
        rwa [e2, hch, ← hg] at this : (convert 122 9 (.slice (some ⟨g, 0, none⟩) 1 1)).run Try.prog w' = .ok (.string (strS [ch])) w'))
      have HD18 : Hid (d ≤ 1000000000000000000) := Lib.hid (by omega)
      clear e e2 hn hp18 ih h10 hlen hn2 hf1 hd hm hch
      go_enter Try.func53, Try.ntmps53
      go_wp2_with fail
      have w3 : IntKind.i64.wrap (d : Int) = (d : Int) := IntWalk.i64_in _ ⟨by omega, by have := HD18.out; omega⟩
      go_region_with ((go_at_call 53; (with_reducible refine (HIH.out _).mono ?_); rintro e w6 ⟨rfl, hk6⟩; have HK6 := Lib.hid hk6; (try have ck6 := HCK.out _ _ hk6 w.heap.size rfl); clear hk6))
      all_goals
        first
          | (have HK9 : Hid (Kept (fun _ => False) w (w6.alloc (.cells #[.int .u8 (48 + (m : Int))] 5))) := Lib.hid (((Kept.refl _ w).drew.trans HK6.out (fun _ _ f => f)).alloc _))
          | (have HK9 : Hid (Kept (fun _ => False) w w6) := Lib.hid (((Kept.refl _ w).alloc _).drew.trans HK6.out (fun _ _ f => f)))
        clear HK6
        go_wp2_with fail
        go_ret
        exact ⟨rfl, HK9.out⟩

theorem small_ends {v : Int} (h : small v = true) : -999999999999999999 ≤ v ∧ v ≤ 999999999999999999 := by
  unfold small at h
  simpa only [Bool.and_eq_true, decide_eq_true_eq] using h

set_option maxHeartbeats 600000 in
theorem refDigits_any (v : Int) (hv : small v = true) (w : World) : Calls Try.prog 53 #[.int .i64 v] w (StrTo w (decI v)) := by
  obtain ⟨h1, h2⟩ := small_ends hv
  clear hv
  by_cases h0 : v < 0
  · obtain ⟨n, hn⟩ : ∃ n : Nat, -v = (n : Int) := ⟨(-v).toNat, by omega⟩
    have e : decI v = 45 :: decN n := by
      unfold decI
      rw [if_pos h0, hn]; rfl
    have hlen : (decN n).length ≤ 18 := decN_len (by omega)
    have hadd : ∀ (w' : World), (Op.stringOp .add ({ data := #[45] } : ByteArray) (strS (decN n))).run Try.prog w' = .ok (.string (strS (decI v))) w' := fun w' => by
      have := run_string_add_sum (P := Try.prog) w' (strS [45]) (strS (decN n)) (by rw [strS_size, strS_size]; simp; omega)
      rw [strS_add] at this
      rw [e]; exact this
    have HD := Lib.hid (refDigits_nat 18 n (by omega) (by omega) (by omega) w)
    clear hlen e
    go_enter Try.func53, Try.ntmps53
    go_wp2_with fail
    refine (HD.out).mono ?_
    rintro e w1 ⟨rfl, hk⟩
    have HK := Lib.hid hk
    clear hk
    go_wp2_with fail
    go_ret
    exact ⟨rfl, HK.out⟩
  · obtain ⟨n, rfl⟩ : ∃ n : Nat, v = (n : Int) := ⟨v.toNat, by omega⟩
    have e : decI (n : Int) = decN n := by
      unfold decI
      rw [if_neg h0]; rfl
    rw [e]
    exact refDigits_nat 18 n (by omega) (by omega) (by omega) w

end Go.Proofs.Ytofnomkedpagfaa
end
section
namespace Go.Proofs.Ytofnomkedpagfaa
open Go.RowKit


/-- What the register's number is, or -1. -/
def RegTo (w : World) (l : Str) (e : Ending) (w' : World) : Prop := e = .returned (.int .i64 ((regL l).getD (-1))) ∧ Kept (fun _ => False) w w'

set_option maxHeartbeats 1000000 in
theorem refReg_any (s : ByteArray) (w : World) : Calls Try.prog 42 #[.string s] w (RegTo w (bytesS s)) := by
  go_enter Try.func42, Try.ntmps42
  go_wp2_with fail
  go_loopw [3] (fun i wr => ∃ k : Nat, i = .int .i64 k ∧ k ≤ 16 ∧ (∀ j : Nat, j < k → bytesS s ≠ regT (j : Int)) ∧ Kept (fun _ => False) w wr) (fun i _ => 16 - (intOf i).toNat)
  case atStart => exact ⟨0, rfl, by omega, (fun j h => by omega), Kept.refl _ _⟩
  case round =>
    obtain ⟨k, rfl, hk, hall, hkept⟩ := hrel
    have HALL := Lib.hid hall
    have HK := Lib.hid hkept
    clear hall hkept
    by_cases hks : k < 16
    · have hsm : small (k : Int) = true := by unfold small; simp; omega
      have hlen : (decI (k : Int)).length ≤ 20 := by
        unfold decI
        rw [if_neg (by omega)]
        exact decF_len 20 _
      have hadd : ∀ (w' : World), (Op.stringOp .add ({ data := #[114] } : ByteArray) (strS (decI (k : Int)))).run Try.prog w' = .ok (.string (strS (regT (k : Int)))) w' := fun w' => by
        have := run_string_add_sum (P := Try.prog) w' (strS [114]) (strS (decI (k : Int))) (by rw [strS_size, strS_size]; simp; omega)
        rw [strS_add] at this
        exact this
      have HD := Lib.hid (refDigits_any (k : Int) hsm wr)
      clear hsm hlen
      go_wp2_with fail
      refine (HD.out).mono ?_
      rintro e w1 ⟨rfl, hk1⟩
      have HK1 := Lib.hid (HK.out.trans hk1 (fun _ _ f => f))
      have heq := str_eq s (regT (k : Int))
      clear hk1
      by_cases he : bytesS s = regT (k : Int)
      · rw [decide_eq_true he] at heq
        have HR : Hid (RegTo w (bytesS s) (.returned (.int .i64 (k : Int))) w1) := Lib.hid ⟨by rw [he, regT_reg (by omega) (by omega)]; rfl, HK1.out⟩
        clear he
        go_wp2_with fail
        go_ret
        exact HR.out
      · rw [decide_eq_false he] at heq
        have HF : Hid (∀ j : Nat, j < k + 1 → bytesS s ≠ regT (j : Int)) := Lib.hid (fun j hj => by
          rcases Nat.lt_or_ge j k with h | h
          · exact HALL.out j h
          · obtain rfl : j = k := by omega
            exact he)
        clear he
        go_wp2_with fail
        go_roundw
        case rel => exact ⟨k + 1, by go_num, by omega, HF.out, HK1.out⟩
        case measure => simp [intOf]; omega
    · obtain rfl : k = 16 := by omega
      have HR : Hid (RegTo w (bytesS s) (.returned (.int .i64 (-1))) wr) := Lib.hid ⟨by rw [regL_none HALL.out]; rfl, HK.out⟩
      go_wp2_with fail
      go_ret
      exact HR.out


end Go.Proofs.Ytofnomkedpagfaa
end
section
namespace Go.Proofs.Ytofnomkedpagfaa
open Go.RowKit

theorem digsL_short {l : Str} (h : l.length < 1 ∨ 18 < l.length) : digsL l = none := by
  unfold digsL
  rw [if_neg]; omega
theorem digsL_bad {l : Str} {k : Nat} {c : UInt8} (h : l[k]? = some c) (hc : isDig c = false) : digsL l = none := by
  unfold digsL
  rw [if_neg]
  intro hh
  have := List.all_eq_true.1 hh.2.2 c (List.mem_of_getElem? h)
  rw [hc] at this; cases this
theorem digsL_good {l : Str} (h1 : 1 ≤ l.length) (h2 : l.length ≤ 18) (hall : ∀ (k : Nat) (d : UInt8), l[k]? = some d → isDig d = true) : digsL l = some (valL l : Int) := by
  unfold digsL
  rw [if_pos]
  exact ⟨h1, h2, List.all_eq_true.2 fun x hx => by
    obtain ⟨i, hi⟩ := List.getElem?_of_mem hx
    exact hall i x hi⟩
theorem valL_lt : ∀ (l : Str), (∀ d ∈ l, isDig d = true) → valL l < 10 ^ l.length := by
  intro l
  refine snoc_ind (P := fun l => (∀ d ∈ l, isDig d = true) → valL l < 10 ^ l.length) ?_ ?_ l
  · intro _; simp [valL]
  · intro l c ih hl
    have h1 := ih (fun d hd => hl d (by simp [hd]))
    have h2 : isDig c = true := hl c (by simp)
    unfold isDig at h2
    simp only [Bool.and_eq_true, decide_eq_true_eq] at h2
    rw [valL_snoc, List.length_append, List.length_singleton, Nat.pow_succ]
    omega
theorem take_snocS (l : Str) (k : Nat) (c : UInt8) (h : l[k]? = some c) : l.take (k + 1) = l.take k ++ [c] := by
  rw [List.take_add_one, h]; rfl

set_option maxHeartbeats 4000000 in
/-- A number's loop over digits, behind a sign or not. -/
theorem refNumber_any (s : ByteArray) (w : World) (hs : s.size ≤ 9223372036854775807) : Calls Try.prog 43 #[.string s] w fun e w' => e = .returned (.tuple #[.int .i64 ((numL (bytesS s)).getD 0), .bool (numL (bytesS s)).isSome]) ∧ w = w' := by
  by_cases h0 : s.size = 0
  · have e : numL (bytesS s) = none := by
      have := bytesS_len s
      rw [h0] at this
      rw [List.eq_nil_of_length_eq_zero this]; rfl
    rw [e]
    have h1' : ¬ (0 : Int) < (s.size : Int) := by omega
    have h2' : (s.size : Int) < 1 := by omega
    clear e h0
    go_enter Try.func43, Try.ntmps43
    go_wp2_with fail
    go_ret2
    exact ⟨rfl, rfl⟩
  have hp : 0 < s.size := by omega
  have hat := bytesS_at s 0 hp
  by_cases h45 : s[0].toNat = 45
  · obtain ⟨t, ht⟩ : ∃ t, s.extract 1 s.size = t := ⟨_, rfl⟩
    have hb : bytesS t = (bytesS s).drop 1 := by
      rw [← ht]
      simp [bytesS, ByteArray.data_extract]
      exact List.take_of_length_le (by simp)
    have hts : t.size = s.size - 1 := by rw [← bytesS_len, hb, List.length_drop, bytesS_len]
    have HN : Hid (numL (bytesS s) = (digsL (bytesS t)).map (fun v => -v)) := Lib.hid (by
      rw [hb]
      rcases hl : bytesS s with _ | ⟨c, r⟩
      · rw [hl] at hat; simp at hat
      · rw [hl] at hat
        simp only [List.getElem?_cons_zero, Option.some.injEq] at hat
        subst hat
        show (if s[0].toNat = 45 then (digsL r).map (fun v => -v) else digsL (s[0] :: r)) = _
        rw [if_pos h45]; rfl)
    have hmax : t.size ≤ 9223372036854775807 := by omega
    have h45' : ((s[0].toNat : Int) == 45) = true := by rw [beq_iff_eq]; omega
    have hp' : (0 : Int) < (s.size : Int) := by omega
    have HTS := Lib.hid hts
    clear hat hb hts h45
    go_enter Try.func43, Try.ntmps43
    by_cases g1 : t.size < 1
    · have e := digsL_short (l := bytesS t) (.inl (by rw [bytesS_len]; exact g1))
      have g1' : (t.size : Int) < 1 := by omega
      have HE : Hid (numL (bytesS s) = none) := Lib.hid (by rw [HN.out, e]; rfl)
      clear e g1
      go_wp2_with fail
      go_ret2
      exact ⟨by rw [HE.out]; rfl, rfl⟩
    have g1' : ¬ (t.size : Int) < 1 := by omega
    by_cases g2 : 18 < t.size
    · have e := digsL_short (l := bytesS t) (.inr (by rw [bytesS_len]; exact g2))
      have g2' : (18 : Int) < (t.size : Int) := by omega
      have HE : Hid (numL (bytesS s) = none) := Lib.hid (by rw [HN.out, e]; rfl)
      clear e g1 g2
      go_wp2_with fail
      go_ret2
      exact ⟨by rw [HE.out]; rfl, rfl⟩
    have g2' : ¬ (18 : Int) < (t.size : Int) := by omega
    go_wp2_with fail
    go_loop [5, 6] (fun v i => ∃ k : Nat, i = .int .i64 k ∧ k ≤ t.size ∧ v = .int .i64 (valL ((bytesS t).take k) : Nat) ∧ ∀ (j : Nat) (d : UInt8), j < k → (bytesS t)[j]? = some d → isDig d = true) (fun _ i => t.size - (intOf i).toNat)
    case atStart => exact ⟨0, rfl, by omega, rfl, fun j d h => by omega⟩
    case round =>
      obtain ⟨k, rfl, hk, rfl, hall⟩ := hrel
      have hval : valL ((bytesS t).take k) < 10 ^ k := by
        have h1 := valL_lt ((bytesS t).take k) (fun d hd => by
          obtain ⟨j, hj⟩ := List.getElem?_of_mem hd
          rw [List.getElem?_take] at hj
          split at hj
          · exact hall j d (by assumption) hj
          · cases hj)
        have h2 : ((bytesS t).take k).length = k := by rw [List.length_take, bytesS_len]; omega
        rwa [h2] at h1
      have HALL := Lib.hid hall
      clear hall
      by_cases hks : k < t.size
      · have hatk := bytesS_at t k hks
        have hp17 : 10 ^ k ≤ 10 ^ 17 := Nat.pow_le_pow_right (by omega) (by omega)
        cases hd : isDig t[k]
        · have HE : Hid (numL (bytesS s) = none) := Lib.hid (by rw [HN.out, digsL_bad hatk hd]; rfl)
          unfold isDig at hd
          simp only [Bool.and_eq_false_iff, decide_eq_false_iff_not] at hd
          clear hatk hval hp17
          by_cases b1 : t[k].toNat < 48
          · have b1' : (t[k].toNat : Int) < 48 := by omega
            clear hd b1
            go_wp2_with fail
            go_ret2
            exact ⟨by rw [HE.out]; rfl, rfl⟩
          · have b1' : ¬ (t[k].toNat : Int) < 48 := by omega
            have b2' : (57 : Int) < (t[k].toNat : Int) := by omega
            clear hd b1
            go_wp2_with fail
            go_ret2
            exact ⟨by rw [HE.out]; rfl, rfl⟩
        · have HS : Hid (valL ((bytesS t).take (k + 1)) = valL ((bytesS t).take k) * 10 + (t[k].toNat - 48)) := Lib.hid (by rw [take_snocS _ _ _ hatk, valL_snoc])
          have HF : Hid (∀ (j : Nat) (d : UInt8), j < k + 1 → (bytesS t)[j]? = some d → isDig d = true) := Lib.hid (fun j d hj hd' => by
            rcases Nat.lt_or_ge j k with h | h
            · exact HALL.out j d h hd'
            · obtain rfl : j = k := by omega
              rw [hatk] at hd'
              simp only [Option.some.injEq] at hd'
              rw [← hd']; exact hd)
          unfold isDig at hd
          simp only [Bool.and_eq_true, decide_eq_true_eq] at hd
          have b1' : ¬ (t[k].toNat : Int) < 48 := by omega
          have b2' : ¬ (57 : Int) < (t[k].toNat : Int) := by omega
          obtain ⟨n, hn⟩ : ∃ n, valL ((bytesS t).take k) = n := ⟨_, rfl⟩
          rw [hn] at hval
          have hn1 : (n : Int) ≤ 100000000000000000 := by omega
          have HN2 := Lib.hid hn
          rw [hn]
          have w1 : IntKind.u8.wrap ((t[k].toNat : Int) - 48) = (t[k].toNat : Int) - 48 := IntWalk.u8_in _ (by omega)
          clear hatk hval hp17 hd hn
          go_wp2_with fail
          clear w1
          go_round
          case rel => exact ⟨k + 1, by go_num, by omega, by rw [HS.out, HN2.out]; congr 1; omega, HF.out⟩
          case measure => simp [intOf]; omega
      · obtain rfl : k = t.size := by omega
        have hks' : ¬ (t.size : Int) < (t.size : Int) := by omega
        have ht : (bytesS t).take t.size = bytesS t := List.take_of_length_le (by rw [bytesS_len]; omega)
        have HE : Hid (numL (bytesS s) = some (-(valL (bytesS t) : Int))) := Lib.hid (by rw [HN.out, digsL_good (by rw [bytesS_len]; omega) (by rw [bytesS_len]; omega) (fun j d hd => HALL.out j d (by have := (List.getElem?_eq_some_iff.1 hd).1; rw [bytesS_len] at this; omega) hd)]; rfl)
        have hp18 : 10 ^ t.size ≤ 10 ^ 18 := Nat.pow_le_pow_right (by omega) (by omega)
        rw [ht] at hval ⊢
        obtain ⟨n, hn⟩ : ∃ n, valL (bytesS t) = n := ⟨_, rfl⟩
        rw [hn] at hval ⊢
        have hn1 : (n : Int) ≤ 1000000000000000000 := by omega
        have HN2 := Lib.hid hn
        clear hval hp18 ht hn
        go_wp2_with fail
        go_ret2
        exact ⟨by rw [HE.out, HN2.out]; rfl, rfl⟩
  · have HN : Hid (numL (bytesS s) = digsL (bytesS s)) := Lib.hid (by
      rcases hl : bytesS s with _ | ⟨c, r⟩
      · rw [hl] at hat; simp at hat
      · rw [hl] at hat
        simp only [List.getElem?_cons_zero, Option.some.injEq] at hat
        subst hat
        show (if s[0].toNat = 45 then (digsL r).map (fun v => -v) else digsL (s[0] :: r)) = _
        rw [if_neg h45])
    have h45' : ((s[0].toNat : Int) == 45) = false := by rw [beq_eq_false_iff_ne]; omega
    have hp' : (0 : Int) < (s.size : Int) := by omega
    clear hat h45
    go_enter Try.func43, Try.ntmps43
    by_cases g1 : s.size < 1
    · have e := digsL_short (l := bytesS s) (.inl (by rw [bytesS_len]; exact g1))
      have g1' : (s.size : Int) < 1 := by omega
      have HE : Hid (numL (bytesS s) = none) := Lib.hid (by rw [HN.out, e])
      clear e g1
      go_wp2_with fail
      go_ret2
      exact ⟨by rw [HE.out]; rfl, rfl⟩
    have g1' : ¬ (s.size : Int) < 1 := by omega
    by_cases g2 : 18 < s.size
    · have e := digsL_short (l := bytesS s) (.inr (by rw [bytesS_len]; exact g2))
      have g2' : (18 : Int) < (s.size : Int) := by omega
      have HE : Hid (numL (bytesS s) = none) := Lib.hid (by rw [HN.out, e])
      clear e g1 g2
      go_wp2_with fail
      go_ret2
      exact ⟨by rw [HE.out]; rfl, rfl⟩
    have g2' : ¬ (18 : Int) < (s.size : Int) := by omega
    go_wp2_with fail
    go_loop [5, 6] (fun v i => ∃ k : Nat, i = .int .i64 k ∧ k ≤ s.size ∧ v = .int .i64 (valL ((bytesS s).take k) : Nat) ∧ ∀ (j : Nat) (d : UInt8), j < k → (bytesS s)[j]? = some d → isDig d = true) (fun _ i => s.size - (intOf i).toNat)
    case atStart => exact ⟨0, rfl, by omega, rfl, fun j d h => by omega⟩
    case round =>
      obtain ⟨k, rfl, hk, rfl, hall⟩ := hrel
      have hval : valL ((bytesS s).take k) < 10 ^ k := by
        have h1 := valL_lt ((bytesS s).take k) (fun d hd => by
          obtain ⟨j, hj⟩ := List.getElem?_of_mem hd
          rw [List.getElem?_take] at hj
          split at hj
          · exact hall j d (by assumption) hj
          · cases hj)
        have h2 : ((bytesS s).take k).length = k := by rw [List.length_take, bytesS_len]; omega
        rwa [h2] at h1
      have HALL := Lib.hid hall
      clear hall
      by_cases hks : k < s.size
      · have hatk := bytesS_at s k hks
        have hp17 : 10 ^ k ≤ 10 ^ 17 := Nat.pow_le_pow_right (by omega) (by omega)
        cases hd : isDig s[k]
        · have HE : Hid (numL (bytesS s) = none) := Lib.hid (by rw [HN.out, digsL_bad hatk hd])
          unfold isDig at hd
          simp only [Bool.and_eq_false_iff, decide_eq_false_iff_not] at hd
          clear hatk hval hp17
          by_cases b1 : s[k].toNat < 48
          · have b1' : (s[k].toNat : Int) < 48 := by omega
            clear hd b1
            go_wp2_with fail
            go_ret2
            exact ⟨by rw [HE.out]; rfl, rfl⟩
          · have b1' : ¬ (s[k].toNat : Int) < 48 := by omega
            have b2' : (57 : Int) < (s[k].toNat : Int) := by omega
            clear hd b1
            go_wp2_with fail
            go_ret2
            exact ⟨by rw [HE.out]; rfl, rfl⟩
        · have HS : Hid (valL ((bytesS s).take (k + 1)) = valL ((bytesS s).take k) * 10 + (s[k].toNat - 48)) := Lib.hid (by rw [take_snocS _ _ _ hatk, valL_snoc])
          have HF : Hid (∀ (j : Nat) (d : UInt8), j < k + 1 → (bytesS s)[j]? = some d → isDig d = true) := Lib.hid (fun j d hj hd' => by
            rcases Nat.lt_or_ge j k with h | h
            · exact HALL.out j d h hd'
            · obtain rfl : j = k := by omega
              rw [hatk] at hd'
              simp only [Option.some.injEq] at hd'
              rw [← hd']; exact hd)
          unfold isDig at hd
          simp only [Bool.and_eq_true, decide_eq_true_eq] at hd
          have b1' : ¬ (s[k].toNat : Int) < 48 := by omega
          have b2' : ¬ (57 : Int) < (s[k].toNat : Int) := by omega
          obtain ⟨n, hn⟩ : ∃ n, valL ((bytesS s).take k) = n := ⟨_, rfl⟩
          rw [hn] at hval
          have hn1 : (n : Int) ≤ 100000000000000000 := by omega
          have HN2 := Lib.hid hn
          rw [hn]
          have w1 : IntKind.u8.wrap ((s[k].toNat : Int) - 48) = (s[k].toNat : Int) - 48 := IntWalk.u8_in _ (by omega)
          clear hatk hval hp17 hd hn
          go_wp2_with fail
          clear w1
          go_round
          case rel => exact ⟨k + 1, by go_num, by omega, by rw [HS.out, HN2.out]; congr 1; omega, HF.out⟩
          case measure => simp [intOf]; omega
      · obtain rfl : k = s.size := by omega
        have hks' : ¬ (s.size : Int) < (s.size : Int) := by omega
        have ht : (bytesS s).take s.size = bytesS s := List.take_of_length_le (by rw [bytesS_len]; omega)
        have HE : Hid (numL (bytesS s) = some (valL (bytesS s) : Int)) := Lib.hid (by rw [HN.out, digsL_good (by rw [bytesS_len]; omega) (by rw [bytesS_len]; omega) (fun j d hd => HALL.out j d (by have := (List.getElem?_eq_some_iff.1 hd).1; rw [bytesS_len] at this; omega) hd)])
        have hp18 : 10 ^ s.size ≤ 10 ^ 18 := Nat.pow_le_pow_right (by omega) (by omega)
        rw [ht] at hval ⊢
        obtain ⟨n, hn⟩ : ∃ n, valL (bytesS s) = n := ⟨_, rfl⟩
        rw [hn] at hval ⊢
        have hn1 : (n : Int) ≤ 1000000000000000000 := by omega
        have HN2 := Lib.hid hn
        clear hval hp18 ht hn
        go_wp2_with fail
        go_ret2
        exact ⟨by rw [HE.out, HN2.out]; rfl, rfl⟩


end Go.Proofs.Ytofnomkedpagfaa
end
section
namespace Go.Proofs.Ytofnomkedpagfaa
open Go.RowKit

noncomputable def parseA : Code := down [1, 1, 0, 0, 0] (Try.f32.body.getD .skip)
noncomputable def parseB : Code := down [1, 1, 1, 0, 0, 0] (Try.f32.body.getD .skip)
noncomputable def parseC : Code := down [1, 1, 1, 1, 1, 1, 1, 1, 0, 1, 0, 0] (Try.f32.body.getD .skip)
noncomputable def parseD : Code := down [1, 0, 0, 1, 1, 1, 0, 1, 0, 0] parseC

/-- Parse's frame: what is read later stands as it is, all else is any. -/
def frP (s : ByteArray) (b : Nat) (v6 v7 v8 v9 v10 v11 : Value) (u : Nat → Value) : Act := ⟨#[.string s, u 1, .pointer (some ⟨b, 0, none⟩), .bool false, .pointer (some ⟨b + 1, 0, none⟩), u 5, v6, v7, v8, v9, v10, v11, u 12, u 13, u 14, u 15, u 16, u 17, u 18, u 19, u 20, u 21, u 22, u 23, u 24, u 25, u 26, u 27, u 28, u 29, u 30, u 31, u 32, u 33, u 34, u 35, u 36, u 37, u 38, u 39, u 40, u 41, u 42, u 43, u 44, u 45, u 46, u 47, u 48, u 49, u 50, u 51, u 52, u 53, u 54, u 55, u 56, u 57, u 58, u 59, u 60, u 61, u 62, u 63, u 64, u 65, u 66, u 67, u 68, u 69, u 70, u 71, u 72, u 73, u 74, u 75, u 76, u 77, u 78, u 79, u 80, u 81, u 82, u 83, u 84, u 85, u 86, u 87, u 88, u 89, u 90, u 91, u 92, u 93, u 94, u 95, u 96, u 97, u 98, u 99, u 100, u 101, u 102, u 103, u 104, u 105, u 106, u 107, u 108, u 109, u 110, u 111, u 112, u 113, u 114, u 115, u 116, u 117, u 118, u 119, u 120, u 121, u 122, u 123, u 124, u 125, u 126, u 127, u 128, u 129, u 130, u 131, u 132, u 133, u 134, u 135, u 136, u 137, u 138, u 139, u 140, u 141, u 142, u 143, u 144, u 145, u 146, u 147, u 148, u 149, u 150, u 151, u 152, u 153, u 154, u 155, u 156, u 157, u 158, u 159, u 160, u 161, u 162, u 163, u 164, u 165, u 166, u 167, u 168, u 169, u 170, u 171, u 172, u 173, u 174, u 175, u 176, u 177, u 178, u 179, u 180, u 181, u 182, u 183, u 184, u 185, u 186, u 187, u 188, u 189, u 190, u 191, u 192, u 193, u 194], []⟩
/-- The same where it returns. -/
def frQ (b : Nat) (ok : Bool) (u : Nat → Value) : Act := ⟨#[u 0, u 1, .pointer (some ⟨b, 0, none⟩), .bool ok, u 4, u 5, u 6, u 7, u 8, u 9, u 10, u 11, u 12, u 13, u 14, u 15, u 16, u 17, u 18, u 19, u 20, u 21, u 22, u 23, u 24, u 25, u 26, u 27, u 28, u 29, u 30, u 31, u 32, u 33, u 34, u 35, u 36, u 37, u 38, u 39, u 40, u 41, u 42, u 43, u 44, u 45, u 46, u 47, u 48, u 49, u 50, u 51, u 52, u 53, u 54, u 55, u 56, u 57, u 58, u 59, u 60, u 61, u 62, u 63, u 64, u 65, u 66, u 67, u 68, u 69, u 70, u 71, u 72, u 73, u 74, u 75, u 76, u 77, u 78, u 79, u 80, u 81, u 82, u 83, u 84, u 85, u 86, u 87, u 88, u 89, u 90, u 91, u 92, u 93, u 94, u 95, u 96, u 97, u 98, u 99, u 100, u 101, u 102, u 103, u 104, u 105, u 106, u 107, u 108, u 109, u 110, u 111, u 112, u 113, u 114, u 115, u 116, u 117, u 118, u 119, u 120, u 121, u 122, u 123, u 124, u 125, u 126, u 127, u 128, u 129, u 130, u 131, u 132, u 133, u 134, u 135, u 136, u 137, u 138, u 139, u 140, u 141, u 142, u 143, u 144, u 145, u 146, u 147, u 148, u 149, u 150, u 151, u 152, u 153, u 154, u 155, u 156, u 157, u 158, u 159, u 160, u 161, u 162, u 163, u 164, u 165, u 166, u 167, u 168, u 169, u 170, u 171, u 172, u 173, u 174, u 175, u 176, u 177, u 178, u 179, u 180, u 181, u 182, u 183, u 184, u 185, u 186, u 187, u 188, u 189, u 190, u 191, u 192, u 193, u 194], []⟩
theorem frP_of {s : ByteArray} {b : Nat} {v6 v7 v8 v9 v10 v11 : Value} {a : Act} (h : a = frP s b v6 v7 v8 v9 v10 v11 (lett a)) : ∃ u, a = frP s b v6 v7 v8 v9 v10 v11 u := ⟨_, h⟩
theorem frQ_of {b : Nat} {ok : Bool} {a : Act} (h : a = frQ b ok (lett a)) : ∃ u, a = frQ b ok u := ⟨_, h⟩

/-- The line's variable holds x; the result's is as it was made. -/
structure VarL (w wr : World) (x : Ln) : Prop where
  var : wr.heap[w.heap.size + 1]? = some (.cells #[.string (strS x.label), .int .i64 x.op, .int .i64 x.a, .int .i64 x.b, .int .i64 x.c, .int .i64 x.n, .string (strS x.target)] 89 (0, 0))
  res : wr.heap[w.heap.size]? = some (.cells #[.string (strS []), .int .i64 0, .int .i64 0, .int .i64 0, .int .i64 0, .int .i64 0, .string (strS [])] 89 (0, 0))
  kept : Kept (fun _ => False) w wr
theorem VarL.on {w wr w' : World} {x : Ln} (h : VarL w wr x) (hk : Kept (fun _ => False) wr w') : VarL w w' x :=
  ⟨(hk.block _ (Array.getElem?_eq_some_iff.1 h.var).1 (fun f => f)).trans h.var, (hk.block _ (Array.getElem?_eq_some_iff.1 h.res).1 (fun f => f)).trans h.res, h.kept.trans hk (fun _ _ f => f)⟩
/-- One of the line's cells is stored. -/
theorem VarL.set {w wr : World} {x x' : Ln} {o : Nat} {v : Value} (h : VarL w wr x) (he : (#[.string (strS x.label), .int .i64 x.op, .int .i64 x.a, .int .i64 x.b, .int .i64 x.c, .int .i64 x.n, .string (strS x.target)] : Array Value).setIfInBounds o v = #[.string (strS x'.label), .int .i64 x'.op, .int .i64 x'.a, .int .i64 x'.b, .int .i64 x'.c, .int .i64 x'.n, .string (strS x'.target)]) :
    VarL w (wr.setCell ⟨w.heap.size + 1, o, none⟩ v) x' := by
  have hk : Kept (fun q => q = w.heap.size + 1) wr (wr.setCell ⟨w.heap.size + 1, o, none⟩ v) := (Kept.refl _ wr).setCell _ _ (fun _ => rfl)
  refine ⟨by rw [set_cellB h.var, he], (hk.block _ (Array.getElem?_eq_some_iff.1 h.res).1 (fun e => by omega)).trans h.res, h.kept.trans hk (fun q hq e => by omega)⟩

/-- How it ends. -/
def FinL (w : World) (l : Str) (ok : Bool) (w' : World) : Prop :=
  Kept (fun _ => False) w w' ∧ ∃ x : Ln, w'.heap[w.heap.size]? = some (.cells #[.string (strS x.label), .int .i64 x.op, .int .i64 x.a, .int .i64 x.b, .int .i64 x.c, .int .i64 x.n, .string (strS x.target)] 89 (0, 0)) ∧ parseL l = (if ok then some x else none) ∧ (ok = false → x = zeroLn)
def RetL (w : World) (l : Str) (Q : Exit → Act → World → Prop) : Prop := ∀ a w' ok, (∃ u, a = frQ w.heap.size ok u) → FinL w l ok w' → Q .ret a w'

/-- It returns what the variable holds. -/
theorem VarL.yes {w wr : World} {x : Ln} {l : Str} (h : VarL w wr x) (hp : parseL l = some x) : FinL w l true (set7 wr w.heap.size (.string (strS x.label)) (.int .i64 x.op) (.int .i64 x.a) (.int .i64 x.b) (.int .i64 x.c) (.int .i64 x.n) (.string (strS x.target))) :=
  ⟨set7_kept (Nat.le_refl _) h.kept, x, set7_at h.res, hp, fun e => by cases e⟩
/-- It returns nothing. -/
theorem VarL.no {w wr : World} {x : Ln} {l : Str} (h : VarL w wr x) (hp : parseL l = none) : FinL w l false (set7 wr w.heap.size (.string (strS [])) (.int .i64 0) (.int .i64 0) (.int .i64 0) (.int .i64 0) (.int .i64 0) (.string (strS []))) :=
  ⟨set7_kept (Nat.le_refl _) h.kept, zeroLn, set7_at h.res, hp, fun _ => rfl⟩

end Go.Proofs.Ytofnomkedpagfaa
end
