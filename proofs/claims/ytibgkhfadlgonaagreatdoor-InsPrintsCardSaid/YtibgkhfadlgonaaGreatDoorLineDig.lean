/-
  What the document's Digits of layer 7 come to.
  Conditions: none on the strings but that they are strings.
-/
import Derived.Test.YtibgkhfadlgonaaGreatDoorLineStr
import Derived.Laws.BytesArg
import Derived.Lib.Bytes
import Derived.Deep.RegionHeld3
namespace Go.Proofs.YtibgkhfadlgonaaGreatDoor
open Go.RowKit


/-- A slice of one byte as a string. -/
theorem conv_one {w : World} {g : Nat} {c : Int} (h : w.cell? ⟨g, 0, none⟩ = some (.int .u8 c)) : (convert 59 9 (.slice (some ⟨g, 0, none⟩) 1 1)).run Tryz.prog w = .ok (.string (strS [UInt8.ofNat c.toNat])) w := by
  have hl : (loadCells ⟨g, 0, none⟩ 1).run Tryz.prog w = .ok (#[Value.int .u8 c]) w := by
    have := run_loadCells_list (P := Tryz.prog) w ⟨g, 0, none⟩ [Value.int .u8 c] (fun j v hj => by
      match j, hj with
      | 0, hj => simp only [List.getElem?_cons_zero, Option.some.injEq] at hj; subst hj; exact h)
    simpa using this
  have hl2 : (loadCells ⟨g, 0, none⟩ 1).run Tryz.prog w = .ok (([c]).map (Value.int .u8)).toArray w := hl
  rw [run_convert_bytes_string w _ _ 5 _ _ _ Tryz.underlying59 Tryz.underlying5 Tryz.underlying9, run_bytesToString w _ _ 1 _ hl2]
  rfl
theorem conv_new (c : Int) (w : World) : (convert 59 9 (.slice (some ⟨w.heap.size, 0, none⟩) 1 1)).run Tryz.prog (w.alloc (.cells #[.int .u8 c] 5)) = .ok (.string (strS [UInt8.ofNat c.toNat])) (w.alloc (.cells #[.int .u8 c] 5)) :=
  conv_one (by rw [cell_at _ _ 0 _ _ (heap_new1 w _)]; rfl)
theorem conv_kept {c : Int} {w w' : World} (hk : Kept (fun _ => False) (w.alloc (.cells #[.int .u8 c] 5)) w') : (convert 59 9 (.slice (some ⟨w.heap.size, 0, none⟩) 1 1)).run Tryz.prog w' = .ok (.string (strS [UInt8.ofNat c.toNat])) w' :=
  conv_one (by rw [cell_at _ _ 0 _ _ ((hk.block w.heap.size (by simp) (fun f => f)).trans (heap_new1 w _))]; rfl)

/-- What a string's making leaves. -/
def StrTo (w : World) (l : Str) (e : Ending) (w' : World) : Prop := e = .returned (.string (strS l)) ∧ Kept (fun _ => False) w w'

set_option maxHeartbeats 600000 in
theorem refDigits_nat : ∀ (f n : Nat), n < 10 ^ f → 1 ≤ f → f ≤ 18 → ∀ (w : World), Calls Tryz.prog 24 #[.int .i64 (n : Int)] w (StrTo w (decN n)) := by
  intro f
  induction f with
  | zero => intro n _ h; omega
  | succ f ih =>
    intro n hn _ hf w
    have hp18 : 10 ^ (f + 1) ≤ 10 ^ 18 := Nat.pow_le_pow_right (by omega) hf
    have hn18 : (n : Int) ≤ 1000000000000000000 := by omega
    have h0 : ¬ (n : Int) < 0 := by omega
    by_cases h10 : n < 10
    · obtain ⟨ch, hch⟩ : ∃ ch, UInt8.ofNat (48 + n) = ch := ⟨_, rfl⟩
      have e : decN n = [ch] := by unfold decN decF; rw [if_pos h10, hch]
      have e2 : (48 + (n : Int)).toNat = 48 + n := by omega
      have h10' : (n : Int) < 10 := by omega
      have hc := conv_new (48 + (n : Int)) w
      rw [e2, hch] at hc
      have HF := Lib.hid (show StrTo w (decN n) (.returned (.string (strS [ch]))) (w.alloc (.cells #[.int .u8 (48 + (n : Int))] 5)) from ⟨by rw [e], (Kept.refl _ w).alloc _⟩)
      clear e e2 hn hp18 ih h10 hch
      go_enter Tryz.func24, Tryz.ntmps24
      go_wp2_with fail
      go_ret
      exact HF.out
    · have hf1 : 1 ≤ f := by
        rcases Nat.eq_zero_or_pos f with h | h
        · subst h; simp at hn; omega
        · exact h
      have hn2 : n / 10 < 10 ^ f := by rw [Nat.pow_succ] at hn; omega
      have e : decN n = decN (n / 10) ++ [UInt8.ofNat (48 + n % 10)] := by
        show decF 20 n = decF 20 (n / 10) ++ _
        rw [decF_more 19 20 (n / 10) (by omega) (by omega) (by omega)]
        conv => lhs; unfold decF
        rw [if_neg h10]
      have h10' : ¬ (n : Int) < 10 := by omega
      have q1 : (n : Int).tdiv 10 = ((n / 10 : Nat) : Int) := by rw [Int.tdiv_eq_ediv_of_nonneg (by omega)]; omega
      have q2 : (n : Int).tmod 10 = ((n % 10 : Nat) : Int) := by rw [Int.tmod_eq_emod_of_nonneg (by omega)]; omega
      obtain ⟨d, hd⟩ : ∃ d, n / 10 = d := ⟨_, rfl⟩
      obtain ⟨m, hm⟩ : ∃ m, n % 10 = m := ⟨_, rfl⟩
      obtain ⟨ch, hch⟩ : ∃ ch, UInt8.ofNat (48 + m) = ch := ⟨_, rfl⟩
      rw [hd] at hn2 e q1
      rw [hm] at e q2
      rw [hch] at e
      have hm9 : (m : Int) ≤ 9 := by omega
      have e2 : (48 + (m : Int)).toNat = 48 + m := by omega
      have w1 : IntKind.i64.wrap (48 + (m : Int)) = 48 + (m : Int) := IntWalk.i64_in _ (by omega)
      have w2 : IntKind.u8.wrap (48 + (m : Int)) = 48 + (m : Int) := IntWalk.u8_in _ (by omega)
      have hlen : (decN d).length ≤ 18 := decN_len (Nat.lt_of_lt_of_le hn2 (Nat.pow_le_pow_right (by omega) (by omega)))
      have hadd : ∀ (w' : World), (Op.stringOp .add (strS (decN d)) (strS [ch])).run Tryz.prog w' = .ok (.string (strS (decN n))) w' := fun w' => by
        rw [run_string_add_sum w' _ _ (by rw [strS_size, strS_size]; simp; omega), strS_add, e]
      have HIH := Lib.hid (fun w => ih d hn2 hf1 (by omega) w)
      have hcv : ∀ (w' : World), (convert 59 9 (.slice (some ⟨w'.heap.size, 0, none⟩) 1 1)).run Tryz.prog (w'.alloc (.cells #[.int .u8 (48 + (m : Int))] 5)) = .ok (.string (strS [ch])) (w'.alloc (.cells #[.int .u8 (48 + (m : Int))] 5)) := fun w' => by
        have := conv_new (48 + (m : Int)) w'
        rwa [e2, hch] at this
      have hcv2 : ∀ (w' : World), (convert 59 9 (.slice (some ⟨w'.heap.size, 0, none⟩) 1 1)).run Tryz.prog (w'.alloc (.cells #[.int .u8 (48 + (m : Int))] 5)).drew = .ok (.string (strS [ch])) (w'.alloc (.cells #[.int .u8 (48 + (m : Int))] 5)).drew := fun w' => by
        have := conv_kept (Kept.refl _ (w'.alloc (.cells #[.int .u8 (48 + (m : Int))] 5))).drew
        rwa [e2, hch] at this
      have HCK := Lib.hid (fun (w0 w' : World) (hk : Kept (fun _ => False) (w0.alloc (.cells #[.int .u8 (48 + (m : Int))] 5)).drew w') (g : Nat) (hg : g = w0.heap.size) => (by
        have := conv_kept ((Kept.refl _ (w0.alloc (.cells #[.int .u8 (48 + (m : Int))] 5))).drew.trans hk (fun _ _ f => f))
        rwa [e2, hch, ← hg] at this : (convert 59 9 (.slice (some ⟨g, 0, none⟩) 1 1)).run Tryz.prog w' = .ok (.string (strS [ch])) w'))
      have HD18 : Hid (d ≤ 1000000000000000000) := Lib.hid (by omega)
      clear e e2 hn hp18 ih h10 hlen hn2 hf1 hd hm hch
      go_enter Tryz.func24, Tryz.ntmps24
      go_wp2_with fail
      have w3 : IntKind.i64.wrap (d : Int) = (d : Int) := IntWalk.i64_in _ ⟨by omega, by have := HD18.out; omega⟩
      go_region_with ((go_at_call 24; (with_reducible refine (HIH.out _).mono ?_); rintro e w6 ⟨rfl, hk6⟩; have HK6 := Lib.hid hk6; (try have ck6 := HCK.out _ _ hk6 w.heap.size rfl); clear hk6))
      all_goals
        first
          | (have HK9 : Hid (Kept (fun _ => False) w (w6.alloc (.cells #[.int .u8 (48 + (m : Int))] 5))) := Lib.hid (((Kept.refl _ w).drew.trans HK6.out (fun _ _ f => f)).alloc _))
          | (have HK9 : Hid (Kept (fun _ => False) w w6) := Lib.hid (((Kept.refl _ w).alloc _).drew.trans HK6.out (fun _ _ f => f)))
        clear HK6
        go_wp2_with fail
        go_ret
        exact ⟨rfl, HK9.out⟩

theorem small_ends {v : Int} (h : small v = true) : -999999999999999999 ≤ v ∧ v ≤ 999999999999999999 := by
  unfold small at h
  simpa only [Bool.and_eq_true, decide_eq_true_eq] using h

set_option maxHeartbeats 600000 in
theorem refDigits_any (v : Int) (hv : small v = true) (w : World) : Calls Tryz.prog 24 #[.int .i64 v] w (StrTo w (decI v)) := by
  obtain ⟨h1, h2⟩ := small_ends hv
  clear hv
  by_cases h0 : v < 0
  · obtain ⟨n, hn⟩ : ∃ n : Nat, -v = (n : Int) := ⟨(-v).toNat, by omega⟩
    have e : decI v = 45 :: decN n := by
      unfold decI
      rw [if_pos h0, hn]; rfl
    have hlen : (decN n).length ≤ 18 := decN_len (by omega)
    have hadd : ∀ (w' : World), (Op.stringOp .add ({ data := #[45] } : ByteArray) (strS (decN n))).run Tryz.prog w' = .ok (.string (strS (decI v))) w' := fun w' => by
      have := run_string_add_sum (P := Tryz.prog) w' (strS [45]) (strS (decN n)) (by rw [strS_size, strS_size]; simp; omega)
      rw [strS_add] at this
      rw [e]; exact this
    have HD := Lib.hid (refDigits_nat 18 n (by omega) (by omega) (by omega) w)
    clear hlen e
    go_enter Tryz.func24, Tryz.ntmps24
    go_wp2_with fail
    refine (HD.out).mono ?_
    rintro e w1 ⟨rfl, hk⟩
    have HK := Lib.hid hk
    clear hk
    go_wp2_with fail
    go_ret
    exact ⟨rfl, HK.out⟩
  · obtain ⟨n, rfl⟩ : ∃ n : Nat, v = (n : Int) := ⟨v.toNat, by omega⟩
    have e : decI (n : Int) = decN n := by
      unfold decI
      rw [if_neg h0]; rfl
    rw [e]
    exact refDigits_nat 18 n (by omega) (by omega) (by omega) w

end Go.Proofs.YtibgkhfadlgonaaGreatDoor
