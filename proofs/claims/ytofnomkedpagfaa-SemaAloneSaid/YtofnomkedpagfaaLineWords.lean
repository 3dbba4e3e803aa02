/-
  What the document's words of layer 7 come to.
  Conditions: none on the strings but that they are strings.
-/
import Derived.Test.YtofnomkedpagfaaLineSplit
namespace Go.Proofs.Ytofnomkedpagfaa
open Go.RowKit

theorem words_step {l : Str} {f i : Nat} (hf : f ≤ i) (hi : l[i]? = some 32) (hno : ∀ (j : Nat) (d : UInt8), f ≤ j → j < i → l[j]? = some d → d.toNat ≠ 32) :
    wordsL (l.drop f) = (l.drop f).take (i - f) :: wordsL (l.drop (i + 1)) := by
  have e : l.drop f = (l.drop f).take (i - f) ++ 32 :: l.drop (i + 1) := by
    have h1 : l.drop i = 32 :: l.drop (i + 1) := by
      obtain ⟨h1, h2⟩ := List.getElem?_eq_some_iff.1 hi
      rw [← h2]; exact List.drop_eq_getElem_cons h1
    rw [← h1]
    have h2 : (l.drop f).drop (i - f) = l.drop i := by rw [List.drop_drop]; congr 1; omega
    rw [← h2, List.take_append_drop]
  conv => lhs; rw [e]
  refine words_next _ _ (fun c hc => ?_)
  obtain ⟨j, hj⟩ := List.getElem?_of_mem hc
  rw [List.getElem?_take] at hj
  split at hj
  · rw [List.getElem?_drop] at hj
    exact hno (f + j) c (by omega) (by omega) hj
  · cases hj
theorem words_end {l : Str} {f : Nat} (hno : ∀ (j : Nat) (d : UInt8), f ≤ j → j < l.length → l[j]? = some d → d.toNat ≠ 32) : wordsL (l.drop f) = [(l.drop f).take (l.length - f)] := by
  rw [List.take_of_length_le (by rw [List.length_drop]; omega)]
  refine words_one _ (fun c hc => ?_)
  obtain ⟨j, hj⟩ := List.getElem?_of_mem hc
  rw [List.getElem?_drop] at hj
  exact hno (f + j) c (by omega) (List.getElem?_eq_some_iff.1 hj).1 hj

/-- What words leaves: a row of strings in new memory. -/
def WordsTo (w : World) (ws : List Str) (e : Ending) (w' : World) : Prop := ∃ v, e = .returned v ∧ w'.ownsRow w.heap.size 9 1 v ws.length (flat sC ws) ∧ Kept (fun _ => False) w w'

/-- How it stands in words' loop. -/
def WordsAt (w : World) (l : Str) (v : Value) (f i : Nat) (wr : World) : Prop :=
  ∃ ws : List Str, wr.ownsRow w.heap.size 9 1 v ws.length (flat sC ws) ∧ Kept (fun _ => False) w wr ∧ ws.length ≤ i ∧ i ≤ l.length + 1 ∧
    ((i ≤ l.length ∧ f ≤ i ∧ wordsL l = ws ++ wordsL (l.drop f) ∧ ∀ (j : Nat) (d : UInt8), f ≤ j → j < i → l[j]? = some d → d.toNat ≠ 32) ∨ (i = l.length + 1 ∧ ws = wordsL l))

set_option maxRecDepth 100000 in
set_option maxHeartbeats 2000000 in
theorem refWords_any (s : ByteArray) (w : World) (hs : s.size ≤ 100000) : Calls Try.prog 39 #[.string s] w (WordsTo w (wordsL (bytesS s))) := by
  obtain ⟨i4, hi4, hz4, hn4, hb4⟩ := info_parts Try.infoStr
  have HI4 := Lib.hid hi4; clear hi4
  have HZ4 := Lib.hid hz4; clear hz4
  have HN4 := Lib.hid hn4; clear hn4
  have HB4 := Lib.hid hb4; clear hb4
  have HLEN : Hid ((bytesS s).length = s.size) := Lib.hid (bytesS_len s)
  go_enter Try.func39, Try.ntmps39
  go_wp2_with fail
  go_loopw [3, 4, 5] (fun v f i wr => ∃ f' i' : Nat, f = .int .i64 f' ∧ i = .int .i64 i' ∧ f' ≤ s.size + 1 ∧ WordsAt w (bytesS s) v f' i' wr) (fun _ _ i _ => s.size + 1 - (intOf i).toNat)
  case atStart => exact ⟨0, 0, rfl, rfl, by omega, [], World.ownsRow_nil _ _ _ _, Kept.refl _ _, by simp, by omega, .inl ⟨by omega, by omega, by simp, fun j d _ h => by omega⟩⟩
  case round =>
    obtain ⟨f, i, rfl, rfl, hf, ws, hown, hk, hwi, hi, hcase⟩ := hrel
    rw [HLEN.out] at hi hcase
    have HO := Lib.hid hown
    have HK := Lib.hid hk
    clear hown hk
    have hb0 : wr.heap.size ≥ w.heap.size := HK.out.size
    rcases hcase with ⟨hil, hfi, hws, hno⟩ | ⟨rfl, rfl⟩
    case inr =>
      have HF : Hid (∀ v, WordsTo w (wordsL (bytesS s)) (.returned v) wr → True) := Lib.hid (fun _ _ => trivial)
      have hn : ¬ ((s.size + 1 : Nat) : Int) ≤ (s.size : Int) := by omega
      have HR := Lib.hid (show WordsTo w (wordsL (bytesS s)) (.returned u3) wr from ⟨u3, rfl, HO.out, HK.out⟩)
      clear HF
      go_wp2_with fail
      go_ret
      exact HR.out
    have HWS := Lib.hid hws
    have HNO := Lib.hid hno
    clear hws hno
    have hil' : (i : Int) ≤ (s.size : Int) := by omega
    -- an append of the word from f to i
    have HEL : Hid (Elems (wr.alloc (.cells #[.string (s.extract f i)] 9)) (wr.heap.size + 1) (some ⟨wr.heap.size, 0, none⟩) 1 sC [bytesS (s.extract f i)]) := Lib.hid (Elems.block sC_one (heap_new1 wr _) rfl (by show 1 ≤ maxLen; decide))
    by_cases hie : i = s.size
    · have hie' : ((i : Int) == (s.size : Int)) = true := by rw [beq_iff_eq]; omega
      have HL : Hid (ws ++ [bytesS (s.extract f i)] = wordsL (bytesS s)) := Lib.hid (by
        rw [HWS.out, words_end (fun j d h1 h2 h3 => HNO.out j d h1 (by rw [HLEN.out] at h2; omega) h3), bytesS_cut, HLEN.out, hie])
      clear hie
      go_wp2_with (at_builtin; refine wpList_append_elems (ys := [bytesS (s.extract f i)]) _ rfl (.tmp 22) (.tmp 27) 28 rfl w.heap.size 9 i4 (.string { data := #[] }) 1 16 Try.underlying28 HI4.out HZ4.out HN4.out HB4.out rfl (by decide) sC_one (sC_cell _) u3 ws.length (flat sC ws) rfl ?c1 (wr.heap.size + 1) _ 1 rfl ?c2 ?c3 ?c4 ?c5 ?_)
      case c1 => exact HO.out.alloc _
      case c2 => exact HEL.out
      case c3 => show ws.length + 1 ≤ maxLen; unfold maxLen; omega
      case c4 => show (ws.length + 1) * 16 ≤ _; omega
      case c5 => simp; omega
      intro v' w2 h1 h2 h3
      have hk2 : Kept (fun _ => False) w w2 := (HK.out.alloc _).grown h2 (fun g hg e => by have := (World.ownsRow.lt HO.out g e).1; omega)
      have HF : Hid (WordsAt w (bytesS s) v' (i + 1) (i + 1) w2) := Lib.hid ⟨ws ++ [bytesS (s.extract f i)], by rw [List.length_append, sC_flat]; exact h1, hk2, by simp; omega, by rw [HLEN.out]; omega, .inr ⟨by rw [HLEN.out]; have : ((i : Int) == (s.size : Int)) = true := hie'; rw [beq_iff_eq] at this; omega, HL.out⟩⟩
      clear h1 h2 h3 hk2 HEL HL
      go_wp2_with fail
      go_roundw
      case rel => exact ⟨i + 1, i + 1, by go_num, by go_num, by omega, HF.out⟩
      case measure => simp [intOf]; omega
    · have hie' : ((i : Int) == (s.size : Int)) = false := by rw [beq_eq_false_iff_ne]; omega
      have his : i < s.size := by omega
      have hat := bytesS_at s i his
      by_cases hsp : s[i].toNat = 32
      · have hsp' : ((s[i].toNat : Int) == 32) = true := by rw [beq_iff_eq]; omega
        have hat2 : (bytesS s)[i]? = some 32 := by rw [hat]; congr 1; exact UInt8.toNat.inj (by rw [hsp]; rfl)
        have HL : Hid (wordsL (bytesS s) = (ws ++ [bytesS (s.extract f i)]) ++ wordsL ((bytesS s).drop (i + 1))) := Lib.hid (by
          rw [HWS.out, words_step hfi hat2 HNO.out, bytesS_cut, List.append_assoc]; rfl)
        clear hat hat2 hsp hie
        go_wp2_with (at_builtin; refine wpList_append_elems (ys := [bytesS (s.extract f i)]) _ rfl (.tmp 22) (.tmp 27) 28 rfl w.heap.size 9 i4 (.string { data := #[] }) 1 16 Try.underlying28 HI4.out HZ4.out HN4.out HB4.out rfl (by decide) sC_one (sC_cell _) u3 ws.length (flat sC ws) rfl ?c1 (wr.heap.size + 1) _ 1 rfl ?c2 ?c3 ?c4 ?c5 ?_)
        case c1 => exact HO.out.alloc _
        case c2 => exact HEL.out
        case c3 => show ws.length + 1 ≤ maxLen; unfold maxLen; omega
        case c4 => show (ws.length + 1) * 16 ≤ _; omega
        case c5 => simp; omega
        intro v' w2 h1 h2 h3
        have hk2 : Kept (fun _ => False) w w2 := (HK.out.alloc _).grown h2 (fun g hg e => by have := (World.ownsRow.lt HO.out g e).1; omega)
        have HF : Hid (WordsAt w (bytesS s) v' (i + 1) (i + 1) w2) := Lib.hid ⟨ws ++ [bytesS (s.extract f i)], by rw [List.length_append, sC_flat]; exact h1, hk2, by simp; omega, by rw [HLEN.out]; omega, .inl ⟨by rw [HLEN.out]; omega, by omega, HL.out, fun j d hj1 hj2 => by omega⟩⟩
        clear h1 h2 h3 hk2 HEL HL
        go_wp2_with fail
        go_roundw
        case rel => exact ⟨i + 1, i + 1, by go_num, by go_num, by omega, HF.out⟩
        case measure => simp [intOf]; omega
      · have hsp' : ((s[i].toNat : Int) == 32) = false := by rw [beq_eq_false_iff_ne]; omega
        have HF : Hid (WordsAt w (bytesS s) u3 f (i + 1) wr) := Lib.hid ⟨ws, HO.out, HK.out, by omega, by rw [HLEN.out]; omega, .inl ⟨by rw [HLEN.out]; omega, by omega, HWS.out, fun j d hj1 hj2 hj => by
          rcases Nat.lt_or_ge j i with h | h
          · exact HNO.out j d hj1 h hj
          · obtain rfl : j = i := by omega
            rw [hat] at hj
            simp only [Option.some.injEq] at hj
            rw [← hj]; exact hsp⟩⟩
        clear hat hsp hie HEL
        go_wp2_with fail
        go_roundw
        case rel => exact ⟨f, i + 1, rfl, by go_num, by omega, HF.out⟩
        case measure => simp [intOf]; omega


end Go.Proofs.Ytofnomkedpagfaa
