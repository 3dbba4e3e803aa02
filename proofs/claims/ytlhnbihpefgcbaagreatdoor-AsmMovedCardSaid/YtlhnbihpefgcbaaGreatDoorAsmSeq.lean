/-
  What the library's SplitSeq at a new line comes to: a text's lines, one behind the other.
  Conditions: a text of at most 100000 bytes.
-/
import Derived.Test.YtlhnbihpefgcbaaGreatDoorAsmRange
import Derived.Test.YtlhnbihpefgcbaaGreatDoorAsmLines
import Derived.Test.YtlhnbihpefgcbaaGreatDoorLays
import Derived.Shelf.Strings.Search3
import Derived.WalkKit
import Derived.ProofKit
import Derived.Shelf.Abstract
import Derived.Shelf.RegionOpen
import Derived.OwnWalkIn
import Derived.TacticsInMore
import Derived.LoopIn
namespace Go.Proofs.YtlhnbihpefgcbaaGreatDoor
open Go.RowKit Go.Shelf
attribute [local go_sem] Oper.semAt_some

/-- SplitSeq's three variables: the text, the separator, how much of it stays. -/
def seqU (g : Nat) (k : Nat) : Prop := k = g ∨ k = g + 1 ∨ k = g + 2
@[reducible] def seqV (g : Nat) : Value := .func (.func 43) #[] #[.pointer (some ⟨g + 1, 0, none⟩), .pointer (some ⟨g, 0, none⟩), .pointer (some ⟨g + 2, 0, none⟩)]
def seqW (w : World) (z : Str) : World := ((w.alloc (.cells #[.string (strS z)] 9)).alloc (.cells #[.string ⟨#[10]⟩] 9)).alloc (.cells #[.int .i64 0] 3)
theorem splitSeq_any (z : Str) (w : World) : Calls Tryz.prog 17 #[.string (strS z), .string ⟨#[10]⟩] w fun e w' => e = .returned (seqV w.heap.size) ∧ w' = seqW w z := by
  have HS : Hid (∀ w, Calls Tryz.prog 26 #[.string (strS z), .string ⟨#[10]⟩, .int .i64 0] w fun e w' => e = .returned (seqV w.heap.size) ∧ w' = seqW w z) := Lib.hid (fun w => by
    go_enter Tryz.func26, Tryz.ntmps26
    go_wp2_with fail
    go_ret
    exact ⟨rfl, rfl⟩)
  go_enter Tryz.func17, Tryz.ntmps17
  go_wp2_with fail
  refine (HS.out _).mono ?_
  rintro e w' ⟨rfl, rfl⟩
  go_wp2_with fail
  go_ret
  exact ⟨rfl, rfl⟩

theorem newline_any (s : ByteArray) (w : World) {i : Int} (hi : Lib.indexByte (bytesS s) 10 = i) : Calls Tryz.prog 45 #[.string s, .string ⟨#[10]⟩] w fun e w' => e = .returned (.int .i64 i) ∧ w' = w :=
  (Any.strings_Index_one Tryz.lays143 s 10 w).mono fun e w' ⟨h1, h2⟩ => ⟨by rw [h1, ← hi]; rfl, h2⟩

theorem index_lines : ∀ l : Str, (Lib.indexByte l 10 = -1 ∧ linesL l = [l]) ∨ ∃ i : Nat, Lib.indexByte l 10 = i ∧ i < l.length ∧ linesL l = l.take i :: linesL (l.drop (i + 1))
  | [] => .inl ⟨rfl, rfl⟩
  | c :: l => by
    by_cases h : c.toNat = 10
    · have e : c = 10 := UInt8.toNat.inj (by rw [h]; rfl)
      subst e
      exact .inr ⟨0, rfl, by simp, by rw [lines_new _ _ h]; rfl⟩
    · have e : (c == 10) = false := by rw [beq_eq_false_iff_ne]; intro e; subst e; exact h rfl
      obtain ⟨a, b, h1, h2⟩ := lines_cons c l h
      rcases index_lines l with ⟨h3, h4⟩ | ⟨i, h3, h4, h5⟩
      · left
        rw [h4] at h1
        injection h1 with h1 h6
        subst h1; subst h6
        refine ⟨?_, h2⟩
        unfold Lib.indexByte
        rw [e, h3]
        rfl
      · right
        rw [h5] at h1
        injection h1 with h1 h6
        refine ⟨i + 1, ?_, by simp; omega, ?_⟩
        · unfold Lib.indexByte
          rw [e, h3]
          have : ((i : Int) == -1) = false := by rw [beq_eq_false_iff_ne]; omega
          rw [this]
          simp
        · rw [h2, ← h1, ← h6]
          rfl

/-- How much of the text is left. -/
def leftZ (g : Nat) (w : World) : Nat := match w.cell? ⟨g, 0, none⟩ with
  | some (.string s) => s.size
  | _ => 0
theorem left_is {g : Nat} {w : World} {s : ByteArray} (h : w.cell? ⟨g, 0, none⟩ = some (.string s)) : leftZ g w = s.size := by unfold leftZ; rw [h]

/-- What the iterator's variables hold. -/
structure SeqAt (g : Nat) (w : World) (s : ByteArray) : Prop where
  text : w.heap[g]? = some (.cells #[.string s] 9 (0, 0))
  sep : w.heap[g + 1]? = some (.cells #[.string ⟨#[10]⟩] 9 (0, 0))
  save : w.heap[g + 2]? = some (.cells #[.int .i64 0] 3 (0, 0))
theorem SeqAt.on {g : Nat} {w w' : World} {s : ByteArray} (h : SeqAt g w s) (hu : ∀ k, seqU g k → w'.heap[k]? = w.heap[k]?) : SeqAt g w' s :=
  ⟨(hu _ (.inl rfl)).trans h.text, (hu _ (.inr (.inl rfl))).trans h.sep, (hu _ (.inr (.inr rfl))).trans h.save⟩
theorem SeqAt.set {g : Nat} {w : World} {s : ByteArray} (h : SeqAt g w s) (t : ByteArray) : SeqAt g (w.setCell ⟨g, 0, none⟩ (.string t)) t ∧ Kept (seqU g) w (w.setCell ⟨g, 0, none⟩ (.string t)) := by
  have k : Kept (fun k => k = g) w (w.setCell ⟨g, 0, none⟩ (.string t)) := (Kept.refl _ w).setCell _ _ (fun _ => rfl)
  refine ⟨⟨?_, k.at_ h.sep (by omega), k.at_ h.save (by omega)⟩, k.mono (fun _ _ e => .inl e)⟩
  have := h.text
  simp [World.setCell, this, Array.getElem?_modify]

theorem seq_gives (z : Str) (hz : z.length ≤ 100000) (g : Nat) (W0 : World) (h : SeqAt g W0 (strS z)) :
    Gives Tryz.prog 3 43 #[.pointer (some ⟨g + 1, 0, none⟩), .pointer (some ⟨g, 0, none⟩), .pointer (some ⟨g + 2, 0, none⟩)] (seqU g) (linesL z) W0 := by
  intro l J Jx W hU hJ hY hj0
  have h1 := h.on hU
  have HJ := Lib.hid hJ
  have HY := Lib.hid hY
  clear hJ hY hU h
  have a1 : W.cell? ⟨g + 1, 0, none⟩ = some (.string ⟨#[10]⟩) := by rw [cell_at W _ 0 _ _ h1.sep]; rfl
  have H1 := Lib.hid h1
  refine callsIn_of_wp Tryz.func43 rfl trivial ?_ rfl
  simp only [Tryz.ntmps43, List.size_toArray, List.length_cons, List.length_nil, Nat.reduceAdd, Nat.reduceSub, Array.replicate_succ, Array.replicate_zero, List.push_toArray, List.append_toArray, List.nil_append, List.cons_append]
  gi_wp2
  gi_loopw [7] (fun _ wr => ∃ (i : Nat) (s : ByteArray), (linesL z).drop i = linesL (bytesS s) ∧ s.size ≤ 100000 ∧ SeqAt g wr s ∧ J i wr) (fun _ wr => leftZ g wr)
  case atStart => exact ⟨0, strS z, rfl, by rw [strS_size]; exact hz, H1.out, hj0⟩
  case round =>
    obtain ⟨i, s, hd, hs, hsq, hj⟩ := hrel
    have c0 : wr.cell? ⟨g, 0, none⟩ = some (.string s) := by rw [cell_at wr _ 0 _ _ hsq.text]; rfl
    have c1 : wr.cell? ⟨g + 1, 0, none⟩ = some (.string ⟨#[10]⟩) := by rw [cell_at wr _ 0 _ _ hsq.sep]; rfl
    have c2 : wr.cell? ⟨g + 2, 0, none⟩ = some (.int .i64 0) := by rw [cell_at wr _ 0 _ _ hsq.save]; rfl
    have HSQ := Lib.hid hsq
    have HD := Lib.hid hd
    have HJI := Lib.hid hj
    clear hsq hd hj a1
    rcases index_lines (bytesS s) with ⟨hi, hl⟩ | ⟨k, hi, hk, hl⟩
    · have HI := Lib.hid (newline_any s wr hi)
      rw [hl] at HD
      have hx : (linesL z)[i]? = some (bytesS s) := by
        have := congrArg (·[0]?) HD.out
        simpa using this
      have hlen : (linesL z).length = i + 1 := by
        have := congrArg List.length HD.out
        have := (List.getElem?_eq_some_iff.1 hx).1
        simp at *; omega
      obtain ⟨fn, tmps, assign, body, hy, hR⟩ := HY.out i _ wr HJI.out hx
      rw [strS_bytes] at hy
      have HR := Lib.hid hR
      have HLEN := Lib.hid hlen
      clear hi hl hx hlen hR
      gi_wp2
      refine ⟨trivial, (callsIn_wide.2 HI.out).mono ?_⟩
      rintro e w' ⟨rfl, hw'⟩
      subst w'
      gi_wp2
      refine HR.out.mono ?_
      rintro e W3 (⟨rfl, hj3, hu3⟩ | ⟨rfl, hx3⟩)
      · have HF := Lib.hid (show J (linesL z).length W3 by rw [HLEN.out]; exact hj3)
        clear hj3 hu3
        gi_wp2
        go_end0
        exact ⟨⟨_, rfl⟩, .inl HF.out⟩
      · gi_wp2
        go_end0
        exact ⟨⟨_, rfl⟩, .inr hx3⟩
    · have HI := Lib.hid (newline_any s wr hi)
      rw [bytesS_len] at hk
      have hx : (linesL z)[i]? = some ((bytesS s).take k) := by
        have := congrArg (·[0]?) (HD.out.trans hl)
        simpa using this
      have HD2 : Hid ((linesL z).drop (i + 1) = linesL (bytesS (s.extract (k + 1) s.size))) := Lib.hid (by
        have := congrArg (List.drop 1) (HD.out.trans hl)
        rw [List.drop_drop] at this
        rw [bytesS_cut, List.take_of_length_le (by rw [List.length_drop, bytesS_len]; omega)]
        simpa using this)
      obtain ⟨fn, tmps, assign, body, hy, hR⟩ := HY.out i _ wr HJI.out hx
      have he : strS ((bytesS s).take k) = s.extract 0 k := bytesS_inj (by rw [bytesS_cut, bytesS_str]; simp)
      rw [he] at hy
      have HR := Lib.hid hR
      have hk' : (k : Int) < (s.size : Int) := by omega
      have hs' : (s.size : Int) ≤ 100000 := by omega
      have hk0 : ¬ ((k : Int) < 0) := by omega
      clear hi hl hx hR he
      gi_wp2
      refine ⟨trivial, (callsIn_wide.2 HI.out).mono ?_⟩
      rintro e w' ⟨rfl, hw'⟩
      subst w'
      gi_wp2
      refine HR.out.mono ?_
      rintro e W3 (⟨rfl, hj3, hu3⟩ | ⟨rfl, hx3⟩)
      · have hsq3 := HSQ.out.on hu3
        have d0 : W3.cell? ⟨g, 0, none⟩ = some (.string s) := by rw [cell_at W3 _ 0 _ _ hsq3.text]; rfl
        have d1 : W3.cell? ⟨g + 1, 0, none⟩ = some (.string ⟨#[10]⟩) := by rw [cell_at W3 _ 0 _ _ hsq3.sep]; rfl
        have f0 : W3.frozen? ⟨g, 0, none⟩ = false := frozen_at W3 _ 0 _ _ hsq3.text
        have HS3 := Lib.hid (hsq3.set (s.extract (k + 1) s.size))
        have HJ3 := Lib.hid hj3
        have hk1 : (k : Int) + 1 ≤ (s.size : Int) := by omega
        clear hsq3 hu3 hj3 hy HR
        gi_wp2
        go_roundw
        case rel => exact ⟨i + 1, _, HD2.out, by simp; omega, HS3.out.1, HJ.out _ _ _ HJ3.out HS3.out.2⟩
        case measure =>
          rw [left_is c0, left_is (s := s.extract (k + 1) s.size) (by rw [cell_at _ _ 0 _ _ HS3.out.1.text]; rfl)]
          simp
          omega
      · gi_wp2
        refine bodyPost_ret (results_none rfl _ _ _) rfl ?_
        exact ⟨⟨_, rfl⟩, .inr hx3⟩

end Go.Proofs.YtlhnbihpefgcbaaGreatDoor
