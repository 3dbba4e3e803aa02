/-
  What the document's lines of layer 8 come to.
  Conditions: the texts' bytes and lines are at most 100000.
  What the document's Assemble of layer 8 comes to, up to its second loop.
  Conditions: the texts' bytes and lines are at most 100000.
-/
import Derived.Test.YtofnomkedpagfaaLineWords
import Derived.Test.YtofnomkedpagfaaAsmLines
import Derived.Test.YtofnomkedpagfaaAsmMem
import Derived.Test.YtofnomkedpagfaaRefParse
import Derived.WalkKit
import Derived.ProofKit
section
namespace Go.Proofs.Ytofnomkedpagfaa
open Go.RowKit

/-- How it stands in the inner loop: P are the lines of the texts ahead, z this text. -/
def LinesAt (w : World) (P : List Str) (l : Str) (v : Value) (f i : Nat) (wr : World) : Prop :=
  ∃ ws : List Str, wr.ownsRow w.heap.size 9 1 v (P ++ ws).length (flat sC (P ++ ws)) ∧ Kept (fun _ => False) w wr ∧ ws.length ≤ i ∧ i ≤ l.length + 1 ∧
    ((i ≤ l.length ∧ f ≤ i ∧ linesL l = ws ++ linesL (l.drop f) ∧ ∀ (j : Nat) (d : UInt8), f ≤ j → j < i → l[j]? = some d → d.toNat ≠ 10) ∨ (i = l.length + 1 ∧ ws = linesL l))

set_option maxRecDepth 100000 in
set_option maxHeartbeats 4000000 in
theorem refLines_any (ts : List Str) (sl : Option Addr) (cap : Nat) (w : World) (hE : Elems w w.heap.size sl 1 sC ts) (hS : sizeL ts ≤ 100000) :
    Calls Try.prog 31 #[.slice sl ts.length cap] w (WordsTo w (textsL ts)) := by
  obtain ⟨i4, hi4, hz4, hn4, hb4⟩ := info_parts Try.infoStr
  have HI4 := Lib.hid hi4; clear hi4
  have HZ4 := Lib.hid hz4; clear hz4
  have HN4 := Lib.hid hn4; clear hn4
  have HB4 := Lib.hid hb4; clear hb4
  have HE := Lib.hid (fun w' (hk : Kept (fun _ => False) w w') => hE.kept hk (Nat.le_refl _) (fun _ _ f => f))
  have HS := Lib.hid hS
  obtain ⟨n, hn⟩ : ∃ n, ts.length = n := ⟨_, rfl⟩
  have HM : Hid (n ≤ maxLen) := Lib.hid (by rw [← hn]; exact hE.1)
  have hn63 : (n : Int) ≤ 9223372036854775807 := by have := HM.out; unfold maxLen at this; omega
  have HN := Lib.hid hn
  rw [hn]
  clear hE hS hn
  go_enter Try.func31, Try.ntmps31
  go_wp2_with fail
  go_loopw [3, 4] (fun v i wr => ∃ i' : Nat, i = .int .i64 i' ∧ i' ≤ n ∧ wr.ownsRow w.heap.size 9 1 v (textsL (ts.take i')).length (flat sC (textsL (ts.take i'))) ∧ Kept (fun _ => False) w wr) (fun _ i _ => n - (intOf i).toNat)
  case atStart => exact ⟨0, rfl, by omega, World.ownsRow_nil _ _ _ _, Kept.refl _ _⟩
  case round =>
    obtain ⟨m, rfl, hm, hown, hk⟩ := hrel
    have HO := Lib.hid hown
    have HK := Lib.hid hk
    clear hown hk
    by_cases hmn : m < n
    case neg =>
      obtain rfl : m = n := by omega
      have HR := Lib.hid (show WordsTo w (textsL ts) (.returned u3) wr from ⟨u3, rfl, by have := HO.out; rw [List.take_of_length_le (by rw [HN.out]; exact Nat.le_refl _)] at this; exact this, HK.out⟩)
      clear HO HK HE
      go_wp2_with fail
      go_ret
      exact HR.out
    obtain ⟨t, ht⟩ : ∃ t, ts[m]? = some t := ⟨_, List.getElem?_eq_getElem (by rw [HN.out]; exact hmn)⟩
    obtain ⟨g, off, rfl, hg, hc⟩ := (HE.out wr HK.out).2 m t ht
    obtain ⟨P, hP⟩ : ∃ P, textsL (ts.take m) = P := ⟨_, rfl⟩
    obtain ⟨z, hz⟩ : ∃ z, strS t = z := ⟨_, rfl⟩
    have hzt : bytesS z = t := by rw [← hz]; rfl
    have HSN : Hid (textsL (ts.take (m + 1)) = P ++ linesL (bytesS z)) := Lib.hid (by rw [texts_snoc ht, hP, hzt])
    have HC : Hid (∀ w', Kept (fun _ => False) w w' → w'.cell? ⟨g, off + m, none⟩ = some (.string z)) := Lib.hid (fun w' hk' => by
      obtain ⟨g', off', e', _, hc'⟩ := (HE.out w' hk').2 m t ht
      simp only [Option.some.injEq, Addr.mk.injEq, and_true] at e'
      obtain ⟨rfl, rfl⟩ := e'
      have := hc' 0 (.string (strS t)) rfl
      rw [hz] at this
      simpa using this)
    have HZ : Hid (z.size + 1 + P.length ≤ 100000) := Lib.hid (by
      have h1 := texts_len (ts.take m)
      have h2 := size_snoc ht
      have h3 := HS.out
      rw [hP] at h1
      rw [← bytesS_len, hzt]
      omega)
    have hzs : z.size ≤ 100000 := by have := HZ.out; omega
    have HLEN : Hid ((bytesS z).length = z.size) := Lib.hid (bytesS_len z)
    have HO2 : Hid (wr.ownsRow w.heap.size 9 1 u3 P.length (flat sC P)) := Lib.hid (by rw [← hP]; exact HO.out)
    have x0 := HC.out wr HK.out
    clear HO ht hc hP hz hzt
    go_wp2_with fail
    go_loopw [3, 5, 6] (fun v f i wr => ∃ f' i' : Nat, f = .int .i64 f' ∧ i = .int .i64 i' ∧ f' ≤ z.size + 1 ∧ LinesAt w P (bytesS z) v f' i' wr) (fun _ _ i _ => z.size + 1 - (intOf i).toNat)
    case atStart => exact ⟨0, 0, rfl, rfl, by omega, [], by rw [List.append_nil]; exact HO2.out, HK.out, by simp, by omega, .inl ⟨by omega, by omega, by simp, fun j d _ h => by omega⟩⟩
    case round =>
      obtain ⟨f, i, rfl, rfl, hf, ws, hown, hk, hwi, hi, hcase⟩ := hrel
      rw [HLEN.out] at hi hcase
      clear HO2 x0
      have HO := Lib.hid hown
      have HK2 := Lib.hid hk
      clear hown hk
      have x0 := HC.out _ HK2.out
      have hb0 : wr.heap.size ≥ w.heap.size := HK2.out.size
      rcases hcase with ⟨hil, hfi, hws, hno⟩ | ⟨rfl, rfl⟩
      case inr =>
        have hnn : ¬ ((z.size + 1 : Nat) : Int) ≤ (z.size : Int) := by omega
        have HR : Hid (wr.ownsRow w.heap.size 9 1 u3 (textsL (ts.take (m + 1))).length (flat sC (textsL (ts.take (m + 1)))) ∧ Kept (fun _ => False) w wr) := Lib.hid (by rw [HSN.out]; exact ⟨HO.out, HK2.out⟩)
        clear HO
        go_wp2_with fail
        go_roundw
        case rel => exact ⟨m + 1, by go_num, by omega, HR.out.1, HR.out.2⟩
        case measure => simp [intOf]; omega
      have HWS := Lib.hid hws
      have HNO := Lib.hid hno
      clear hws hno
      have hil' : (i : Int) ≤ (z.size : Int) := by omega
      have HEL : Hid (Elems (wr.alloc (.cells #[.string (z.extract f i)] 9)) (wr.heap.size + 1) (some ⟨wr.heap.size, 0, none⟩) 1 sC [bytesS (z.extract f i)]) := Lib.hid (Elems.block sC_one (heap_new1 wr _) rfl (by show 1 ≤ maxLen; decide))
      by_cases hie : i = z.size
      · have hie' : ((i : Int) == (z.size : Int)) = true := by rw [beq_iff_eq]; omega
        have HL : Hid (ws ++ [bytesS (z.extract f i)] = linesL (bytesS z)) := Lib.hid (by
          rw [HWS.out, lines_end (fun j d h1 h2 h3 => HNO.out j d h1 (by rw [HLEN.out] at h2; omega) h3), bytesS_cut, HLEN.out, hie])
        clear hie
        go_wp2_with (at_builtin; refine wpList_append_elems (ys := [bytesS (z.extract f i)]) _ rfl (.tmp 38) (.tmp 46) 28 rfl w.heap.size 9 i4 (.string { data := #[] }) 1 16 Try.underlying28 HI4.out HZ4.out HN4.out HB4.out rfl (by decide) sC_one (sC_cell _) u3 (P ++ ws).length (flat sC (P ++ ws)) rfl ?c1 (wr.heap.size + 1) _ 1 rfl ?c2 ?c3 ?c4 ?c5 ?_)
        case c1 => exact HO.out.alloc _
        case c2 => exact HEL.out
        case c3 => show (P ++ ws).length + 1 ≤ maxLen; have := HZ.out; rw [List.length_append]; unfold maxLen; omega
        case c4 => show ((P ++ ws).length + 1) * 16 ≤ _; have := HZ.out; rw [List.length_append]; omega
        case c5 => simp; omega
        intro v' w2 h1 h2 h3
        have hk2 : Kept (fun _ => False) w w2 := (HK2.out.alloc _).grown h2 (fun g hg e => by have := (World.ownsRow.lt HO.out g e).1; omega)
        have HF : Hid (LinesAt w P (bytesS z) v' (i + 1) (i + 1) w2) := Lib.hid ⟨ws ++ [bytesS (z.extract f i)], by rw [← List.append_assoc, List.length_append, sC_flat, List.length_append]; exact h1, hk2, by simp; omega, by rw [HLEN.out]; omega, .inr ⟨by rw [HLEN.out]; have : ((i : Int) == (z.size : Int)) = true := hie'; rw [beq_iff_eq] at this; omega, HL.out⟩⟩
        clear h1 h2 h3 hk2 HEL HL
        go_wp2_with fail
        go_roundw
        case rel => exact ⟨i + 1, i + 1, by go_num, by go_num, by omega, HF.out⟩
        case measure => simp [intOf]; omega
      · have hie' : ((i : Int) == (z.size : Int)) = false := by rw [beq_eq_false_iff_ne]; omega
        have his : i < z.size := by omega
        have hat := bytesS_at z i his
        by_cases hsp : z[i].toNat = 10
        · have hsp' : ((z[i].toNat : Int) == 10) = true := by rw [beq_iff_eq]; omega
          have hat2 : (bytesS z)[i]? = some 10 := by rw [hat]; congr 1; exact UInt8.toNat.inj (by rw [hsp]; rfl)
          have HL : Hid (linesL (bytesS z) = (ws ++ [bytesS (z.extract f i)]) ++ linesL ((bytesS z).drop (i + 1))) := Lib.hid (by
            rw [HWS.out, lines_step hfi hat2 HNO.out, bytesS_cut, List.append_assoc]; rfl)
          clear hat hat2 hsp hie
          go_wp2_with (at_builtin; refine wpList_append_elems (ys := [bytesS (z.extract f i)]) _ rfl (.tmp 38) (.tmp 46) 28 rfl w.heap.size 9 i4 (.string { data := #[] }) 1 16 Try.underlying28 HI4.out HZ4.out HN4.out HB4.out rfl (by decide) sC_one (sC_cell _) u3 (P ++ ws).length (flat sC (P ++ ws)) rfl ?c1 (wr.heap.size + 1) _ 1 rfl ?c2 ?c3 ?c4 ?c5 ?_)
          case c1 => exact HO.out.alloc _
          case c2 => exact HEL.out
          case c3 => show (P ++ ws).length + 1 ≤ maxLen; have := HZ.out; rw [List.length_append]; unfold maxLen; omega
          case c4 => show ((P ++ ws).length + 1) * 16 ≤ _; have := HZ.out; rw [List.length_append]; omega
          case c5 => simp; omega
          intro v' w2 h1 h2 h3
          have hk2 : Kept (fun _ => False) w w2 := (HK2.out.alloc _).grown h2 (fun g hg e => by have := (World.ownsRow.lt HO.out g e).1; omega)
          have HF : Hid (LinesAt w P (bytesS z) v' (i + 1) (i + 1) w2) := Lib.hid ⟨ws ++ [bytesS (z.extract f i)], by rw [← List.append_assoc, List.length_append, sC_flat, List.length_append]; exact h1, hk2, by simp; omega, by rw [HLEN.out]; omega, .inl ⟨by rw [HLEN.out]; omega, by omega, HL.out, fun j d hj1 hj2 => by omega⟩⟩
          clear h1 h2 h3 hk2 HEL HL
          go_wp2_with fail
          go_roundw
          case rel => exact ⟨i + 1, i + 1, by go_num, by go_num, by omega, HF.out⟩
          case measure => simp [intOf]; omega
        · have hsp' : ((z[i].toNat : Int) == 10) = false := by rw [beq_eq_false_iff_ne]; omega
          have HF : Hid (LinesAt w P (bytesS z) u3 f (i + 1) wr) := Lib.hid ⟨ws, HO.out, HK2.out, by omega, by rw [HLEN.out]; omega, .inl ⟨by rw [HLEN.out]; omega, by omega, HWS.out, fun j d hj1 hj2 hj => by
            rcases Nat.lt_or_ge j i with h | h
            · exact HNO.out j d hj1 h hj
            · obtain rfl : j = i := by omega
              rw [hat] at hj
              simp only [Option.some.injEq] at hj
              rw [← hj]; exact hsp⟩⟩
          clear hat hsp hie HEL
          go_wp2_with fail
          go_roundw
          case rel => exact ⟨f, i + 1, rfl, by go_num, by omega, HF.out⟩
          case measure => simp [intOf]; omega

end Go.Proofs.Ytofnomkedpagfaa
end
section
namespace Go.Proofs.Ytofnomkedpagfaa
open Go.RowKit

theorem info_ins : (Try.prog.info? 87).map (fun i => (i.zero, i.size, i.bytes)) = some (some (.agg #[.int .i64 0, .int .i64 0, .int .i64 0, .int .i64 0, .int .i64 0]), 5, 40) := by kernel_rfl
theorem info_lab : (Try.prog.info? 93).map (fun i => (i.zero, i.size, i.bytes)) = some (some (.agg #[.string { data := #[] }, .int .i64 0]), 2, 24) := by kernel_rfl
theorem str_no {s : ByteArray} (h : 0 < s.size) : s.toList.isEmpty = false ∧ ¬ s.toList = [] := by
  have e : ¬ s.toList = [] := by
    intro e
    rw [Lib.toList_data] at e
    have := Lib.size_eq s
    rw [e, List.length_nil] at this
    omega
  exact ⟨by rw [List.isEmpty_eq_false_iff]; exact e, e⟩
theorem str_yes {s : ByteArray} (h : s.size = 0) : s.toList.isEmpty = true ∧ s.toList = [] := by
  have e : s.toList = [] := by
    rw [Lib.toList_data]
    exact List.eq_nil_of_length_eq_zero (by rw [← Lib.size_eq]; exact h)
  exact ⟨by rw [e]; rfl, e⟩
theorem place_is (l : Labs) (n : Str) : (findA l n = none ∧ placeA l n = -1) ∨ ∃ k, findA l n = some k ∧ placeA l n = k := by
  unfold placeA
  cases findA l n with
  | none => exact .inl ⟨rfl, rfl⟩
  | some k => exact .inr ⟨k, rfl, rfl⟩

theorem row_low {w : World} {base base' : Nat} {e : TypeId} {size n : Nat} {v : Value} {xs : List Value} (h : w.ownsRow base e size v n xs) (hb : base' ≤ base) : w.ownsRow base' e size v n xs := by
  refine ⟨h.1, ?_⟩
  rcases h.2 with h2 | ⟨g, cap, cur, h3, h5, h4⟩
  · exact .inl h2
  · exact .inr ⟨g, cap, cur, h3, Nat.le_trans hb h5, h4⟩
theorem ownsRow_form {w : World} {base : Nat} {e : TypeId} {size n : Nat} {v : Value} {xs : List Value} (h : w.ownsRow base e size v n xs) (hn : 0 < n) : ∃ g cap, v = .slice (some ⟨g, 0, none⟩) n cap := by
  rcases h.2 with ⟨_, h0⟩ | ⟨g, cap, _, h3, _⟩
  · omega
  · exact ⟨g, cap, h3⟩
theorem mid_len (ls : List Str) (l : Labs) (i : Nat) : (midA ls l i).length = (opsL ls).length := by
  unfold midA
  rw [List.length_append, List.length_map, ← List.length_append]
  unfold opsL
  rw [← List.filterMap_append, List.take_append_drop]
theorem target_op {s : Str} {x : Ln} (h : parseL s = some x) (ht : x.target ≠ []) : 0 < x.op := by
  have hf := core_fits h
  unfold fitsL at hf
  split at hf
  · simp only [Bool.and_eq_true, decide_eq_true_eq] at hf
    have : ({ x with label := [] } : Ln).target = zeroLn.target := by rw [hf.2]
    exact absurd this ht
  split at hf
  · simp only [decide_eq_true_eq] at hf
    rw [hf] at ht
    exact absurd rfl ht
  · unfold mayL at hf
    simp only [Bool.and_eq_true, decide_eq_true_eq] at hf
    omega

set_option maxRecDepth 100000 in
set_option maxHeartbeats 16000000 in
theorem refAsm_any (ts : List Str) (sl : Option Addr) (cap : Nat) (w : World) (hE : Elems w w.heap.size sl 1 sC ts) (hS : sizeL ts ≤ 100000) :
    Calls Try.prog 22 #[.slice sl ts.length cap] w (AsmTo w (asmA (textsL ts))) := by
  obtain ⟨i5, hi5, hz5, hn5, hb5⟩ := info_parts info_ins
  obtain ⟨i6, hi6, hz6, hn6, hb6⟩ := info_parts info_lab
  have HI5 := Lib.hid hi5; clear hi5
  have HZ5 := Lib.hid hz5; clear hz5
  have HN5 := Lib.hid hn5; clear hn5
  have HB5 := Lib.hid hb5; clear hb5
  have HI6 := Lib.hid hi6; clear hi6
  have HZ6 := Lib.hid hz6; clear hz6
  have HN6 := Lib.hid hn6; clear hn6
  have HB6 := Lib.hid hb6; clear hb6
  have HLN := Lib.hid (refLines_any ts sl cap w hE hS)
  have HLL := Lib.hid (Nat.le_trans (texts_len ts) hS)
  have HSH : Hid (∀ s ∈ textsL ts, s.length ≤ 100000) := Lib.hid (texts_short (fun t ht => by
    obtain ⟨i, hi⟩ := List.getElem?_of_mem ht
    have := size_snoc hi
    omega))
  obtain ⟨tl, htl⟩ : ∃ tl, ts.length = tl := ⟨_, rfl⟩
  rw [htl] at HLN ⊢
  obtain ⟨ls, hls⟩ : ∃ ls, textsL ts = ls := ⟨_, rfl⟩
  rw [hls] at HLN HLL HSH ⊢
  clear hE hS htl hls
  go_enter Try.func22, Try.ntmps22
  go_wp2_with fail
  refine HLN.out.mono ?_
  rintro e w1 ⟨v8, rfl, hrow, hk1⟩
  obtain ⟨sl8, c8, rfl, hM⟩ := Made.of_own sC_one hrow rfl (by have := HLL.out; unfold maxLen; omega)
  have HK1 := Lib.hid hk1
  have HE := Lib.hid (fun w' (hk : Kept (fun _ => False) w1 w') => hM.elems.kept hk (Nat.le_refl _) (fun _ _ f => f))
  obtain ⟨n, hn⟩ : ∃ n, ls.length = n := ⟨_, rfl⟩
  have HN := Lib.hid hn
  have hn5 : n ≤ 100000 := by rw [← hn]; exact HLL.out
  rw [hn]
  clear hrow hk1 hM hn HLN
  go_wp2_with fail
  go_loopw [6, 7, 9] (fun v u i wr => ∃ (i' : Nat) (c : List Ln) (l : Labs), i = .int .i64 i' ∧ i' ≤ n ∧ Two w1.heap.size wr v u c l ∧ Kept (fun _ => False) w1 wr ∧ c.length ≤ i' ∧ l.length ≤ i' ∧ oneA 0 ls [] [] = oneA i' (ls.drop i') c l) (fun _ _ i _ => n - (intOf i).toNat)
  case atStart => exact ⟨0, [], [], rfl, by omega, Two.nil _ _, Kept.refl _ _, by simp, by simp, rfl⟩
  case round =>
    obtain ⟨m, c, l, rfl, hm, htwo, hk, hcm, hlm, hone⟩ := hrel
    have HT := Lib.hid htwo
    have HK := Lib.hid hk
    have HO := Lib.hid hone
    have hwz : w1.heap.size ≤ wr.heap.size := hk.size
    clear htwo hk hone
    by_cases hmn : m < n
    case neg =>
      obtain rfl : m = n := by omega
      have HOK : Hid (oneA 0 ls [] [] = .ok (c, l)) := Lib.hid (by
        rw [HO.out, List.drop_of_length_le (by rw [HN.out]; exact Nat.le_refl _)]
        rfl)
      have HOP : Hid (c = opsL ls) := Lib.hid (by have := (one_ops ls 0 [] [] c l HOK.out).1; rw [List.nil_append] at this; exact this)
      have HALL : Hid (∀ s ∈ ls, ∃ x, parseL s = some x) := Lib.hid (one_ops ls 0 [] [] c l HOK.out).2
      obtain ⟨sl6, c6, rfl, hM6⟩ := Made.of_own insC_five HT.out.code rfl (by unfold maxLen; omega)
      obtain ⟨sl7, c7, rfl, hM7⟩ := Made.of_own labC_two HT.out.labs rfl (by unfold maxLen; omega)
      have HT0 : Hid (Two w1.heap.size wr (.slice sl6 c.length c6) (.slice sl7 l.length c7) (midA ls l 0) l) := Lib.hid (by rw [mid_zero, ← HOP.out]; exact HT.out)
      have HML : Hid (∀ i, (midA ls l i).length = c.length) := Lib.hid (fun i => by rw [mid_len, HOP.out])
      have q6 : (c.length : Int) ≤ 100000 := by omega
      have ql : l.length ≤ 100000 := by omega
      have qc : c.length ≤ 100000 := by omega
      clear HO HT hM6 hM7 hmn hm hcm hlm
      go_wp2_with fail
      go_loopw [12, 13] (fun q i wr => ∃ i' : Nat, i = .int .i64 i' ∧ i' ≤ m ∧ q = .int .i64 ((opsL (ls.take i')).length : Nat) ∧ Two w1.heap.size wr (.slice sl6 c.length c6) (.slice sl7 l.length c7) (midA ls l i') l ∧ Kept (fun _ => False) w1 wr ∧ twoA 0 ls l = twoA i' (ls.drop i') l) (fun _ i _ => m - (intOf i).toNat)
      case atStart => exact ⟨0, rfl, by omega, rfl, HT0.out, HK.out, rfl⟩
      case round =>
        obtain ⟨i, rfl, him, rfl, htwo, hk, htw⟩ := hrel
        have HT := Lib.hid htwo
        have HK2 := Lib.hid hk
        have HW := Lib.hid htw
        obtain ⟨q, hq⟩ : ∃ q, (opsL (ls.take i)).length = q := ⟨_, rfl⟩
        have HQ := Lib.hid hq
        rw [hq]
        clear htwo hk htw HT0 HK hq
        by_cases hin : i < m
        case neg =>
          obtain rfl : i = m := by omega
          have HR : Hid (AsmTo w (asmA ls) (.returned (.tuple #[.slice sl6 c.length c6, .slice sl7 l.length c7, .int .i64 0, .int .i64 (-1)])) wr) := Lib.hid (by
            refine ⟨HK1.out.trans HK2.out (fun _ _ f => f), ?_⟩
            have e2 : twoA 0 ls l = none := by
              rw [HW.out, List.drop_of_length_le (by rw [HN.out]; exact Nat.le_refl _)]
              rfl
            unfold asmA
            rw [HOK.out]
            dsimp only
            rw [e2]
            have e3 := HT.out
            rw [show midA ls l i = c.map (fixA l) by rw [← HN.out, mid_end, HOP.out]] at e3
            refine ⟨_, _, rfl, ⟨?_, ?_, e3.apart⟩⟩
            · exact row_low e3.code HK1.out.size
            · exact row_low e3.labs HK1.out.size)
          clear HT
          go_wp2_with fail
          exact bodyPost_ret (v := .tuple #[.slice sl6 c.length c6, .slice sl7 l.length c7, .int .i64 0, .int .i64 (-1)]) (by simp [results, Try.results22, go_sem]) rfl HR.out
        obtain ⟨s, hs⟩ : ∃ s, ls[i]? = some s := ⟨_, List.getElem?_eq_getElem (by rw [HN.out]; exact hin)⟩
        have HD : Hid (ls.drop i = s :: ls.drop (i + 1)) := Lib.hid (by
          obtain ⟨h1, h2⟩ := List.getElem?_eq_some_iff.1 hs
          rw [← h2]; exact List.drop_eq_getElem_cons h1)
        rw [HD.out, two_cons] at HW
        obtain ⟨g, off, rfl, hg, hc⟩ := (HE.out wr HK2.out).2 i s hs
        obtain ⟨z, hz⟩ : ∃ z, strS s = z := ⟨_, rfl⟩
        have hzs : bytesS z = s := by rw [← hz]; rfl
        have x0 : wr.cell? ⟨g, off + i, none⟩ = some (.string z) := by
          have := hc 0 (.string (strS s)) rfl
          rw [hz] at this
          simpa using this
        have HP := Lib.hid (refParse_any z wr (by rw [← bytesS_len, hzs]; exact HSH.out s (List.mem_of_getElem? hs)))
        rw [hzs] at HP
        obtain ⟨x', hx'⟩ := HALL.out s (List.mem_of_getElem? hs)
        have HS := Lib.hid hs
        clear hs hc hz hzs
        go_wp2_with fail
        refine HP.out.mono ?_
        rintro e w2 ⟨x, ok, rfl, hp, _, hk2⟩
        obtain ⟨W3, hW3⟩ : ∃ W3, w2.alloc (.cells (lnCells x) 89) = W3 := ⟨_, rfl⟩
        have hbx : W3.heap[w2.heap.size]? = some (.cells (lnCells x) 89 (0, 0)) := by rw [← hW3]; exact heap_new1 w2 _
        have HK3 : Hid (Kept (fun _ => False) w1 W3) := Lib.hid (by rw [← hW3]; exact (HK2.out.trans hk2 (fun _ _ f => f)).alloc _)
        have HLV : Hid (∀ g, Value.ownBlock (.slice sl6 c.length c6) = some g → g < w2.heap.size) := Lib.hid (fun g e => by have h1 := (HT.out.code.lt g e).2; have h2 := hk2.size; omega)
        have HT3 := Lib.hid ((HT.out.kept (hk2.alloc (.cells (lnCells x) 89))))
        rw [hW3] at HT3
        obtain ⟨⟨y0, y1, y2, y3, y4, y5, y6⟩, _⟩ := cells7 hbx
        have hokx : ok = true := by cases ok with
          | true => rfl
          | false => rw [hx'] at hp; cases hp
        subst hokx
        have HPX : Hid (parseL s = some x) := Lib.hid hp
        replace HW := Lib.hid (show twoA 0 ls l = (if x.target ≠ [] ∧ (findA l x.target).isNone = true then some i else twoA (i + 1) (ls.drop (i + 1)) l) by rw [HW.out, HPX.out])
        obtain ⟨sl9, c9, h9, hM7⟩ := Made.of_own labC_two HT3.out.labs rfl (by unfold maxLen; omega)
        have HF7 := Lib.hid (refFind_any l sl7 c7 _ (strS x.target) W3 (by injection h9 with h9 _ _; rw [h9]; exact hM7.elems) rfl)
        clear HP hk2 hp hx' h9 hM7 x0 HT HK2
        by_cases htar : x.target = []
        case pos =>
          obtain ⟨z1, z2⟩ := str_yes (s := strS x.target) (by rw [htar]; rfl)
          rw [if_neg (by rintro ⟨h, _⟩; exact h htar)] at HW
          by_cases hop : 0 < x.op
          · have HMN : Hid (midA ls l (i + 1) = midA ls l i) := Lib.hid (by
              obtain ⟨h1, h2⟩ := mid_next (l := l) HS.out HPX.out hop
              rw [h2, fix_same htar]
              obtain ⟨h3, h4⟩ := List.getElem?_eq_some_iff.1 h1
              conv => lhs; arg 3; rw [← h4]
              exact List.set_getElem_self h3)
            have HQ2 : Hid ((opsL (ls.take (i + 1))).length = q + 1) := Lib.hid (by rw [ops_snoc HS.out HPX.out, if_pos hop, List.length_append, HQ.out]; rfl)
            have hq9 : q ≤ 100000 := by
              have h1 := (mid_next (l := l) HS.out HPX.out hop).1
              have h2 := (List.getElem?_eq_some_iff.1 h1).1
              rw [HML.out, HQ.out] at h2
              omega
            clear htar hbx HF7
            go_wp2_with fail
            go_roundw
            case rel => exact ⟨i + 1, by go_num, by omega, by rw [HQ2.out]; go_num, by rw [HMN.out]; exact HT3.out, HK3.out, HW.out⟩
            case measure => simp [intOf]; omega
          · have HMN : Hid (midA ls l (i + 1) = midA ls l i) := Lib.hid (mid_skip HS.out HPX.out hop)
            have HQ2 : Hid ((opsL (ls.take (i + 1))).length = q) := Lib.hid (by rw [ops_snoc HS.out HPX.out, if_neg hop, List.append_nil, HQ.out])
            clear htar hbx HF7
            go_wp2_with fail
            go_roundw
            case rel => exact ⟨i + 1, by go_num, by omega, by rw [HQ2.out], by rw [HMN.out]; exact HT3.out, HK3.out, HW.out⟩
            case measure => simp [intOf]; omega
        obtain ⟨z1, z2⟩ := str_no (s := strS x.target) (by rw [strS_size]; exact List.length_pos_iff.2 htar)
        have hop := target_op HPX.out htar
        rcases place_is l x.target with ⟨hf, hpl⟩ | ⟨k, hf, hpl⟩
        case inl =>
          have HR : Hid (AsmTo w (asmA ls) (.returned (.tuple #[.slice none 0 0, .slice none 0 0, .int .i64 4, .int .i64 i])) W3) := Lib.hid (by
            rw [if_pos ⟨htar, by rw [hf]; rfl⟩] at HW
            refine ⟨HK1.out.trans HK3.out (fun _ _ f => f), ?_⟩
            unfold asmA
            rw [HOK.out]
            dsimp only
            rw [HW.out]
            rfl)
          rw [bytesS_str, hpl] at HF7
          clear htar hf hpl hop hbx
          go_wp2_with fail
          refine HF7.out.mono ?_
          rintro e w4 ⟨rfl, hw4⟩
          subst w4
          clear HF7
          go_wp2_with fail
          exact bodyPost_ret (v := .tuple #[.slice none 0 0, .slice none 0 0, .int .i64 4, .int .i64 i]) (by simp [results, Try.results22, go_sem]) rfl HR.out
        rw [if_neg (by rw [hf]; rintro ⟨_, h⟩; cases h)] at HW
        obtain ⟨hq1, hq2⟩ := mid_next (l := l) HS.out HPX.out hop
        rw [HQ.out] at hq1 hq2
        have hqc : q < c.length := by rw [← HML.out i]; exact (List.getElem?_eq_some_iff.1 hq1).1
        have hqc' : (q : Int) < (c.length : Int) := by omega
        have hq0 : (0 : Int) ≤ (q : Int) := by omega
        obtain ⟨g6, cap6, h6⟩ := ownsRow_form (HML.out i ▸ HT3.out.code) (by omega)
        injection h6 with h6 _ h6c
        subst h6
        subst cap6
        have hst := World.ownsRow.stored (HML.out i ▸ HT3.out.code) (q * 5 + 4) (.int .i64 k)
        obtain ⟨W4, hW4⟩ : ∃ W4, W3.setCell ⟨g6, q * 5 + 4, none⟩ (.int .i64 k) = W4 := ⟨_, rfl⟩
        rw [hW4] at hst
        have HT4 : Hid (Two w1.heap.size W4 (.slice (some ⟨g6, 0, none⟩) c.length c6) (.slice sl7 l.length c7) (midA ls l (i + 1)) l) := Lib.hid (by
          refine HT3.out.code_more ?_ hst.2 (.inl rfl)
          rw [HML.out, hq2, flat_set insC_five _ q 4 x (fixA l x) (.int .i64 k) hq1 (by omega) (fix_cells htar hf)]
          exact hst.1)
        have HK4 : Hid (Kept (fun _ => False) w1 W4) := Lib.hid (HK3.out.grown hst.2 (fun g hg e => by have := (HT3.out.code.lt g e).1; omega))
        have hfr : W3.frozen? ⟨g6, q * 5 + 4, none⟩ = false := World.ownsRow.frozenAt (HML.out i ▸ HT3.out.code) _
        have hce : W3.cell? ⟨g6, q * 5 + 4, none⟩ = some (.int .i64 x.n) := by
          rw [World.ownsRow.cellAt (HML.out i ▸ HT3.out.code) (q * 5 + 4) (by omega), flat_at insC_five _ q 4 x hq1 (by omega)]
          rfl
        have hne6 : g6 < w2.heap.size := HLV.out g6 rfl
        have hb4 : W4.heap[w2.heap.size]? = some (.cells (lnCells x) 89 (0, 0)) := (((Kept.refl (fun k => some g6 = some k) W3).grown hst.2 (fun k _ e => e)).block _ (Array.getElem?_eq_some_iff.1 hbx).1 (fun e => by injection e with e; omega)).trans hbx
        have HQ2 : Hid ((opsL (ls.take (i + 1))).length = q + 1) := Lib.hid (by rw [ops_snoc HS.out HPX.out, if_pos hop, List.length_append, HQ.out]; rfl)
        have hk0 : (0 : Int) ≤ (k : Int) := by omega
        obtain ⟨⟨t0, t1, t2, t3, t4, t5, t6⟩, _⟩ := cells7 hb4
        rw [bytesS_str, hpl] at HF7
        clear htar hf hpl hq1 hq2 hst hb4 hbx
        go_wp2_with fail
        refine HF7.out.mono ?_
        rintro e w4 ⟨rfl, hw4⟩
        subst w4
        clear HF7
        go_wp2_with fail
        go_roundw
        case rel =>
          have hrel2 : ∃ i' : Nat, Value.int .i64 ((i : Int) + 1) = .int .i64 i' ∧ i' ≤ m ∧ Value.int .i64 ((q : Int) + 1) = .int .i64 ((opsL (ls.take i')).length : Nat) ∧ Two w1.heap.size W4 (.slice (some ⟨g6, 0, none⟩) c.length c6) (.slice sl7 l.length c7) (midA ls l i') l ∧ Kept (fun _ => False) w1 W4 ∧ twoA 0 ls l = twoA i' (ls.drop i') l :=
            ⟨i + 1, by go_num, by omega, by rw [HQ2.out]; go_num, HT4.out, HK4.out, HW.out⟩
          first | exact hrel2 | ((repeat apply Exists.intro); exact ⟨hrel2, rfl⟩)
        case measure => simp [intOf]; omega
    obtain ⟨s, hs⟩ : ∃ s, ls[m]? = some s := ⟨_, List.getElem?_eq_getElem (by rw [HN.out]; exact hmn)⟩
    have HD : Hid (ls.drop m = s :: ls.drop (m + 1)) := Lib.hid (by
      obtain ⟨h1, h2⟩ := List.getElem?_eq_some_iff.1 hs
      rw [← h2]; exact List.drop_eq_getElem_cons h1)
    rw [HD.out, one_cons] at HO
    obtain ⟨g, off, rfl, hg, hc⟩ := (HE.out wr HK.out).2 m s hs
    obtain ⟨z, hz⟩ : ∃ z, strS s = z := ⟨_, rfl⟩
    have hzs : bytesS z = s := by rw [← hz]; rfl
    have x0 : wr.cell? ⟨g, off + m, none⟩ = some (.string z) := by
      have := hc 0 (.string (strS s)) rfl
      rw [hz] at this
      simpa using this
    have HP := Lib.hid (refParse_any z wr (by rw [← bytesS_len, hzs]; exact HSH.out s (List.mem_of_getElem? hs)))
    rw [hzs] at HP
    clear hs hc hz hzs
    go_wp2_with fail
    refine HP.out.mono ?_
    rintro e w2 ⟨x, ok, rfl, hp, hz0, hk2⟩
    obtain ⟨W3, hW3⟩ : ∃ W3, w2.alloc (.cells (lnCells x) 89) = W3 := ⟨_, rfl⟩
    have hbx : W3.heap[w2.heap.size]? = some (.cells (lnCells x) 89 (0, 0)) := by rw [← hW3]; exact heap_new1 w2 _
    have HBX := Lib.hid hbx
    have hb3 : w2.heap.size < W3.heap.size := (Array.getElem?_eq_some_iff.1 hbx).1
    have HLU : Hid (∀ g, u7.ownBlock = some g → g < w2.heap.size) := Lib.hid (fun g e => by have h1 := (HT.out.labs.lt g e).2; have h2 := hk2.size; omega)
    have HLV : Hid (∀ g, u6.ownBlock = some g → g < w2.heap.size) := Lib.hid (fun g e => by have h1 := (HT.out.code.lt g e).2; have h2 := hk2.size; omega)
    have HK3 : Hid (Kept (fun _ => False) w1 W3) := Lib.hid (by rw [← hW3]; exact (HK.out.trans hk2 (fun _ _ f => f)).alloc _)
    have HT3 := Lib.hid ((HT.out.kept (hk2.alloc (.cells (lnCells x) 89))))
    rw [hW3] at HT3
    obtain ⟨⟨y0, y1, y2, y3, y4, y5, y6⟩, _⟩ := cells7 hbx
    obtain ⟨sl6, c6, rfl, hM6⟩ := Made.of_own insC_five HT3.out.code rfl (by unfold maxLen; omega)
    obtain ⟨sl7, c7, rfl, hM7⟩ := Made.of_own labC_two HT3.out.labs rfl (by unfold maxLen; omega)
    have HF7 := Lib.hid (refFind_any l sl7 c7 _ (strS x.label) W3 hM7.elems rfl)
    have q6 : (c.length : Int) ≤ 9223372036854775807 := by omega
    have HA : Hid (∀ (r : Except (Nat × Nat) (List Ln × Labs)) e, oneA 0 ls [] [] = r → (∀ p, r = .error p → e = .returned (.tuple #[.slice none 0 0, .slice none 0 0, .int .i64 p.1, .int .i64 p.2])) → (∃ p, r = .error p) → AsmTo w (asmA ls) e W3) := Lib.hid (fun r e h1 h2 h3 => by
      obtain ⟨p, rfl⟩ := h3
      refine ⟨HK1.out.trans HK3.out (fun _ _ f => f), ?_⟩
      unfold asmA
      rw [h1]
      exact h2 p rfl)
    rw [hp] at HO
    clear HP hk2 hbx x0 HT HK hM6 hM7
    cases ok
    case false =>
      obtain rfl := hz0 rfl
      have HR : Hid (AsmTo w (asmA ls) (.returned (.tuple #[.slice none 0 0, .slice none 0 0, .int .i64 2, .int .i64 m])) W3) := Lib.hid (HA.out _ _ HO.out (fun p h => by injection h with h; subst h; rfl) ⟨_, rfl⟩)
      clear hz0 HA HF7 y0 y1 y2 y3 y4 y5 y6
      go_wp2_with fail
      exact bodyPost_ret (v := .tuple #[.slice none 0 0, .slice none 0 0, .int .i64 2, .int .i64 m]) (by simp [results, Try.results22, go_sem]) rfl HR.out
    have HPX : Hid (parseL s = some x) := Lib.hid hp
    clear hz0 hp
    replace HO := Lib.hid (show oneA 0 ls [] [] = (if x.label ≠ [] ∧ (findA l x.label).isSome = true then .error (5, m) else if 0 < x.op ∧ 1024 ≤ c.length then .error (8, m) else oneA (m + 1) (ls.drop (m + 1)) (if 0 < x.op then c ++ [x] else c) (if x.label ≠ [] then l ++ [(x.label, c.length)] else l)) from HO.out)
    by_cases hlab : x.label = []
    case neg =>
      have hop : ¬ 0 < x.op := fun h => hlab (goes_is HPX.out h).1
      obtain ⟨z1, z2⟩ := str_no (s := strS x.label) (by rw [strS_size]; exact List.length_pos_iff.2 hlab)
      have hop' : ¬ (0 : Int) < x.op := hop
      rcases place_is l x.label with ⟨hf, hpl⟩ | ⟨k, hf, hpl⟩
      case inr =>
        have HR : Hid (AsmTo w (asmA ls) (.returned (.tuple #[.slice none 0 0, .slice none 0 0, .int .i64 5, .int .i64 m])) W3) := Lib.hid (by
          refine HA.out _ _ HO.out ?_ ?_
          · intro p h
            rw [if_pos ⟨hlab, by rw [hf]; rfl⟩] at h
            injection h with h; subst h; rfl
          · rw [if_pos ⟨hlab, by rw [hf]; rfl⟩]; exact ⟨_, rfl⟩)
        have hk0 : (0 : Int) ≤ (k : Int) := by omega
        rw [bytesS_str, hpl] at HF7
        clear HA hlab hf hpl hop
        go_wp2_with fail
        refine HF7.out.mono ?_
        rintro e w4 ⟨rfl, hw4⟩
        subst w4
        clear HF7
        go_wp2_with fail
        exact bodyPost_ret (v := .tuple #[.slice none 0 0, .slice none 0 0, .int .i64 5, .int .i64 m]) (by simp [results, Try.results22, go_sem]) rfl HR.out
      rw [bytesS_str, hpl] at HF7
      rw [if_neg (by rw [hf]; rintro ⟨_, h⟩; cases h), if_neg (by rintro ⟨h, _⟩; exact hop h), if_neg hop, if_pos hlab] at HO
      have HEL : Hid (Elems (W3.alloc (.cells #[.string (strS x.label), .int .i64 c.length] 93)) (W3.heap.size + 1) (some ⟨W3.heap.size, 0, none⟩) 2 labC [(x.label, c.length)]) := Lib.hid (Elems.block labC_two (heap_new1 W3 _) rfl (by show 1 ≤ maxLen; decide))
      clear HA hlab hf hpl hop
      go_wp2_with fail
      refine HF7.out.mono ?_
      rintro e w4 ⟨rfl, hw4⟩
      subst w4
      clear HF7
      go_wp2_with (at_builtin; refine wpList_append_elems (ys := [(x.label, c.length)]) _ rfl (.tmp 45) (.tmp 51) 36 rfl w1.heap.size 93 i6 (.agg #[.string { data := #[] }, .int .i64 0]) 2 24 Try.underlying36 HI6.out HZ6.out HN6.out HB6.out rfl (by decide) labC_two (labC_cell _) _ l.length (flat labC l) rfl ?c1 (W3.heap.size + 1) _ 1 rfl ?c2 ?c3 ?c4 ?c5 ?_)
      case c1 => exact HT3.out.labs.alloc _
      case c2 => exact HEL.out
      case c3 => show l.length + 1 ≤ maxLen; unfold maxLen; omega
      case c4 => show (l.length + 1) * 24 ≤ _; omega
      case c5 => have := HK3.out.size; simp; omega
      intro v' w5 h1 h2 h3
      have HK5 : Hid (Kept (fun _ => False) w1 w5) := Lib.hid ((HK3.out.alloc _).grown h2 (fun g hg e => by have := (HT3.out.labs.lt g e).1; omega))
      have HT5 : Hid (Two w1.heap.size w5 (.slice sl6 c.length c6) v' c (l ++ [(x.label, c.length)])) := Lib.hid ((HT3.out.kept ((Kept.refl _ W3).alloc _)).labs_more (by rw [List.length_append, labC_flat]; exact h1) h2 (by rw [World.size_alloc]; exact h3))
      have z6 := HK5.out.size
      have hb5 : w5.heap[w2.heap.size]? = some (.cells (lnCells x) 89 (0, 0)) := ((((Kept.refl (fun k => Value.ownBlock (.slice sl7 l.length c7) = some k) W3).alloc _).grown h2 (fun k _ e => e)).block _ hb3 (fun e => by have := HLU.out _ e; omega)).trans HBX.out
      clear y0 y1 y2 y3 y4 y5 y6
      obtain ⟨⟨y0, y1, y2, y3, y4, y5, y6⟩, _⟩ := cells7 hb5
      clear h1 h2 h3 HEL HT3 HK3 hb5
      go_wp2_with fail
      go_roundw
      case rel => exact ⟨m + 1, c, l ++ [(x.label, c.length)], by go_num, by omega, HT5.out, HK5.out, by omega, by simp; omega, HO.out⟩
      case measure => simp [intOf]; omega
    obtain ⟨z1, z2⟩ := str_yes (s := strS x.label) (by rw [hlab]; rfl)
    by_cases hop : 0 < x.op
    case neg =>
      rw [if_neg (by rintro ⟨h, _⟩; exact h hlab), if_neg (by rintro ⟨h, _⟩; exact hop h), if_neg hop, if_neg (by simp [hlab])] at HO
      clear HA hlab HF7
      go_wp2_with fail
      go_roundw
      case rel => exact ⟨m + 1, c, l, by go_num, by omega, HT3.out, HK3.out, by omega, by omega, HO.out⟩
      case measure => simp [intOf]; omega
    by_cases hfull : 1024 ≤ c.length
    case pos =>
      have HR : Hid (AsmTo w (asmA ls) (.returned (.tuple #[.slice none 0 0, .slice none 0 0, .int .i64 8, .int .i64 m])) W3) := Lib.hid (by
        refine HA.out _ _ HO.out ?_ ?_
        · intro p h
          rw [if_neg (by rintro ⟨h, _⟩; exact h hlab), if_pos ⟨hop, hfull⟩] at h
          injection h with h; subst h; rfl
        · rw [if_neg (by rintro ⟨h, _⟩; exact h hlab), if_pos ⟨hop, hfull⟩]; exact ⟨_, rfl⟩)
      have q7 : (1024 : Int) ≤ (c.length : Int) := by omega
      clear HA hlab HF7
      go_wp2_with fail
      exact bodyPost_ret (v := .tuple #[.slice none 0 0, .slice none 0 0, .int .i64 8, .int .i64 m]) (by simp [results, Try.results22, go_sem]) rfl HR.out
    have q7 : ¬ (1024 : Int) ≤ (c.length : Int) := by omega
    rw [if_neg (by rintro ⟨h, _⟩; exact h hlab), if_neg (by rintro ⟨_, h⟩; exact hfull h), if_pos hop, if_neg (by simp [hlab])] at HO
    have HEL : Hid (Elems (W3.alloc (.cells #[.int .i64 x.op, .int .i64 x.a, .int .i64 x.b, .int .i64 x.c, .int .i64 x.n] 87)) (W3.heap.size + 1) (some ⟨W3.heap.size, 0, none⟩) 5 insC [x]) := Lib.hid (Elems.block insC_five (heap_new1 W3 _) rfl (by show 1 ≤ maxLen; decide))
    clear HA hlab HF7 hfull
    go_wp2_with (at_builtin; refine wpList_append_elems (ys := [x]) _ rfl (.tmp 61) (.tmp 64) 35 rfl w1.heap.size 87 i5 (.agg #[.int .i64 0, .int .i64 0, .int .i64 0, .int .i64 0, .int .i64 0]) 5 40 Try.underlying35 HI5.out HZ5.out HN5.out HB5.out rfl (by decide) insC_five (insC_cell _) _ c.length (flat insC c) rfl ?c1 (W3.heap.size + 1) _ 1 rfl ?c2 ?c3 ?c4 ?c5 ?_)
    case c1 => exact HT3.out.code.alloc _
    case c2 => exact HEL.out
    case c3 => show c.length + 1 ≤ maxLen; unfold maxLen; omega
    case c4 => show (c.length + 1) * 40 ≤ _; omega
    case c5 => have := HK3.out.size; simp; omega
    intro v' w5 h1 h2 h3
    have HK5 : Hid (Kept (fun _ => False) w1 w5) := Lib.hid ((HK3.out.alloc _).grown h2 (fun g hg e => by have := (HT3.out.code.lt g e).1; omega))
    have HT5 : Hid (Two w1.heap.size w5 v' (.slice sl7 l.length c7) (c ++ [x]) l) := Lib.hid ((HT3.out.kept ((Kept.refl _ W3).alloc _)).code_more (by rw [List.length_append, insC_flat]; exact h1) h2 (by rw [World.size_alloc]; exact h3))
    clear h1 h2 h3 HEL HT3 HK3
    go_wp2_with fail
    go_roundw
    case rel => exact ⟨m + 1, c ++ [x], l, by go_num, by omega, HT5.out, HK5.out, by simp; omega, by omega, HO.out⟩
    case measure => simp [intOf]; omega

end Go.Proofs.Ytofnomkedpagfaa
end
