/-
  What the document's answer of layer 6 comes to: the script of bytes.
  Conditions: the bytes lie in blocks that were there.
-/
import Derived.Test.YtkicpbnphbcdaaaRefShape
import Derived.Test.YtkicpbnphbcdaaaCheckSame
import Derived.Test.YtkicpbnphbcdaaaCodes
namespace Go.Proofs.Ytkicpbnphbcdaaa
open Go.RowKit

/-- What is amiss with bytes; 0: nothing. -/
def codeB (bs : List Nat) : Int := match (scP byteTok (some bs)).2 with
  | some [] => if largeP (scP byteTok (some bs)).1 then 8 else if goodP (scP byteTok (some bs)).1 then 0 else 1
  | _ => 2
theorem codeB_no {bs : List Nat} (h : (scP byteTok (some bs)).2 ≠ some []) : codeB bs = 2 ∧ yesB bs = false := by
  constructor
  · unfold codeB; split
    · rename_i e; exact absurd e h
    · rfl
  · unfold yesB; split
    · rename_i e; exact absurd e h
    · rfl
theorem codeB_yes {bs : List Nat} {p : Parts} (h : scP byteTok (some bs) = (p, some [])) : codeB bs = (if largeP p then 8 else if goodP p then 0 else 1) ∧ yesB bs = (!largeP p && goodP p) := by
  constructor
  · unfold codeB; rw [h]
  · unfold yesB; rw [h]; rfl
theorem gotP_no {bs : List Nat} (h : yesB bs = false) : gotP bs = partsOf zeroSc := by unfold gotP; rw [h]; rfl
theorem gotP_yes {bs : List Nat} {p : Parts} (h : scP byteTok (some bs) = (p, some [])) (hy : yesB bs = true) : gotP bs = p := by unfold gotP; rw [hy, h]; rfl

/-- Two rows of numbers whose bytes are the same are the same. -/
theorem nums_inj : ∀ (l l2 : List Int), (∀ n ∈ l, InR n) → (∀ n ∈ l2, InR n) → l.flatMap numB = l2.flatMap numB → l = l2 := by
  intro l
  induction l with
  | nil =>
    intro l2 _ h2 he
    cases l2 with
    | nil => rfl
    | cons m l2 =>
      have := congrArg List.length he
      have hp := dig_pos (foldN m)
      simp only [List.flatMap_cons, List.length_append, List.flatMap_nil, List.length_nil] at this
      unfold numB at this
      omega
  | cons n l ih =>
    intro l2 h1 h2 he
    cases l2 with
    | nil =>
      have := congrArg List.length he
      have hp := dig_pos (foldN n)
      simp only [List.flatMap_cons, List.length_append, List.flatMap_nil, List.length_nil] at this
      unfold numB at this
      omega
    | cons m l2 =>
      rw [List.flatMap_cons, List.flatMap_cons] at he
      have a := byteTok.back n (l.flatMap numB) (h1 n (by simp))
      have b := byteTok.back m (l2.flatMap numB) (h2 m (by simp))
      have e : byteTok.e n ++ l.flatMap numB = byteTok.e m ++ l2.flatMap numB := he
      rw [e, b] at a
      simp only [Prod.mk.injEq, Option.some.injEq] at a
      obtain ⟨rfl, hr⟩ := a
      rw [ih l2 (fun x hx => h1 x (by simp [hx])) (fun x hx => h2 x (by simp [hx])) hr.symm]
theorem nums_some {l : List Int} : l.length ≤ (l.flatMap numB).length := by
  induction l with
  | nil => simp
  | cons n l ih =>
    have := dig_pos (foldN n)
    rw [List.flatMap_cons, List.length_append, List.length_cons]
    have e : numB n = dig (foldN n) := rfl
    rw [e]
    omega

/-- Bytes that are numbers are a script just if these are one. -/
theorem both_yes {bs : List Nat} {l : List Int} {p : Parts} (hb : bs = l.flatMap numB) (h : scP intTok (some l) = (p, some [])) : scP byteTok (some bs) = (p, some []) := by
  obtain ⟨e, ok⟩ := sc_sound intTok _ _ _ h
  simp only [Option.some.injEq, List.append_nil] at e
  have h2 := sc_back byteTok p [] ok
  rw [List.append_nil] at h2
  rw [hb, e, ← scE_flat]
  exact h2
theorem both_no {bs : List Nat} {l : List Int} (hl : ∀ n ∈ l, InR n) (hb : bs = l.flatMap numB) (h : (scP intTok (some l)).2 ≠ some []) : (scP byteTok (some bs)).2 ≠ some [] := by
  intro h1
  obtain ⟨e, ok⟩ := sc_sound byteTok _ _ _ (Prod.ext rfl h1)
  simp only [Option.some.injEq, List.append_nil] at e
  rw [scE_flat] at e
  have e2 := nums_inj l _ hl (nums_in ok) (hb.symm.trans e)
  have h2 := sc_back intTok _ [] ok
  rw [List.append_nil, ← e2] at h2
  exact h (by rw [h2])
theorem no_nums {bs : List Nat} (h : NoNums bs) : (scP byteTok (some bs)).2 ≠ some [] := by
  intro h1
  obtain ⟨e, ok⟩ := sc_sound byteTok _ _ _ (Prod.ext rfl h1)
  simp only [Option.some.injEq, List.append_nil] at e
  rw [scE_flat] at e
  exact h _ (nums_in ok) e

/-- What the document's Get leaves. -/
def RefTo (w : World) (bs : List Nat) (e : Ending) (w' : World) : Prop :=
  ∃ (y : Sc) (k : Int), e = .returned (.tuple #[y.agg, .int .i64 k]) ∧ k = codeB bs ∧ partsOf y = gotP bs ∧ Lies w' w'.heap.size y ∧ Kept (fun _ => False) w w'

set_option maxHeartbeats 4000000 in
set_option maxRecDepth 100000 in
theorem refGet_any {w : World} {B c : Nat} {A : Option Addr} {bs : List Nat} (h : Elems w B A 1 bC bs) (hb : ∀ b ∈ bs, b < 256) (hc : bs.length ≤ c) (hB : B ≤ w.heap.size) (hlen : bs.length ≤ 4000) :
    Calls Try.prog 15 #[.slice A bs.length c] w (RefTo w bs) := by
  obtain ⟨W0, hW0⟩ : ∃ W0, w.alloc (.cells #[.slice none 0 0, .slice none 0 0, .slice none 0 0] 26) = W0 := ⟨_, rfl⟩
  have hk0 : Kept (fun _ => False) w W0 := by rw [← hW0]; exact (Kept.refl _ w).alloc _
  have hs0 : W0.heap.size = w.heap.size + 1 := by rw [← hW0]; simp
  have hb0 : W0.heap[w.heap.size]? = some (.cells #[.slice none 0 0, .slice none 0 0, .slice none 0 0] 26 (0, 0)) := by rw [← hW0]; exact heap_alloc_new w _
  -- a way out with the script y, behind w4
  have hend : ∀ (w4 : World) (a b c : Value), Kept (fun _ => False) W0 w4 →
      (w4.frozen? ⟨w.heap.size, 0, none⟩ = false ∧ w4.frozen? ⟨w.heap.size, 1, none⟩ = false ∧ w4.frozen? ⟨w.heap.size, 2, none⟩ = false) ∧
      (w4.cell? ⟨w.heap.size, 0, none⟩ = some (.slice none 0 0) ∧ w4.cell? ⟨w.heap.size, 1, none⟩ = some (.slice none 0 0) ∧ w4.cell? ⟨w.heap.size, 2, none⟩ = some (.slice none 0 0)) ∧
      ((((w4.setCell ⟨w.heap.size, 0, none⟩ a).setCell ⟨w.heap.size, 1, none⟩ b).setCell ⟨w.heap.size, 2, none⟩ c).cell? ⟨w.heap.size, 0, none⟩ = some a ∧
       (((w4.setCell ⟨w.heap.size, 0, none⟩ a).setCell ⟨w.heap.size, 1, none⟩ b).setCell ⟨w.heap.size, 2, none⟩ c).cell? ⟨w.heap.size, 1, none⟩ = some b ∧
       (((w4.setCell ⟨w.heap.size, 0, none⟩ a).setCell ⟨w.heap.size, 1, none⟩ b).setCell ⟨w.heap.size, 2, none⟩ c).cell? ⟨w.heap.size, 2, none⟩ = some c) ∧
      Kept (fun g => g < w.heap.size + 1) w4 (((w4.setCell ⟨w.heap.size, 0, none⟩ a).setCell ⟨w.heap.size, 1, none⟩ b).setCell ⟨w.heap.size, 2, none⟩ c) ∧
      Kept (fun _ => False) w (((w4.setCell ⟨w.heap.size, 0, none⟩ a).setCell ⟨w.heap.size, 1, none⟩ b).setCell ⟨w.heap.size, 2, none⟩ c) := by
    intro w4 a b c hk
    have hb4 := (hk.block w.heap.size (by omega) (fun f => f)).trans hb0
    have hs := res_set hb4 (hk0.trans hk (fun _ _ f => f)) a b c
    exact ⟨⟨frozen_at w4 _ 0 _ _ hb4, frozen_at w4 _ 1 _ _ hb4, frozen_at w4 _ 2 _ _ hb4⟩, res_cells hb4, res_cells hs.1,
      (((Kept.refl _ w4).setCell ⟨w.heap.size, 0, none⟩ _ (fun _ => by show w.heap.size < _; omega)).setCell ⟨w.heap.size, 1, none⟩ _ (fun _ => by show w.heap.size < _; omega)).setCell ⟨w.heap.size, 2, none⟩ _ (fun _ => by show w.heap.size < _; omega), hs.2⟩
  have HEND := Lib.hid hend
  have HRD := Lib.hid (refRead_any (h.kept hk0 hB (fun _ _ f => f)) hb hc (by omega) hlen)
  have HW0 := Lib.hid hW0
  have HS0 := Lib.hid hs0
  have HLEN := Lib.hid hlen
  clear h hb hc hB hk0 hs0 hb0 hend hW0 hlen
  go_enter Try.func15, Try.ntmps15
  go_wp2_with fail
  rw [HW0.out]
  refine (HRD.out).mono ?_
  rintro e w1 (⟨v, l, rfl, hown, hin, hbs, hk1⟩ | ⟨rfl, hno, hk1⟩)
  case inr =>
    obtain ⟨⟨g0, g1, g2⟩, ⟨q0, q1, q2⟩, ⟨rb0, rb1, rb2⟩, _, hkk⟩ := HEND.out w1 (.slice none 0 0) (.slice none 0 0) (.slice none 0 0) hk1
    have hno2 := codeB_no (no_nums hno)
    have HF : Hid (RefTo w bs (.returned (.tuple #[.agg #[.slice none 0 0, .slice none 0 0, .slice none 0 0], .int .i64 2])) _) := Lib.hid ⟨zeroSc, 2, rfl, hno2.1.symm, (gotP_no hno2.2).symm, (owned_none 0 _).lies, hkk⟩
    clear hno hno2 hkk hk1 HEND HRD HW0
    go_wp2_with fail
    exact bodyPost_ret (v := .tuple #[.agg #[.slice none 0 0, .slice none 0 0, .slice none 0 0], .int .i64 2]) (by simp [results, Try.results15, go_sem, rb0, rb1, rb2]) rfl HF.out
  obtain ⟨A1, c1, rfl, _, hE⟩ := hown.elems (by have := nums_some (l := l); rw [← hbs] at this; have := HLEN.out; unfold maxLen; omega)
  have HSH := Lib.hid (refShape_any (c := c1) hE (Nat.le_refl _) hin (by have := nums_some (l := l); rw [← hbs] at this; have := HLEN.out; omega))
  have HK1 := Lib.hid hk1
  have HIN := Lib.hid hin
  have HBS := Lib.hid hbs
  clear hown hin hbs hk1 hE HRD
  go_wp2_with fail
  refine (HSH.out).mono ?_
  rintro e w2 ⟨y, ok, rfl, hk2, hyes, hno⟩
  have hs2 : w.heap.size < w2.heap.size := by have := HS0.out; have := HK1.out.size; have := hk2.size; omega
  have hs1 : w.heap.size + 1 ≤ w1.heap.size := by have := HS0.out; have := HK1.out.size; omega
  have HS1 := Lib.hid hs1
  clear hs1
  obtain ⟨W3, hW3⟩ : ∃ W3, w2.alloc (.cells #[.slice y.os y.obs.length y.oc, .slice y.ps y.prs.length y.pc, .slice y.ks y.pis.length y.kc] 26) = W3 := ⟨_, rfl⟩
  have hy3 : W3.heap[w2.heap.size]? = some (.cells #[.slice y.os y.obs.length y.oc, .slice y.ps y.prs.length y.pc, .slice y.ks y.pis.length y.kc] 26 (0, 0)) := by rw [← hW3]; exact heap_alloc_new w2 _
  have hk23 : Kept (fun g => g < w1.heap.size) w2 W3 := by rw [← hW3]; exact (Kept.refl _ w2).alloc _
  have hz3 : W3.heap.size = w2.heap.size + 1 := by rw [← hW3]; simp
  have hk3 : Kept (fun _ => False) W0 W3 := by rw [← hW3]; exact (HK1.out.trans hk2 (fun _ _ f => f)).alloc _
  cases ok
  · have hno2 := codeB_no (both_no HIN.out HBS.out (hno rfl))
    obtain ⟨⟨g0, g1, g2⟩, ⟨q0, q1, q2⟩, ⟨rb0, rb1, rb2⟩, _, hkk⟩ := HEND.out W3 (.slice none 0 0) (.slice none 0 0) (.slice none 0 0) hk3
    have HF : Hid (RefTo w bs (.returned (.tuple #[.agg #[.slice none 0 0, .slice none 0 0, .slice none 0 0], .int .i64 2])) _) := Lib.hid ⟨zeroSc, 2, rfl, hno2.1.symm, (gotP_no hno2.2).symm, (owned_none 0 _).lies, hkk⟩
    clear hno hno2 hkk hyes hk2 hk3 hy3 hk23 hz3 HEND HSH HW0
    unfold Sc.agg
    go_wp2_with fail
    exact bodyPost_ret (v := .tuple #[.agg #[.slice none 0 0, .slice none 0 0, .slice none 0 0], .int .i64 2]) (by simp [results, Try.results15, go_sem, rb0, rb1, rb2]) rfl HF.out
  obtain ⟨hsc, hlies⟩ := hyes rfl
  have hbsc := both_yes HBS.out hsc
  have hl3 := hlies W3 hk23
  have HL := Lib.hid (fun (w' : World) (hk : Kept (fun g => g < w1.heap.size) W3 w') => hlies w' (hk23.trans hk (fun g _ hg => hg)))
  have HK3 := Lib.hid hk3
  have HBSC := Lib.hid hbsc
  have HY3 := Lib.hid hy3
  have HZ3 := Lib.hid hz3
  clear hsc hlies hbsc hyes hno hk2 hk3 hy3 hk23 hz3 HSH HW0
  -- what Check comes to
  have hck : ∃ k : Int, k = codeB bs ∧ (k = 0 ∨ k = 1 ∨ k = 8) ∧ (k = 0 → partsOf y = gotP bs) ∧ (k ≠ 0 → yesB bs = false) ∧ Calls Try.prog 11 #[y.agg] W3 fun e w' => e = .returned (.int .i64 k) ∧ Kept (fun _ => False) W3 w' := by
    obtain ⟨q1, q2⟩ := codeB_yes HBSC.out
    cases hl : largeF y
    · have hlp : largeP (partsOf y) = false := by rw [← large_parts, hl]
      cases hg : goodF y
      · have hgp : goodP (partsOf y) = false := by rw [← good_partsP, hg]
        refine ⟨1, by rw [q1, hlp, hgp]; rfl, .inr (.inl rfl), (fun h => by cases h), (fun _ => by rw [q2, hlp, hgp]; rfl), ?_⟩
        exact ref_small hl3 (Nat.le_refl _) hl false hg
      · have hgp : goodP (partsOf y) = true := by rw [← good_partsP, hg]
        refine ⟨0, by rw [q1, hlp, hgp]; rfl, .inl rfl, (fun _ => (gotP_yes HBSC.out (by rw [q2, hlp, hgp]; rfl)).symm), (fun h => absurd rfl h), ?_⟩
        exact ref_small hl3 (Nat.le_refl _) hl true hg
    · have hlp : largeP (partsOf y) = true := by rw [← large_parts, hl]
      refine ⟨8, by rw [q1, hlp]; rfl, .inr (.inr rfl), (fun h => by cases h), (fun _ => by rw [q2, hlp]; rfl), ?_⟩
      exact ref_large hl3 (Nat.le_refl _) hl
  obtain ⟨k, hkc, hk3, hk0, hkn, hck⟩ := hck
  have HCK := Lib.hid hck
  have HKC := Lib.hid hkc
  have HK0 := Lib.hid hk0
  have HKN := Lib.hid hkn
  clear hck hkc hk0 hkn hl3
  obtain ⟨p0, p1, p2⟩ := res_cells HY3.out
  unfold Sc.agg
  go_wp2_with fail
  refine (HCK.out).mono ?_
  clear p0 p1 p2 hW3
  rintro e w4 ⟨rfl, hk4⟩
  have hy4 := (hk4.block w2.heap.size (by have := HZ3.out; omega) (fun f => f)).trans HY3.out
  obtain ⟨p0, p1, p2⟩ := res_cells hy4
  have HK4 := Lib.hid (HK3.out.trans hk4 (fun _ _ f => f))
  have HL4 := Lib.hid (fun (w' : World) (hk : Kept (fun g => g < w1.heap.size) w4 w') => HL.out w' ((hk4.mono (fun _ _ f => f.elim)).trans hk (fun g _ hg => hg)))
  clear hk4 hy4 HL HCK
  by_cases hkz : k = 0
  · subst hkz
    obtain ⟨⟨g0, g1, g2⟩, ⟨q0, q1, q2⟩, ⟨rb0, rb1, rb2⟩, hkw, hkk⟩ := HEND.out w4 (.slice y.os y.obs.length y.oc) (.slice y.ps y.prs.length y.pc) (.slice y.ks y.pis.length y.kc) HK4.out
    have HF : Hid (RefTo w bs (.returned (.tuple #[.agg #[.slice y.os y.obs.length y.oc, .slice y.ps y.prs.length y.pc, .slice y.ks y.pis.length y.kc], .int .i64 0])) _) := Lib.hid ⟨y, 0, rfl, HKC.out, HK0.out rfl, HL4.out _ (hkw.mono (fun g _ hg => by have := HS1.out; omega)), hkk⟩
    clear hkw hkk hk3 HEND
    go_wp2_with fail
    exact bodyPost_ret (v := .tuple #[.agg #[.slice y.os y.obs.length y.oc, .slice y.ps y.prs.length y.pc, .slice y.ks y.pis.length y.kc], .int .i64 0]) (by simp [results, Try.results15, go_sem, rb0, rb1, rb2]) rfl HF.out
  · obtain ⟨⟨g0, g1, g2⟩, ⟨q0, q1, q2⟩, ⟨rb0, rb1, rb2⟩, hkw, hkk⟩ := HEND.out w4 (.slice none 0 0) (.slice none 0 0) (.slice none 0 0) HK4.out
    have HF : Hid (RefTo w bs (.returned (.tuple #[.agg #[.slice none 0 0, .slice none 0 0, .slice none 0 0], .int .i64 k])) _) := Lib.hid ⟨zeroSc, k, rfl, HKC.out, (gotP_no (HKN.out hkz)).symm, (owned_none 0 _).lies, hkk⟩
    have hn : (k != 0) = true := by rw [bne_iff_ne]; exact hkz
    clear hkw hkk hk3 HEND hkz
    go_wp2_with fail
    exact bodyPost_ret (v := .tuple #[.agg #[.slice none 0 0, .slice none 0 0, .slice none 0 0], .int .i64 k]) (by simp [results, Try.results15, go_sem, rb0, rb1, rb2]) rfl HF.out

end Go.Proofs.Ytkicpbnphbcdaaa
