/-
  The document's Parse: a line that is an instruction, or nothing.
  Conditions: a line of at most 100000 bytes.
-/
import Derived.Test.YtibgkhfadlgonaaDoorParseTop
namespace Go.Proofs.YtibgkhfadlgonaaDoor
open Go.RowKit

theorem words_few : ∀ l : Str, (wordsL l).length ≤ l.length + 1 ∧ ∀ v ∈ wordsL l, v.length ≤ l.length := by
  intro l
  induction l with
  | nil => exact ⟨by simp [wordsL], by simp [wordsL]⟩
  | cons c l ih =>
    rw [words_cons]
    split
    · refine ⟨by simp; omega, fun v hv => ?_⟩
      rcases List.mem_cons.1 hv with rfl | hv
      · simp
      · have := ih.2 v hv; simp; omega
    · rcases hw : wordsL l with _ | ⟨w, ws⟩
      · exact absurd hw (words_ne l)
      · rw [hw] at ih
        refine ⟨by have := ih.1; simp at this ⊢; omega, fun v hv => ?_⟩
        rcases List.mem_cons.1 hv with rfl | hv
        · have := ih.2 w (by simp); simp; omega
        · have := ih.2 v (by simp [hv]); simp; omega

set_option maxHeartbeats 4000000 in
set_option maxRecDepth 100000 in
theorem rest_ins {w wr : World} {t : ByteArray} {u : Nat → Value} {Q : Exit → Act → World → Prop} {l : Str} {m : Nat} (hv : VarL w wr zeroLn) (hm : m < t.size) (hm1 : t.size = m + 1) (h0 : 0 < t.size) (hc : t[0].toNat ≠ 59) (hlast : t[m].toNat ≠ 58) (ht : t.size ≤ 100000)
    (hp : parseL l = insL (wordsL (bytesS t))) (hret : Hid (RetL w l Q)) : Code.wp Tryd.prog parseRest Q (frO t w.heap.size u) wr := by
  obtain ⟨n1, n2⟩ := str_some h0
  have hc' : ((t[0].toNat : Int) == 59) = false := by rw [beq_eq_false_iff_ne]; omega
  have h58 : ((t[m].toNat : Int) == 58) = false := by rw [beq_eq_false_iff_ne]; omega
  have hcast : (t.size : Int) - 1 = (m : Int) := by omega
  have hcmp : (m : Int) < (t.size : Int) := by omega
  have hm9 : (m : Int) ≤ 100000 := by omega
  have HW := Lib.hid (refWords_any t wr ht)
  have hwf := words_few (bytesS t)
  rw [bytesS_len] at hwf
  rcases hws : wordsL (bytesS t) with _ | ⟨w0, r⟩
  · exact absurd hws (words_ne _)
  rw [hws] at hp hwf
  have HP := Lib.hid hp
  have HWF := Lib.hid hwf
  have HWS := Lib.hid hws
  have HV := Lib.hid hv
  have HT := Lib.hid ht
  have hbz : w.heap.size + 1 < wr.heap.size := (Array.getElem?_eq_some_iff.1 hv.var).1
  have HBZ := Lib.hid hbz
  clear hp hwf hws hv hlast hc hm1 ht hbz
  unfold frO frP
  conv => arg 2; whnf
  go_wp2_with fail
  refine (HW.out).mono ?_
  rintro e w1 ⟨v, rfl, hown, hk1⟩
  rw [HWS.out] at hown
  obtain ⟨A, c, rfl, hM⟩ := Made.of_own sC_one hown rfl (by have := HWF.out.1; have := HT.out; unfold maxLen; simp at *; omega)
  obtain ⟨g, rfl, hg1, hg2⟩ := hM.new (by simp)
  have HM := Lib.hid hM
  have HK1 := Lib.hid hk1
  clear hown hM hk1 HW hc' h58 hm9 n1 n2
  go_wp2_with fail
  refine (refTable_any w1).mono ?_
  rintro e w2 ⟨rfl, htab, hk2⟩
  have HTAB : Hid (Made w1.heap.size w2 (some ⟨w1.heap.size, 0, none⟩) 22 1 sC (specs.map specText)) := Lib.hid ⟨htab, by decide, fun _ => ⟨_, rfl, Nat.le_refl _, by have := hk2.size; obtain ⟨g', off', e, hb, _⟩ := htab.2 0 (specText ([115, 101, 116], [65, 78])) rfl; simp only [Option.some.injEq, Addr.mk.injEq, and_true] at e; omega⟩⟩
  have HK2 := Lib.hid hk2
  have HLOOP := Lib.hid (fun (Q' : Exit → Act → World → Prop) (act : Act) (he : ∃ v9 v10 v11 u', act = frP t w.heap.size (.slice (some ⟨g, 0, none⟩) (w0 :: r).length c) (.slice (some ⟨w1.heap.size, 0, none⟩) 22 22) (.int .i64 ((0 : Nat) : Int)) v9 v10 v11 u') (hr : RetL w l Q')
    (hq : ∀ a' w', (∃ v9 v10 v11 u', a' = frP t w.heap.size (.slice (some ⟨g, 0, none⟩) (w0 :: r).length c) (.slice (some ⟨w1.heap.size, 0, none⟩) 22 22) (.int .i64 ((22 : Nat) : Int)) v9 v10 v11 u') → VarL w w' zeroLn → parseL l = none → Q' (.exit 4) a' w') => (by
      obtain ⟨v9, v10, v11, u', rfl⟩ := he
      have hz1 := HK1.out.size
      have hbz := HBZ.out
      refine ops_loop (r := r) ((HV.out.on HK1.out).on HK2.out) rfl (by have := HWF.out.1; have := HT.out; simp at *; omega) (fun v hv => by have := HWF.out.2 v (by simp [hv]); have := HT.out; omega) ?_ ?_ HP.out (Lib.hid hr) (Lib.hid hq)
      · intro w' hk
        exact ((HM.out.kept HK2.out (fun _ _ _ _ _ f => f)).kept hk (fun _ q hq _ _ e => by omega)).elems
      · intro w' hk
        exact (HTAB.out.kept hk (fun _ q hq _ _ e => by omega)).elems : Code.wp Tryd.prog (Code.loop parseC) Q' act w2))
  clear htab hk2
  go_wp2_with fail
  refine HLOOP.out _ _ (by obtain ⟨u1, h1⟩ := frP_of (s := t) (b := w.heap.size) (v6 := .slice (some ⟨g, 0, none⟩) (w0 :: r).length c) (v7 := .slice (some ⟨w1.heap.size, 0, none⟩) 22 22) (v8 := .int .i64 ((0 : Nat) : Int)) (v9 := u 9) (v10 := u 10) (v11 := u 11) (by kernel_rfl); exact ⟨_, _, _, u1, h1⟩) (fun a' w' ok he hf => hret.out a' w' ok he hf) ?_
  rintro a' w' ⟨x9, x10, x11, u', rfl⟩ hv3 hnone
  obtain ⟨⟨d0, d1, d2, d3, d4, d5, d6⟩, ⟨e0, e1, e2, e3, e4, e5, e6⟩⟩ := cells7 hv3.res
  have HF := Lib.hid (hv3.no hnone)
  clear hv3 hnone HLOOP
  unfold frP
  go_wp2_with fail
  exact hret.out _ _ _ (frQ_of (by kernel_rfl)) HF.out

end Go.Proofs.YtibgkhfadlgonaaDoor
