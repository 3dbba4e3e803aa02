/-
  The document's Parse: the table of instructions.
  Conditions: the words and the table lie in blocks that were there.
  What the document's Parse of layer 7 comes to.
  Conditions: a line of at most 100000 bytes.
  The document's Parse: a line that is an instruction, or nothing.
  Conditions: a line of at most 100000 bytes.
  What the document's Parse of layer 7 comes to.
  Conditions: a line of at most 100000 bytes.
-/
import Derived.Test.YtofnomkedpagfaaParseArgs
section
namespace Go.Proofs.Ytofnomkedpagfaa
open Go.RowKit

section
variable {w wr : World} {g off n c k gt : Nat} {s : ByteArray} {y : Ln} {v9 v10 v11 : Value} {u : Nat → Value} {Q : Exit → Act → World → Prop} {l : Str} {w0 : Str} {r : List Str} {p : Str × Str}

set_option maxHeartbeats 4000000 in
set_option maxRecDepth 100000 in
theorem op_end (hk : ¬ k < 22) (hend : Hid (∀ a', (∃ v9 v10 v11 u', a' = frP s w.heap.size (.slice (some ⟨g, off, none⟩) n c) (.slice (some ⟨gt, 0, none⟩) 22 22) (.int .i64 k) v9 v10 v11 u') → Q (.exit 4) a' wr)) :
    Code.wp Try.prog parseC Q (frP s w.heap.size (.slice (some ⟨g, off, none⟩) n c) (.slice (some ⟨gt, 0, none⟩) 22 22) (.int .i64 k) v9 v10 v11 u) wr := by
  have hk' : ¬ (k : Int) < 22 := by omega
  unfold frP
  conv => arg 2; whnf
  go_wp2_with fail
  exact hend.out _ (by obtain ⟨u1, h1⟩ := frP_of (s := s) (b := w.heap.size) (v6 := .slice (some ⟨g, off, none⟩) n c) (v7 := .slice (some ⟨gt, 0, none⟩) 22 22) (v8 := .int .i64 k) (v9 := v9) (v10 := v10) (v11 := v11) (by kernel_rfl); exact ⟨_, _, _, u1, h1⟩)

set_option maxHeartbeats 4000000 in
set_option maxRecDepth 100000 in
theorem op_skip (hk : k < 22) (hct : wr.cell? ⟨gt, k, none⟩ = some (.string (strS (specText p)))) (hsp : ∀ w, Calls Try.prog 41 #[.string (strS (specText p))] w fun e w' => e = .returned (.tuple #[.string (strS p.1), .string (strS p.2)]) ∧ Kept (fun _ => False) w w')
    (hcw : ∀ w', Kept (fun _ => False) wr w' → w'.cell? ⟨g, off, none⟩ = some (.string (strS w0))) (hn : n = r.length + 1) (hn2 : n ≤ 200000) (hne : ¬ (p.1 = w0 ∧ p.2.length = r.length))
    (hnext : Hid (∀ a' w', (∃ v9 v10 v11 u', a' = frP s w.heap.size (.slice (some ⟨g, off, none⟩) n c) (.slice (some ⟨gt, 0, none⟩) 22 22) (.int .i64 ((k : Int) + 1)) v9 v10 v11 u') → Kept (fun _ => False) wr w' → Q .normal a' w')) :
    Code.wp Try.prog parseC Q (frP s w.heap.size (.slice (some ⟨g, off, none⟩) n c) (.slice (some ⟨gt, 0, none⟩) 22 22) (.int .i64 k) v9 v10 v11 u) wr := by
  have hk' : (k : Int) < 22 := by omega
  have HSP := Lib.hid hsp
  have HCW := Lib.hid hcw
  have heq := str_eq (strS p.1) w0
  rw [bytesS_str] at heq
  have hsz : (strS p.2).size = p.2.length := strS_size _
  obtain ⟨m, hm⟩ : ∃ m, p.2.length = m := ⟨_, rfl⟩
  rw [hm] at hsz hne
  have hn0 : 0 < n := by omega
  by_cases h1 : p.1 = w0
  · have h2 : ((m : Int) != (n : Int) - 1) = true := by
      rw [bne_iff_ne]; intro e; exact hne ⟨h1, by omega⟩
    rw [decide_eq_true h1] at heq
    clear h1 hne hm hn hsp hcw
    unfold frP
    conv => arg 2; whnf
    go_wp2_with fail
    refine (HSP.out _).mono ?_
    rintro e w1 ⟨rfl, hk1⟩
    have c9 := HCW.out _ hk1
    have HK1 := Lib.hid hk1
    clear hk1 hct
    go_wp2_with fail
    exact hnext.out _ _ (by obtain ⟨u1, h1⟩ := frP_of (s := s) (b := w.heap.size) (v6 := .slice (some ⟨g, off, none⟩) n c) (v7 := .slice (some ⟨gt, 0, none⟩) 22 22) (v8 := .int .i64 ((k : Int) + 1)) (v9 := .string (strS p.1)) (v10 := .string (strS p.2)) (v11 := v11) (by kernel_rfl); exact ⟨_, _, _, u1, h1⟩) HK1.out
  · rw [decide_eq_false h1] at heq
    clear h1 hne hm hn hsp hcw
    unfold frP
    conv => arg 2; whnf
    go_wp2_with fail
    refine (HSP.out _).mono ?_
    rintro e w1 ⟨rfl, hk1⟩
    have c9 := HCW.out _ hk1
    have HK1 := Lib.hid hk1
    clear hk1 hct
    go_wp2_with fail
    exact hnext.out _ _ (by obtain ⟨u1, h1⟩ := frP_of (s := s) (b := w.heap.size) (v6 := .slice (some ⟨g, off, none⟩) n c) (v7 := .slice (some ⟨gt, 0, none⟩) 22 22) (v8 := .int .i64 ((k : Int) + 1)) (v9 := .string (strS p.1)) (v10 := .string (strS p.2)) (v11 := v11) (by kernel_rfl); exact ⟨_, _, _, u1, h1⟩) HK1.out

set_option maxHeartbeats 8000000 in
set_option maxRecDepth 100000 in
theorem op_take (hk : k < 22) (hv : VarL w wr zeroLn) (hct : wr.cell? ⟨gt, k, none⟩ = some (.string (strS (specText p)))) (hsp : ∀ w, Calls Try.prog 41 #[.string (strS (specText p))] w fun e w' => e = .returned (.tuple #[.string (strS p.1), .string (strS p.2)]) ∧ Kept (fun _ => False) w w')
    (hel : ∀ w', Kept (fun q => q = w.heap.size + 1) wr w' → Elems w' w'.heap.size (some ⟨g, off, none⟩) 1 sC (w0 :: r)) (hn : n = r.length + 1) (hn2 : n ≤ 200000) (hp2 : p.2.length ≤ 1000) (h1 : p.1 = w0) (h2 : p.2.length = r.length)
    (hset : ∀ h ∈ p.2, h.toNat = 65 ∨ h.toNat = 66 ∨ h.toNat = 67 ∨ h.toNat = 78 ∨ h.toNat = 84) (hword : ∀ v ∈ r, v.length ≤ 100000)
    (hpl : parseL l = (argsL p.2 r { zeroLn with op := (k : Int) + 1 }).bind casOk) (hret : Hid (RetL w l Q)) :
    Code.wp Try.prog parseC Q (frP s w.heap.size (.slice (some ⟨g, off, none⟩) n c) (.slice (some ⟨gt, 0, none⟩) 22 22) (.int .i64 k) v9 v10 v11 u) wr := by
  have hk' : (k : Int) < 22 := by omega
  have HSP := Lib.hid hsp
  have HEL := Lib.hid hel
  have HV := Lib.hid hv
  have HPL := Lib.hid hpl
  have HCW := Lib.hid (fun (w' : World) (hk : Kept (fun _ => False) wr w') => (by
    have := sC_same (hel w' (hk.mono (fun _ _ f => f.elim))) (k := 0) (x := w0) rfl
    rwa [Nat.add_zero] at this : w'.cell? ⟨g, off, none⟩ = some (.string (strS w0))))
  have heq := str_eq (strS p.1) w0
  rw [bytesS_str, decide_eq_true h1] at heq
  have hsz : (strS p.2).size = p.2.length := strS_size _
  obtain ⟨m, hm⟩ : ∃ m, p.2.length = m := ⟨_, rfl⟩
  have HLEN := Lib.hid h2
  have HP2 := Lib.hid hp2
  have HN := Lib.hid hn
  rw [hm] at hsz h2
  have hn0 : 0 < n := by omega
  have h2' : ((m : Int) != (n : Int) - 1) = false := by
    rw [bne_eq_false_iff_eq]; omega
  have HSET := Lib.hid hset
  have HWORD := Lib.hid hword
  clear hm hn hsp hel hv hpl h1 h2 hp2 hset hword
  unfold frP
  conv => arg 2; whnf
  go_wp2_with fail
  refine (HSP.out _).mono ?_
  rintro e w1 ⟨rfl, hk1⟩
  have c9 := HCW.out _ hk1
  have hv1 := HV.out.on hk1
  obtain ⟨⟨c0, c1, c2, c3, c4, c5, c6⟩, ⟨f0, f1, f2, f3, f4, f5, f6⟩⟩ := cells7 hv1.var
  have hv2 : VarL w (w1.setCell ⟨w.heap.size + 1, 1, none⟩ (.int .i64 ((k : Int) + 1))) { zeroLn with op := (k : Int) + 1 } := hv1.set (by rfl)
  have hkw : Kept (fun q => q = w.heap.size + 1) wr (w1.setCell ⟨w.heap.size + 1, 1, none⟩ (.int .i64 ((k : Int) + 1))) := (hk1.mono (fun _ _ f => f.elim)).setCell _ _ (fun _ => rfl)
  have HV2 := Lib.hid hv2
  have HKW := Lib.hid hkw
  clear hk1 hct hv1 hv2 hkw HCW
  go_wp2_with fail
  have HLOOP := Lib.hid (fun (Q' : Exit → Act → World → Prop) (u' : Nat → Value) (hr : RetL w l Q') (hq : ∀ a' w' y, (∃ v11 u', a' = frP s w.heap.size (.slice (some ⟨g, off, none⟩) n c) (.slice (some ⟨gt, 0, none⟩) 22 22) (.int .i64 k) (.string (strS p.1)) (.string (strS p.2)) v11 u') → VarL w w' y → argsL p.2 r { zeroLn with op := (k : Int) + 1 } = some y → Q' (.exit 6) a' w') =>
    args_loop (g := g) (off := off) (n := n) (c := c) (s := s) (v7 := .slice (some ⟨gt, 0, none⟩) 22 22) (v8 := .int .i64 k) (v9 := .string (strS p.1)) (u := u') (Q := Q') (l := l) (w0 := w0) HV2.out HLEN.out HN.out HP2.out HSET.out HWORD.out (fun w' hk => HEL.out w' (HKW.out.trans hk (fun _ _ e => e))) (fun e => by rw [HPL.out, e]; rfl) (Lib.hid hr) (Lib.hid (fun a' w' y he hv hk ha => hq a' w' y he hv ha)))
  have HLOOP2 := Lib.hid (fun (Q' : Exit → Act → World → Prop) (act : Act) (he : ∃ u', act = frP s w.heap.size (.slice (some ⟨g, off, none⟩) n c) (.slice (some ⟨gt, 0, none⟩) 22 22) (.int .i64 k) (.string (strS p.1)) (.string (strS p.2)) (.int .i64 ((0 : Nat) : Int)) u') (hr : RetL w l Q') (hq : ∀ a' w' y, (∃ v11 u', a' = frP s w.heap.size (.slice (some ⟨g, off, none⟩) n c) (.slice (some ⟨gt, 0, none⟩) 22 22) (.int .i64 k) (.string (strS p.1)) (.string (strS p.2)) v11 u') → VarL w w' y → argsL p.2 r { zeroLn with op := (k : Int) + 1 } = some y → Q' (.exit 6) a' w') => (by
      obtain ⟨u', rfl⟩ := he
      exact HLOOP.out Q' u' hr hq : Code.wp Try.prog (Code.loop parseD) Q' act (w1.setCell ⟨w.heap.size + 1, 1, none⟩ (.int .i64 ((k : Int) + 1)))))
  refine HLOOP2.out _ _ (frP_of (by kernel_rfl)) (fun a' w' ok he hf => hret.out a' w' ok he hf) ?_
  rintro a' w' y ⟨v11', u', rfl⟩ hv3 hargs
  obtain ⟨⟨c0, c1, c2, c3, c4, c5, c6⟩, ⟨f0, f1, f2, f3, f4, f5, f6⟩⟩ := cells7 hv3.var
  obtain ⟨⟨d0, d1, d2, d3, d4, d5, d6⟩, ⟨e0, e1, e2, e3, e4, e5, e6⟩⟩ := cells7 hv3.res
  have HV3 := Lib.hid hv3
  have HARGS := Lib.hid hargs
  clear hv3 hargs HLOOP HLOOP2 c9 heq hsz h2'
  by_cases h7 : y.op = 7
  · have h7' : (y.op == 7) = true := by rw [beq_iff_eq]; exact h7
    by_cases h13 : 13 < y.a
    · have HF := Lib.hid (HV3.out.no (l := l) (by rw [HPL.out, HARGS.out]; show casOk y = none; unfold casOk; rw [if_pos ⟨h7, h13⟩]))
      clear h7
      unfold frP
      go_wp2_with fail
      exact hret.out _ _ _ (frQ_of (by kernel_rfl)) HF.out
    · have HF := Lib.hid (HV3.out.yes (l := l) (by rw [HPL.out, HARGS.out]; show casOk y = some y; unfold casOk; rw [if_neg (fun hh => h13 hh.2)]))
      clear h7
      unfold frP
      go_wp2_with fail
      exact hret.out _ _ _ (frQ_of (by kernel_rfl)) HF.out
  · have h7' : (y.op == 7) = false := by rw [beq_eq_false_iff_ne]; exact h7
    have HF := Lib.hid (HV3.out.yes (l := l) (by rw [HPL.out, HARGS.out]; show casOk y = some y; unfold casOk; rw [if_neg (fun hh => h7 hh.1)]))
    clear h7
    unfold frP
    go_wp2_with fail
    exact hret.out _ _ _ (frQ_of (by kernel_rfl)) HF.out
end

theorem specs_set : ∀ p ∈ specs, (∀ h ∈ p.2, h.toNat = 65 ∨ h.toNat = 66 ∨ h.toNat = 67 ∨ h.toNat = 78 ∨ h.toNat = 84) ∧ p.2.length ≤ 1000 ∧ (∀ c ∈ p.1, c.toNat ≠ 32) ∧ (specText p).length ≤ 1000 := by decide +kernel

theorem ops_loop {w wr : World} {g off n c gt : Nat} {s : ByteArray} {v9 v10 v11 : Value} {u : Nat → Value} {Q : Exit → Act → World → Prop} {l w0 : Str} {r : List Str}
    (hv : VarL w wr zeroLn) (hn : n = r.length + 1) (hn2 : n ≤ 200000) (hword : ∀ v ∈ r, v.length ≤ 100000)
    (hel : ∀ w', Kept (fun q => q = w.heap.size + 1) wr w' → Elems w' w'.heap.size (some ⟨g, off, none⟩) 1 sC (w0 :: r))
    (htab : ∀ w', Kept (fun q => q = w.heap.size + 1) wr w' → Elems w' w'.heap.size (some ⟨gt, 0, none⟩) 1 sC (specs.map specText))
    (hpl : parseL l = insL (w0 :: r)) (hret : Hid (RetL w l Q))
    (hend : Hid (∀ a' w', (∃ v9 v10 v11 u', a' = frP s w.heap.size (.slice (some ⟨g, off, none⟩) n c) (.slice (some ⟨gt, 0, none⟩) 22 22) (.int .i64 ((22 : Nat) : Int)) v9 v10 v11 u') → VarL w w' zeroLn → parseL l = none → Q (.exit 4) a' w')) :
    Code.wp Try.prog (Code.loop parseC) Q (frP s w.heap.size (.slice (some ⟨g, off, none⟩) n c) (.slice (some ⟨gt, 0, none⟩) 22 22) (.int .i64 ((0 : Nat) : Int)) v9 v10 v11 u) wr := by
  refine wp_loop (fun a' w' => ∃ (k : Nat) (v9 v10 v11 : Value) (u : Nat → Value), a' = frP s w.heap.size (.slice (some ⟨g, off, none⟩) n c) (.slice (some ⟨gt, 0, none⟩) 22 22) (.int .i64 k) v9 v10 v11 u ∧ k ≤ 22 ∧ VarL w w' zeroLn ∧ Kept (fun _ => False) wr w' ∧ findL 1 specs w0 r.length = findL (k + 1) (specs.drop k) w0 r.length)
    (fun a' _ => 22 - (intOf (a'.tmps.getD 8 undef)).toNat) ?_ ?_
  · exact ⟨0, v9, v10, v11, u, rfl, by omega, hv, Kept.refl _ _, rfl⟩
  rintro _ w1 ⟨k, v9, v10, v11, u, rfl, hk22, hv1, hk, hfind⟩
  have hspl : specs.length = 22 := rfl
  by_cases hk2 : k < 22
  case neg =>
    obtain rfl : k = 22 := by omega
    refine op_end hk2 (Lib.hid ?_)
    rintro a' ⟨x9, x10, x11, u', rfl⟩
    refine hend.out _ _ ⟨_, _, _, u', rfl⟩ hv1 ?_
    rw [hpl]
    unfold insL
    dsimp only
    rw [hfind]; rfl
  obtain ⟨p, hp⟩ : ∃ p, specs[k]? = some p := ⟨_, List.getElem?_eq_getElem (by omega)⟩
  obtain ⟨s1, s2, s3, s4⟩ := specs_set p (List.mem_of_getElem? hp)
  have hk' : Kept (fun q => q = w.heap.size + 1) wr w1 := hk.mono (fun _ _ f => f.elim)
  have hct : w1.cell? ⟨gt, k, none⟩ = some (.string (strS (specText p))) := by
    have := sC_same (htab w1 hk') (k := k) (x := specText p) (by rw [List.getElem?_map, hp]; rfl)
    rwa [Nat.zero_add] at this
  have hsp : ∀ w, Calls Try.prog 41 #[.string (strS (specText p))] w fun e w' => e = .returned (.tuple #[.string (strS p.1), .string (strS p.2)]) ∧ Kept (fun _ => False) w w' :=
    fun w => refSplit_any (strS (specText p)) p.1 p.2 rfl s3 (by rw [strS_size]; omega) w
  have hdrop : specs.drop k = p :: specs.drop (k + 1) := by
    obtain ⟨h1, h2⟩ := List.getElem?_eq_some_iff.1 hp
    rw [← h2]; exact List.drop_eq_getElem_cons h1
  have hmu : ∀ (a9 a10 a11 : Value) (u' : Nat → Value), 22 - (intOf ((frP s w.heap.size (.slice (some ⟨g, off, none⟩) n c) (.slice (some ⟨gt, 0, none⟩) 22 22) (.int .i64 ((k : Int) + 1)) a9 a10 a11 u').tmps.getD 8 undef)).toNat < 22 - (intOf ((frP s w.heap.size (.slice (some ⟨g, off, none⟩) n c) (.slice (some ⟨gt, 0, none⟩) 22 22) (.int .i64 k) v9 v10 v11 u).tmps.getD 8 undef)).toNat := by
    intro a9 a10 a11 u'
    show 22 - (intOf (.int .i64 ((k : Int) + 1))).toNat < 22 - (intOf (.int .i64 (k : Int))).toNat
    simp [intOf]; omega
  by_cases hm : p.1 = w0 ∧ p.2.length = r.length
  · refine op_take hk2 hv1 hct hsp (fun w' hk3 => hel w' (hk'.trans hk3 (fun _ _ e => e))) hn hn2 s2 hm.1 hm.2 s1 hword ?_ (Lib.hid (fun a' w' ok he hf => hret.out a' w' ok he hf))
    rw [hpl]
    unfold insL
    dsimp only
    rw [hfind, hdrop]
    obtain ⟨p1, p2⟩ := p
    unfold findL
    rw [if_pos hm]
    rfl
  · refine op_skip hk2 hct hsp (fun w' hk3 => ?_) hn hn2 hm (Lib.hid ?_)
    · have := sC_same (hel w' (hk'.trans hk3 (fun _ _ f => f.elim))) (k := 0) (x := w0) rfl
      rwa [Nat.add_zero] at this
    · rintro a' w' ⟨x9, x10, x11, u', rfl⟩ hk3
      refine ⟨⟨k + 1, x9, x10, x11, u', rfl, by omega, hv1.on hk3, hk.trans hk3 (fun _ _ f => f), ?_⟩, hmu _ _ _ _⟩
      rw [hfind, hdrop]
      obtain ⟨p1, p2⟩ := p
      conv => lhs; unfold findL
      rw [if_neg hm]

end Go.Proofs.Ytofnomkedpagfaa
end
section
namespace Go.Proofs.Ytofnomkedpagfaa
open Go.RowKit

noncomputable def parseRest : Code := down [1, 1, 1, 1] (Try.f32.body.getD .skip)
/-- The frame where nothing but the string is read later. -/
def frO (s : ByteArray) (b : Nat) (u : Nat → Value) : Act := frP s b (u 6) (u 7) (u 8) (u 9) (u 10) (u 11) u
theorem frO_of {s : ByteArray} {b : Nat} {a : Act} (h : a = frO s b (lett a)) : ∃ u, a = frO s b u := ⟨_, h⟩

theorem str_empty {t : ByteArray} (h : t.size = 0) : t = strS [] := bytesS_inj (by rw [bytesS_str]; exact List.eq_nil_of_length_eq_zero (by rw [bytesS_len]; exact h))
theorem str_some {t : ByteArray} (h : 0 < t.size) : t.toList.isEmpty = false ∧ ¬ t.toList = [] := by
  have e : t.toList = bytesS t := by rw [ByteArray.toList_eq]; rfl
  have h2 : (bytesS t).length ≠ 0 := by rw [bytesS_len]; omega
  rw [e]
  rcases hb : bytesS t with _ | ⟨c, r⟩
  · rw [hb] at h2; simp at h2
  · exact ⟨rfl, by simp⟩
theorem last_at (t : ByteArray) (h : 0 < t.size) : (bytesS t).getLast? = some t[t.size - 1] := by
  rw [List.getLast?_eq_getElem?, bytesS_len]; exact bytesS_at t (t.size - 1) (by omega)
theorem cut_last (t : ByteArray) : bytesS (t.extract 0 (t.size - 1)) = (bytesS t).dropLast := by
  rw [bytesS_cut, List.drop_zero, List.dropLast_eq_take, bytesS_len]; rfl
theorem cut_first (t : ByteArray) : bytesS (t.extract 1 t.size) = (bytesS t).drop 1 := by
  rw [bytesS_cut, List.take_of_length_le]; rw [List.length_drop, bytesS_len]; omega

section
variable {w wr : World} {s t : ByteArray} {u : Nat → Value} {Q : Exit → Act → World → Prop} {l : Str}

set_option maxHeartbeats 4000000 in
set_option maxRecDepth 100000 in
theorem rest_empty (hv : VarL w wr zeroLn) (hp : parseL l = some zeroLn) (h : t.size = 0) (hret : Hid (RetL w l Q)) : Code.wp Try.prog parseRest Q (frO t w.heap.size u) wr := by
  obtain ⟨⟨c0, c1, c2, c3, c4, c5, c6⟩, ⟨f0, f1, f2, f3, f4, f5, f6⟩⟩ := cells7 hv.var
  obtain ⟨⟨d0, d1, d2, d3, d4, d5, d6⟩, ⟨e0, e1, e2, e3, e4, e5, e6⟩⟩ := cells7 hv.res
  have HF := Lib.hid (hv.yes hp)
  have n2 : t.toList = [] := by rw [str_empty h, ByteArray.toList_eq]; rfl
  have n1 : t.toList.isEmpty = true := by rw [n2]; rfl
  clear h hv hp
  unfold frO frP
  conv => arg 2; whnf
  go_wp2_with fail
  exact hret.out _ _ _ (frQ_of (by kernel_rfl)) HF.out

set_option maxHeartbeats 4000000 in
set_option maxRecDepth 100000 in
theorem rest_semi (hv : VarL w wr zeroLn) (hp : parseL l = some zeroLn) (h : 0 < t.size) (hc : t[0].toNat = 59) (hret : Hid (RetL w l Q)) : Code.wp Try.prog parseRest Q (frO t w.heap.size u) wr := by
  obtain ⟨⟨c0, c1, c2, c3, c4, c5, c6⟩, ⟨f0, f1, f2, f3, f4, f5, f6⟩⟩ := cells7 hv.var
  obtain ⟨⟨d0, d1, d2, d3, d4, d5, d6⟩, ⟨e0, e1, e2, e3, e4, e5, e6⟩⟩ := cells7 hv.res
  have HF := Lib.hid (hv.yes hp)
  obtain ⟨n1, n2⟩ := str_some h
  clear hv hp
  unfold frO frP
  conv => arg 2; whnf
  go_wp2_with fail
  exact hret.out _ _ _ (frQ_of (by kernel_rfl)) HF.out

set_option maxHeartbeats 4000000 in
set_option maxRecDepth 100000 in
theorem rest_label {m : Nat} (hv : VarL w wr zeroLn) (hm : m < t.size) (hm1 : t.size = m + 1) (h0 : 0 < t.size) (hc : t[0].toNat ≠ 59) (hlast : t[m].toNat = 58) (ht : t.size ≤ 100000)
    (hp : parseL l = if isName (bytesS t).dropLast then some { zeroLn with label := (bytesS t).dropLast } else none) (hret : Hid (RetL w l Q)) : Code.wp Try.prog parseRest Q (frO t w.heap.size u) wr := by
  obtain ⟨n1, n2⟩ := str_some h0
  have hc' : ((t[0].toNat : Int) == 59) = false := by rw [beq_eq_false_iff_ne]; omega
  have h58 : ((t[m].toNat : Int) == 58) = true := by rw [beq_iff_eq]; omega
  obtain ⟨lb, hlb⟩ : ∃ lb, t.extract 0 m = lb := ⟨_, rfl⟩
  have hb : (bytesS t).dropLast = bytesS lb := by rw [← hlb, ← cut_last, hm1]; rfl
  rw [hb] at hp
  have hlbs : lb.size ≤ 9223372036854775807 := by rw [← bytesS_len, ← hb, List.length_dropLast, bytesS_len]; omega
  have hcast : (t.size : Int) - 1 = (m : Int) := by omega
  have hcmp : (m : Int) < (t.size : Int) := by omega
  have hm9 : (m : Int) ≤ 100000 := by omega
  obtain ⟨W2, hW2⟩ : ∃ W2, wr.setCell ⟨w.heap.size + 1, 0, none⟩ (.string lb) = W2 := ⟨_, rfl⟩
  have hv2 : VarL w W2 { zeroLn with label := bytesS lb } := by rw [← hW2]; exact hv.set (by rw [← strS_bytes lb]; rfl)
  obtain ⟨⟨c0, _⟩, ⟨f0, _⟩⟩ := cells7 hv.var
  obtain ⟨⟨k0, k1, k2, k3, k4, k5, k6⟩, _⟩ := cells7 hv2.var
  obtain ⟨⟨d0, d1, d2, d3, d4, d5, d6⟩, ⟨e0, e1, e2, e3, e4, e5, e6⟩⟩ := cells7 hv2.res
  have k0' : W2.cell? ⟨w.heap.size + 1, 0, none⟩ = some (.string lb) := by rw [k0, strS_bytes]
  have HN := Lib.hid (refName_any lb W2 hlbs)
  have HV2 := Lib.hid hv2
  have HP := Lib.hid hp
  clear hv hv2 hp k0 hlbs hb hlast hc hm1 ht
  cases hn : isName (bytesS lb)
  · have HF := Lib.hid (HV2.out.no (l := l) (by rw [HP.out, hn]; rfl))
    have HN2 : Hid (Calls Try.prog 38 #[.string lb] W2 fun e w' => e = .returned (.bool false) ∧ W2 = w') := Lib.hid (by have := HN.out; rwa [hn] at this)
    clear hn HN
    unfold frO frP
    conv => arg 2; whnf
    go_wp2_with fail
    refine (HN2.out).mono ?_
    rintro e wx ⟨rfl, rfl⟩
    clear hW2
    go_wp2_with fail
    exact hret.out _ _ _ (frQ_of (by kernel_rfl)) HF.out
  · have HF := Lib.hid (HV2.out.yes (l := l) (by rw [HP.out, hn]; rfl))
    have HN2 : Hid (Calls Try.prog 38 #[.string lb] W2 fun e w' => e = .returned (.bool true) ∧ W2 = w') := Lib.hid (by have := HN.out; rwa [hn] at this)
    clear hn HN
    unfold frO frP
    conv => arg 2; whnf
    go_wp2_with fail
    refine (HN2.out).mono ?_
    rintro e wx ⟨rfl, rfl⟩
    clear hW2
    go_wp2_with fail
    exact hret.out _ _ _ (frQ_of (by kernel_rfl)) HF.out
end

end Go.Proofs.Ytofnomkedpagfaa
end
section
namespace Go.Proofs.Ytofnomkedpagfaa
open Go.RowKit

theorem words_few : ∀ l : Str, (wordsL l).length ≤ l.length + 1 ∧ ∀ v ∈ wordsL l, v.length ≤ l.length := by
  intro l
  induction l with
  | nil => exact ⟨by simp [wordsL], by simp [wordsL]⟩
  | cons c l ih =>
    rw [words_cons]
    split
    · refine ⟨by simp; omega, fun v hv => ?_⟩
      rcases List.mem_cons.1 hv with rfl | hv
      · simp
      · have := ih.2 v hv; simp; omega
    · rcases hw : wordsL l with _ | ⟨w, ws⟩
      · exact absurd hw (words_ne l)
      · rw [hw] at ih
        refine ⟨by have := ih.1; simp at this ⊢; omega, fun v hv => ?_⟩
        rcases List.mem_cons.1 hv with rfl | hv
        · have := ih.2 w (by simp); simp; omega
        · have := ih.2 v (by simp [hv]); simp; omega

set_option maxHeartbeats 4000000 in
set_option maxRecDepth 100000 in
theorem rest_ins {w wr : World} {t : ByteArray} {u : Nat → Value} {Q : Exit → Act → World → Prop} {l : Str} {m : Nat} (hv : VarL w wr zeroLn) (hm : m < t.size) (hm1 : t.size = m + 1) (h0 : 0 < t.size) (hc : t[0].toNat ≠ 59) (hlast : t[m].toNat ≠ 58) (ht : t.size ≤ 100000)
    (hp : parseL l = insL (wordsL (bytesS t))) (hret : Hid (RetL w l Q)) : Code.wp Try.prog parseRest Q (frO t w.heap.size u) wr := by
  obtain ⟨n1, n2⟩ := str_some h0
  have hc' : ((t[0].toNat : Int) == 59) = false := by rw [beq_eq_false_iff_ne]; omega
  have h58 : ((t[m].toNat : Int) == 58) = false := by rw [beq_eq_false_iff_ne]; omega
  have hcast : (t.size : Int) - 1 = (m : Int) := by omega
  have hcmp : (m : Int) < (t.size : Int) := by omega
  have hm9 : (m : Int) ≤ 100000 := by omega
  have HW := Lib.hid (refWords_any t wr ht)
  have hwf := words_few (bytesS t)
  rw [bytesS_len] at hwf
  rcases hws : wordsL (bytesS t) with _ | ⟨w0, r⟩
  · exact absurd hws (words_ne _)
  rw [hws] at hp hwf
  have HP := Lib.hid hp
  have HWF := Lib.hid hwf
  have HWS := Lib.hid hws
  have HV := Lib.hid hv
  have HT := Lib.hid ht
  have hbz : w.heap.size + 1 < wr.heap.size := (Array.getElem?_eq_some_iff.1 hv.var).1
  have HBZ := Lib.hid hbz
  clear hp hwf hws hv hlast hc hm1 ht hbz
  unfold frO frP
  conv => arg 2; whnf
  go_wp2_with fail
  refine (HW.out).mono ?_
  rintro e w1 ⟨v, rfl, hown, hk1⟩
  rw [HWS.out] at hown
  obtain ⟨A, c, rfl, hM⟩ := Made.of_own sC_one hown rfl (by have := HWF.out.1; have := HT.out; unfold maxLen; simp at *; omega)
  obtain ⟨g, rfl, hg1, hg2⟩ := hM.new (by simp)
  have HM := Lib.hid hM
  have HK1 := Lib.hid hk1
  clear hown hM hk1 HW hc' h58 hm9 n1 n2
  go_wp2_with fail
  refine (refTable_any w1).mono ?_
  rintro e w2 ⟨rfl, htab, hk2⟩
  have HTAB : Hid (Made w1.heap.size w2 (some ⟨w1.heap.size, 0, none⟩) 22 1 sC (specs.map specText)) := Lib.hid ⟨htab, by decide, fun _ => ⟨_, rfl, Nat.le_refl _, by have := hk2.size; obtain ⟨g', off', e, hb, _⟩ := htab.2 0 (specText ([115, 101, 116], [65, 78])) rfl; simp only [Option.some.injEq, Addr.mk.injEq, and_true] at e; omega⟩⟩
  have HK2 := Lib.hid hk2
  have HLOOP := Lib.hid (fun (Q' : Exit → Act → World → Prop) (act : Act) (he : ∃ v9 v10 v11 u', act = frP t w.heap.size (.slice (some ⟨g, 0, none⟩) (w0 :: r).length c) (.slice (some ⟨w1.heap.size, 0, none⟩) 22 22) (.int .i64 ((0 : Nat) : Int)) v9 v10 v11 u') (hr : RetL w l Q')
    (hq : ∀ a' w', (∃ v9 v10 v11 u', a' = frP t w.heap.size (.slice (some ⟨g, 0, none⟩) (w0 :: r).length c) (.slice (some ⟨w1.heap.size, 0, none⟩) 22 22) (.int .i64 ((22 : Nat) : Int)) v9 v10 v11 u') → VarL w w' zeroLn → parseL l = none → Q' (.exit 4) a' w') => (by
      obtain ⟨v9, v10, v11, u', rfl⟩ := he
      have hz1 := HK1.out.size
      have hbz := HBZ.out
      refine ops_loop (r := r) ((HV.out.on HK1.out).on HK2.out) rfl (by have := HWF.out.1; have := HT.out; simp at *; omega) (fun v hv => by have := HWF.out.2 v (by simp [hv]); have := HT.out; omega) ?_ ?_ HP.out (Lib.hid hr) (Lib.hid hq)
      · intro w' hk
        exact ((HM.out.kept HK2.out (fun _ _ _ _ _ f => f)).kept hk (fun _ q hq _ _ e => by omega)).elems
      · intro w' hk
        exact (HTAB.out.kept hk (fun _ q hq _ _ e => by omega)).elems : Code.wp Try.prog (Code.loop parseC) Q' act w2))
  clear htab hk2
  go_wp2_with fail
  refine HLOOP.out _ _ (by obtain ⟨u1, h1⟩ := frP_of (s := t) (b := w.heap.size) (v6 := .slice (some ⟨g, 0, none⟩) (w0 :: r).length c) (v7 := .slice (some ⟨w1.heap.size, 0, none⟩) 22 22) (v8 := .int .i64 ((0 : Nat) : Int)) (v9 := u 9) (v10 := u 10) (v11 := u 11) (by kernel_rfl); exact ⟨_, _, _, u1, h1⟩) (fun a' w' ok he hf => hret.out a' w' ok he hf) ?_
  rintro a' w' ⟨x9, x10, x11, u', rfl⟩ hv3 hnone
  obtain ⟨⟨d0, d1, d2, d3, d4, d5, d6⟩, ⟨e0, e1, e2, e3, e4, e5, e6⟩⟩ := cells7 hv3.res
  have HF := Lib.hid (hv3.no hnone)
  clear hv3 hnone HLOOP
  unfold frP
  go_wp2_with fail
  exact hret.out _ _ _ (frQ_of (by kernel_rfl)) HF.out

end Go.Proofs.Ytofnomkedpagfaa
end
section
namespace Go.Proofs.Ytofnomkedpagfaa
open Go.RowKit

theorem isBlank_iff (c : UInt8) : isBlank c = true ↔ c.toNat = 32 ∨ c.toNat = 9 := by unfold isBlank; simp
theorem bytesS_first {t : ByteArray} (h : 0 < t.size) : bytesS t = t[0] :: (bytesS t).drop 1 := by
  have := bytesS_at t 0 h
  rcases hb : bytesS t with _ | ⟨c, r⟩
  · rw [hb] at this; simp at this
  · rw [hb] at this
    simp only [List.getElem?_cons_zero, Option.some.injEq] at this
    rw [this]; rfl
theorem bytesS_last {t : ByteArray} {m : Nat} (hm : m < t.size) (hm1 : t.size = m + 1) : bytesS t = (bytesS t).dropLast ++ [t[m]] := by
  have h0 : bytesS t ≠ [] := fun e => by have := bytesS_len t; rw [e] at this; simp at this; omega
  have h1 := List.dropLast_concat_getLast h0
  have h2 : (bytesS t).getLast h0 = t[m] := by
    have h3 : (bytesS t).getLast? = some ((bytesS t).getLast h0) := List.getLast?_eq_some_getLast h0
    rw [List.getLast?_eq_getElem?, bytesS_len, show t.size - 1 = m by omega, bytesS_at t m hm] at h3
    exact (Option.some.inj h3).symm
  rw [← h2, h1]

section
variable {w wr : World} {s t : ByteArray} {u : Nat → Value} {Q : Exit → Act → World → Prop} {l : Str} {b m : Nat}

set_option maxHeartbeats 2000000 in
set_option maxRecDepth 100000 in
theorem left_stop (ht : t.size ≤ 100000) (h : t.size = 0 ∨ ∃ h : 0 < t.size, isBlank t[0] = false) (hend : Hid (∀ a', (∃ u, a' = frO t b u) → Q (.exit 0) a' wr)) :
    Code.wp Try.prog parseA Q (frO t b u) wr := by
  rcases h with h | ⟨h, hb⟩
  · have h1 : ¬ (0 : Int) < (t.size : Int) := by omega
    clear h
    unfold frO frP
    conv => arg 2; whnf
    go_wp2_with fail
    exact hend.out _ (frO_of (by kernel_rfl))
  · have hb' : ¬ (t[0].toNat = 32 ∨ t[0].toNat = 9) := fun e => by rw [(isBlank_iff _).2 e] at hb; cases hb
    have h1 : (0 : Int) < (t.size : Int) := by omega
    have h2 : ((t[0].toNat : Int) == 32) = false := by rw [beq_eq_false_iff_ne]; omega
    have h3 : ((t[0].toNat : Int) == 9) = false := by rw [beq_eq_false_iff_ne]; omega
    clear hb hb'
    unfold frO frP
    conv => arg 2; whnf
    go_wp2_with fail
    exact hend.out _ (frO_of (by kernel_rfl))

set_option maxHeartbeats 2000000 in
set_option maxRecDepth 100000 in
theorem left_next (ht : t.size ≤ 100000) (h : 0 < t.size) (hb : isBlank t[0] = true) (hnext : Hid (∀ a', (∃ u, a' = frO (t.extract 1 t.size) b u) → Q .normal a' wr)) :
    Code.wp Try.prog parseA Q (frO t b u) wr := by
  have h1 : (0 : Int) < (t.size : Int) := by omega
  have h9 : (1 : Int) ≤ (t.size : Int) := by omega
  rcases (isBlank_iff _).1 hb with e | e
  · have h2 : ((t[0].toNat : Int) == 32) = true := by rw [beq_iff_eq]; omega
    clear hb e
    unfold frO frP
    conv => arg 2; whnf
    go_wp2_with fail
    exact hnext.out _ (frO_of (by kernel_rfl))
  · have h2 : ((t[0].toNat : Int) == 32) = false := by rw [beq_eq_false_iff_ne]; omega
    have h3 : ((t[0].toNat : Int) == 9) = true := by rw [beq_iff_eq]; omega
    clear hb e
    unfold frO frP
    conv => arg 2; whnf
    go_wp2_with fail
    exact hnext.out _ (frO_of (by kernel_rfl))

set_option maxHeartbeats 2000000 in
set_option maxRecDepth 100000 in
theorem right_zero (h : t.size = 0) (hend : Hid (∀ a', (∃ u, a' = frO t b u) → Q (.exit 2) a' wr)) : Code.wp Try.prog parseB Q (frO t b u) wr := by
  have h1 : ¬ (0 : Int) < (t.size : Int) := by omega
  clear h
  unfold frO frP
  conv => arg 2; whnf
  go_wp2_with fail
  exact hend.out _ (frO_of (by kernel_rfl))

set_option maxHeartbeats 2000000 in
set_option maxRecDepth 100000 in
theorem right_stop (ht : t.size ≤ 100000) (hm : m < t.size) (hm1 : t.size = m + 1) (hb : isBlank t[m] = false) (hend : Hid (∀ a', (∃ u, a' = frO t b u) → Q (.exit 2) a' wr)) :
    Code.wp Try.prog parseB Q (frO t b u) wr := by
  have hb' : ¬ (t[m].toNat = 32 ∨ t[m].toNat = 9) := fun e => by rw [(isBlank_iff _).2 e] at hb; cases hb
  have h1 : (0 : Int) < (t.size : Int) := by omega
  have h2 : ((t[m].toNat : Int) == 32) = false := by rw [beq_eq_false_iff_ne]; omega
  have h3 : ((t[m].toNat : Int) == 9) = false := by rw [beq_eq_false_iff_ne]; omega
  have hcast : (t.size : Int) - 1 = (m : Int) := by omega
  have hcmp : (m : Int) < (t.size : Int) := by omega
  have hm9 : (m : Int) ≤ 100000 := by omega
  clear hb hb' hm1
  unfold frO frP
  conv => arg 2; whnf
  go_wp2_with fail
  exact hend.out _ (frO_of (by kernel_rfl))

set_option maxHeartbeats 2000000 in
set_option maxRecDepth 100000 in
theorem right_next (ht : t.size ≤ 100000) (hm : m < t.size) (hm1 : t.size = m + 1) (hb : isBlank t[m] = true) (hnext : Hid (∀ a', (∃ u, a' = frO (t.extract 0 m) b u) → Q .normal a' wr)) :
    Code.wp Try.prog parseB Q (frO t b u) wr := by
  have h1 : (0 : Int) < (t.size : Int) := by omega
  have hcast : (t.size : Int) - 1 = (m : Int) := by omega
  have hcmp : (m : Int) < (t.size : Int) := by omega
  have hm9 : (m : Int) ≤ 100000 := by omega
  rcases (isBlank_iff _).1 hb with e | e
  · have h2 : ((t[m].toNat : Int) == 32) = true := by rw [beq_iff_eq]; omega
    clear hb e hm1
    unfold frO frP
    conv => arg 2; whnf
    go_wp2_with fail
    exact hnext.out _ (frO_of (by kernel_rfl))
  · have h2 : ((t[m].toNat : Int) == 32) = false := by rw [beq_eq_false_iff_ne]; omega
    have h3 : ((t[m].toNat : Int) == 9) = true := by rw [beq_iff_eq]; omega
    clear hb e hm1
    unfold frO frP
    conv => arg 2; whnf
    go_wp2_with fail
    exact hnext.out _ (frO_of (by kernel_rfl))
end

def sizeV (v : Value) : Nat := match v with
  | .string t => t.size
  | _ => 0

theorem left_loop {wr : World} {s : ByteArray} {u : Nat → Value} {Q : Exit → Act → World → Prop} {b : Nat} (hs : s.size ≤ 100000)
    (hend : ∀ a' t, (∃ u, a' = frO t b u) → t.size ≤ 100000 → bytesS t = trimL (bytesS s) → Q (.exit 0) a' wr) : Code.wp Try.prog (Code.loop parseA) Q (frO s b u) wr := by
  refine wp_loop (fun a' w' => w' = wr ∧ ∃ (t : ByteArray) (u : Nat → Value), a' = frO t b u ∧ t.size ≤ 100000 ∧ trimL (bytesS t) = trimL (bytesS s)) (fun a' _ => sizeV (a'.tmps.getD 0 undef)) ⟨rfl, s, u, rfl, hs, rfl⟩ ?_
  rintro _ _ ⟨rfl, t, u, rfl, ht, htr⟩
  by_cases h0 : t.size = 0
  · refine left_stop ht (.inl h0) (Lib.hid (fun a' he => hend a' t he ht ?_))
    rw [← htr, str_empty h0]; rfl
  have hp : 0 < t.size := by omega
  cases hb : isBlank t[0]
  · refine left_stop ht (.inr ⟨hp, hb⟩) (Lib.hid (fun a' he => hend a' t he ht ?_))
    rw [← htr]
    unfold trimL
    rw [bytesS_first hp, List.dropWhile_cons_of_neg (by rw [hb]; simp)]
  · have hsz : (t.extract 1 t.size).size = t.size - 1 := by rw [← bytesS_len, cut_first, List.length_drop, bytesS_len]
    refine left_next ht hp hb (Lib.hid ?_)
    rintro a' ⟨u', rfl⟩
    refine ⟨⟨rfl, _, u', rfl, by omega, ?_⟩, ?_⟩
    · rw [← htr, cut_first]
      conv => rhs; rw [bytesS_first hp]
      unfold trimL
      rw [List.dropWhile_cons_of_pos hb]
    · show (t.extract 1 t.size).size < t.size
      omega
theorem right_loop {wr : World} {s : ByteArray} {u : Nat → Value} {Q : Exit → Act → World → Prop} {b : Nat} (hs : s.size ≤ 100000)
    (hend : ∀ a' t, (∃ u, a' = frO t b u) → t.size ≤ 100000 → bytesS t = trimR (bytesS s) → Q (.exit 2) a' wr) : Code.wp Try.prog (Code.loop parseB) Q (frO s b u) wr := by
  refine wp_loop (fun a' w' => w' = wr ∧ ∃ (t : ByteArray) (u : Nat → Value), a' = frO t b u ∧ t.size ≤ 100000 ∧ trimR (bytesS t) = trimR (bytesS s)) (fun a' _ => sizeV (a'.tmps.getD 0 undef)) ⟨rfl, s, u, rfl, hs, rfl⟩ ?_
  rintro _ _ ⟨rfl, t, u, rfl, ht, htr⟩
  by_cases h0 : t.size = 0
  · refine right_zero h0 (Lib.hid (fun a' he => hend a' t he ht ?_))
    rw [← htr, str_empty h0]; rfl
  obtain ⟨m, hm1⟩ : ∃ m, t.size = m + 1 := ⟨t.size - 1, by omega⟩
  have hm : m < t.size := by omega
  cases hb : isBlank t[m]
  · refine right_stop ht hm hm1 hb (Lib.hid (fun a' he => hend a' t he ht ?_))
    rw [← htr]
    unfold trimR
    rw [bytesS_last hm hm1, List.reverse_append]
    show _ = (List.dropWhile isBlank (t[m] :: _)).reverse
    rw [List.dropWhile_cons_of_neg (by rw [hb]; simp)]
    simp
  · have hcut : bytesS (t.extract 0 m) = (bytesS t).dropLast := by rw [← cut_last, hm1]; rfl
    have hsz : (t.extract 0 m).size = t.size - 1 := by rw [← bytesS_len, hcut, List.length_dropLast, bytesS_len]
    refine right_next ht hm hm1 hb (Lib.hid ?_)
    rintro a' ⟨u', rfl⟩
    refine ⟨⟨rfl, _, u', rfl, by omega, ?_⟩, ?_⟩
    · rw [← htr, hcut]
      conv => rhs; rw [bytesS_last hm hm1]
      rw [trimR_all _ (by simp [hb])]
    · show (t.extract 0 m).size < t.size
      omega

theorem rest_any {w wr : World} {t : ByteArray} {u : Nat → Value} {Q : Exit → Act → World → Prop} {l : Str} (hv : VarL w wr zeroLn) (ht : t.size ≤ 100000) (hl : parseL l = coreL (bytesS t)) (hret : RetL w l Q) : Code.wp Try.prog parseRest Q (frO t w.heap.size u) wr := by
  by_cases h0 : t.size = 0
  · exact rest_empty hv (by rw [hl, str_empty h0]; rfl) h0 (Lib.hid hret)
  have hp : 0 < t.size := by omega
  obtain ⟨m, hm1⟩ : ∃ m, t.size = m + 1 := ⟨t.size - 1, by omega⟩
  have hm : m < t.size := by omega
  have e1 := bytesS_first hp
  have hla : (bytesS t).getLast? = some t[m] := by rw [List.getLast?_eq_getElem?, bytesS_len, show t.size - 1 = m by omega]; exact bytesS_at t m hm
  have hcore : coreL (bytesS t) = if t[0].toNat = 59 then some zeroLn else if t[m].toNat = 58 then (if isName (bytesS t).dropLast then some { zeroLn with label := (bytesS t).dropLast } else none) else insL (wordsL (bytesS t)) := by
    rcases hb : bytesS t with _ | ⟨c, r⟩
    · rw [hb] at e1; cases e1
    · rw [hb] at e1 hla
      have e2 : c = t[0] := by
        simp only [List.cons.injEq] at e1
        exact e1.1
      unfold coreL
      dsimp only
      rw [hla, e2]
      by_cases h : t[0].toNat = 59
      · rw [if_pos h, if_pos h]
      · rw [if_neg h, if_neg h]
        by_cases h' : t[m].toNat = 58
        · rw [if_pos h', if_pos (by simp [h'])]
        · rw [if_neg h', if_neg (by simpa using h')]
  rw [hcore] at hl
  by_cases h : t[0].toNat = 59
  · rw [if_pos h] at hl
    exact rest_semi hv hl hp h (Lib.hid hret)
  · rw [if_neg h] at hl
    by_cases h' : t[m].toNat = 58
    · rw [if_pos h'] at hl
      exact rest_label hv hm hm1 hp h h' ht hl (Lib.hid hret)
    · rw [if_neg h'] at hl
      exact rest_ins hv hm hm1 hp h h' ht hl (Lib.hid hret)

/-- What Parse leaves: a line, and whether it is one. -/
def ParseTo (w : World) (l : Str) (e : Ending) (w' : World) : Prop :=
  ∃ (x : Ln) (ok : Bool), e = .returned (.tuple #[.agg #[.string (strS x.label), .int .i64 x.op, .int .i64 x.a, .int .i64 x.b, .int .i64 x.c, .int .i64 x.n, .string (strS x.target)], .bool ok]) ∧ parseL l = (if ok then some x else none) ∧ (ok = false → x = zeroLn) ∧ Kept (fun _ => False) w w'

set_option maxHeartbeats 4000000 in
set_option maxRecDepth 100000 in
theorem refParse_any (s : ByteArray) (w : World) (hs : s.size ≤ 100000) : Calls Try.prog 32 #[.string s] w (ParseTo w (bytesS s)) := by
  obtain ⟨W0, hW0⟩ : ∃ W0, (w.alloc (.cells #[.string { data := #[] }, .int .i64 0, .int .i64 0, .int .i64 0, .int .i64 0, .int .i64 0, .string { data := #[] }] 89)).alloc (.cells #[.string { data := #[] }, .int .i64 0, .int .i64 0, .int .i64 0, .int .i64 0, .int .i64 0, .string { data := #[] }] 89) = W0 := ⟨_, rfl⟩
  have hv0 : VarL w W0 zeroLn := by
    refine ⟨?_, ?_, ?_⟩
    · rw [← hW0]
      have := heap_new1 (w.alloc (.cells #[.string { data := #[] }, .int .i64 0, .int .i64 0, .int .i64 0, .int .i64 0, .int .i64 0, .string { data := #[] }] 89)) (.cells #[.string { data := #[] }, .int .i64 0, .int .i64 0, .int .i64 0, .int .i64 0, .int .i64 0, .string { data := #[] }] 89)
      rw [World.size_alloc] at this
      exact this
    · rw [← hW0]
      exact (((Kept.refl (fun _ => False) (w.alloc (.cells #[.string { data := #[] }, .int .i64 0, .int .i64 0, .int .i64 0, .int .i64 0, .int .i64 0, .string { data := #[] }] 89))).alloc _).block _ (by simp) (fun f => f)).trans (heap_new1 w _)
    · rw [← hW0]; exact ((Kept.refl _ w).alloc _).alloc _
  have HV0 := Lib.hid hv0
  clear hv0
  have HLL := Lib.hid (fun (Q : Exit → Act → World → Prop) (act : Act) (he : ∃ u, act = frO s w.heap.size u) (hend : ∀ a' t, (∃ u, a' = frO t w.heap.size u) → t.size ≤ 100000 → bytesS t = trimL (bytesS s) → Q (.exit 0) a' W0) => (by
    obtain ⟨u, rfl⟩ := he
    exact left_loop hs hend : Code.wp Try.prog (Code.loop parseA) Q act W0))
  have HRL := Lib.hid (fun (t : ByteArray) (ht : t.size ≤ 100000) (Q : Exit → Act → World → Prop) (act : Act) (he : ∃ u, act = frO t w.heap.size u) (hend : ∀ a' t2, (∃ u, a' = frO t2 w.heap.size u) → t2.size ≤ 100000 → bytesS t2 = trimR (bytesS t) → Q (.exit 2) a' W0) => (by
    obtain ⟨u, rfl⟩ := he
    exact right_loop ht hend : Code.wp Try.prog (Code.loop parseB) Q act W0))
  go_enter Try.func32, Try.ntmps32
  go_wp2_with fail
  clear hW0
  refine HLL.out _ _ (frO_of (by kernel_rfl)) ?_
  rintro a' t ⟨u', rfl⟩ ht htr
  have HTR := Lib.hid htr
  have HT := Lib.hid ht
  clear htr ht
  unfold frO frP
  go_wp2_with fail
  refine HRL.out t HT.out _ _ (frO_of (by kernel_rfl)) ?_
  rintro a' t2 ⟨u2, rfl⟩ ht2 htr2
  have hl : parseL (bytesS s) = coreL (bytesS t2) := by unfold parseL trimS; rw [htr2, HTR.out]
  rename_i K hK
  show K (frO t2 w.heap.size u2) W0
  apply hK
  refine rest_any HV0.out ht2 hl ?_
  rintro a' w' ok ⟨u3, rfl⟩ ⟨hk, x, hx, hp, hz⟩
  clear hK HV0 HLL HRL
  obtain ⟨⟨t0, t1, t2, t3, t4, t5, t6⟩, _⟩ := cells7 hx
  unfold frQ
  exact bodyPost_ret (v := .tuple #[.agg #[.string (strS x.label), .int .i64 x.op, .int .i64 x.a, .int .i64 x.b, .int .i64 x.c, .int .i64 x.n, .string (strS x.target)], .bool ok]) (by simp [results, Try.results32, go_sem, t0, t1, t2, t3, t4, t5, t6]) rfl ⟨x, ok, rfl, hp, hz, hk⟩

end Go.Proofs.Ytofnomkedpagfaa
end
