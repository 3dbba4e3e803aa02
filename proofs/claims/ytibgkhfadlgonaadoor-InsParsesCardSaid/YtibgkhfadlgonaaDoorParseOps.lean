/-
  The document's Parse: the table of instructions.
  Conditions: the words and the table lie in blocks that were there.
-/
import Derived.Test.YtibgkhfadlgonaaDoorParseArgs
namespace Go.Proofs.YtibgkhfadlgonaaDoor
open Go.RowKit

section
variable {w wr : World} {g off n c k gt : Nat} {s : ByteArray} {y : Ln} {v9 v10 v11 : Value} {u : Nat → Value} {Q : Exit → Act → World → Prop} {l : Str} {w0 : Str} {r : List Str} {p : Str × Str}

set_option maxHeartbeats 4000000 in
set_option maxRecDepth 100000 in
theorem op_end (hk : ¬ k < 22) (hend : Hid (∀ a', (∃ v9 v10 v11 u', a' = frP s w.heap.size (.slice (some ⟨g, off, none⟩) n c) (.slice (some ⟨gt, 0, none⟩) 22 22) (.int .i64 k) v9 v10 v11 u') → Q (.exit 4) a' wr)) :
    Code.wp Tryd.prog parseC Q (frP s w.heap.size (.slice (some ⟨g, off, none⟩) n c) (.slice (some ⟨gt, 0, none⟩) 22 22) (.int .i64 k) v9 v10 v11 u) wr := by
  have hk' : ¬ (k : Int) < 22 := by omega
  unfold frP
  conv => arg 2; whnf
  go_wp2_with fail
  exact hend.out _ (by obtain ⟨u1, h1⟩ := frP_of (s := s) (b := w.heap.size) (v6 := .slice (some ⟨g, off, none⟩) n c) (v7 := .slice (some ⟨gt, 0, none⟩) 22 22) (v8 := .int .i64 k) (v9 := v9) (v10 := v10) (v11 := v11) (by kernel_rfl); exact ⟨_, _, _, u1, h1⟩)

set_option maxHeartbeats 4000000 in
set_option maxRecDepth 100000 in
theorem op_skip (hk : k < 22) (hct : wr.cell? ⟨gt, k, none⟩ = some (.string (strS (specText p)))) (hsp : ∀ w, Calls Tryd.prog 17 #[.string (strS (specText p))] w fun e w' => e = .returned (.tuple #[.string (strS p.1), .string (strS p.2)]) ∧ Kept (fun _ => False) w w')
    (hcw : ∀ w', Kept (fun _ => False) wr w' → w'.cell? ⟨g, off, none⟩ = some (.string (strS w0))) (hn : n = r.length + 1) (hn2 : n ≤ 200000) (hne : ¬ (p.1 = w0 ∧ p.2.length = r.length))
    (hnext : Hid (∀ a' w', (∃ v9 v10 v11 u', a' = frP s w.heap.size (.slice (some ⟨g, off, none⟩) n c) (.slice (some ⟨gt, 0, none⟩) 22 22) (.int .i64 ((k : Int) + 1)) v9 v10 v11 u') → Kept (fun _ => False) wr w' → Q .normal a' w')) :
    Code.wp Tryd.prog parseC Q (frP s w.heap.size (.slice (some ⟨g, off, none⟩) n c) (.slice (some ⟨gt, 0, none⟩) 22 22) (.int .i64 k) v9 v10 v11 u) wr := by
  have hk' : (k : Int) < 22 := by omega
  have HSP := Lib.hid hsp
  have HCW := Lib.hid hcw
  have heq := str_eq (strS p.1) w0
  rw [bytesS_str] at heq
  have hsz : (strS p.2).size = p.2.length := strS_size _
  obtain ⟨m, hm⟩ : ∃ m, p.2.length = m := ⟨_, rfl⟩
  rw [hm] at hsz hne
  have hn0 : 0 < n := by omega
  by_cases h1 : p.1 = w0
  · have h2 : ((m : Int) != (n : Int) - 1) = true := by
      rw [bne_iff_ne]; intro e; exact hne ⟨h1, by omega⟩
    rw [decide_eq_true h1] at heq
    clear h1 hne hm hn hsp hcw
    unfold frP
    conv => arg 2; whnf
    go_wp2_with fail
    refine (HSP.out _).mono ?_
    rintro e w1 ⟨rfl, hk1⟩
    have c9 := HCW.out _ hk1
    have HK1 := Lib.hid hk1
    clear hk1 hct
    go_wp2_with fail
    exact hnext.out _ _ (by obtain ⟨u1, h1⟩ := frP_of (s := s) (b := w.heap.size) (v6 := .slice (some ⟨g, off, none⟩) n c) (v7 := .slice (some ⟨gt, 0, none⟩) 22 22) (v8 := .int .i64 ((k : Int) + 1)) (v9 := .string (strS p.1)) (v10 := .string (strS p.2)) (v11 := v11) (by kernel_rfl); exact ⟨_, _, _, u1, h1⟩) HK1.out
  · rw [decide_eq_false h1] at heq
    clear h1 hne hm hn hsp hcw
    unfold frP
    conv => arg 2; whnf
    go_wp2_with fail
    refine (HSP.out _).mono ?_
    rintro e w1 ⟨rfl, hk1⟩
    have c9 := HCW.out _ hk1
    have HK1 := Lib.hid hk1
    clear hk1 hct
    go_wp2_with fail
    exact hnext.out _ _ (by obtain ⟨u1, h1⟩ := frP_of (s := s) (b := w.heap.size) (v6 := .slice (some ⟨g, off, none⟩) n c) (v7 := .slice (some ⟨gt, 0, none⟩) 22 22) (v8 := .int .i64 ((k : Int) + 1)) (v9 := .string (strS p.1)) (v10 := .string (strS p.2)) (v11 := v11) (by kernel_rfl); exact ⟨_, _, _, u1, h1⟩) HK1.out

set_option maxHeartbeats 8000000 in
set_option maxRecDepth 100000 in
theorem op_take (hk : k < 22) (hv : VarL w wr zeroLn) (hct : wr.cell? ⟨gt, k, none⟩ = some (.string (strS (specText p)))) (hsp : ∀ w, Calls Tryd.prog 17 #[.string (strS (specText p))] w fun e w' => e = .returned (.tuple #[.string (strS p.1), .string (strS p.2)]) ∧ Kept (fun _ => False) w w')
    (hel : ∀ w', Kept (fun q => q = w.heap.size + 1) wr w' → Elems w' w'.heap.size (some ⟨g, off, none⟩) 1 sC (w0 :: r)) (hn : n = r.length + 1) (hn2 : n ≤ 200000) (hp2 : p.2.length ≤ 1000) (h1 : p.1 = w0) (h2 : p.2.length = r.length)
    (hset : ∀ h ∈ p.2, h.toNat = 65 ∨ h.toNat = 66 ∨ h.toNat = 67 ∨ h.toNat = 78 ∨ h.toNat = 84) (hword : ∀ v ∈ r, v.length ≤ 100000)
    (hpl : parseL l = (argsL p.2 r { zeroLn with op := (k : Int) + 1 }).bind casOk) (hret : Hid (RetL w l Q)) :
    Code.wp Tryd.prog parseC Q (frP s w.heap.size (.slice (some ⟨g, off, none⟩) n c) (.slice (some ⟨gt, 0, none⟩) 22 22) (.int .i64 k) v9 v10 v11 u) wr := by
  have hk' : (k : Int) < 22 := by omega
  have HSP := Lib.hid hsp
  have HEL := Lib.hid hel
  have HV := Lib.hid hv
  have HPL := Lib.hid hpl
  have HCW := Lib.hid (fun (w' : World) (hk : Kept (fun _ => False) wr w') => (by
    have := sC_same (hel w' (hk.mono (fun _ _ f => f.elim))) (k := 0) (x := w0) rfl
    rwa [Nat.add_zero] at this : w'.cell? ⟨g, off, none⟩ = some (.string (strS w0))))
  have heq := str_eq (strS p.1) w0
  rw [bytesS_str, decide_eq_true h1] at heq
  have hsz : (strS p.2).size = p.2.length := strS_size _
  obtain ⟨m, hm⟩ : ∃ m, p.2.length = m := ⟨_, rfl⟩
  have HLEN := Lib.hid h2
  have HP2 := Lib.hid hp2
  have HN := Lib.hid hn
  rw [hm] at hsz h2
  have hn0 : 0 < n := by omega
  have h2' : ((m : Int) != (n : Int) - 1) = false := by
    rw [bne_eq_false_iff_eq]; omega
  have HSET := Lib.hid hset
  have HWORD := Lib.hid hword
  clear hm hn hsp hel hv hpl h1 h2 hp2 hset hword
  unfold frP
  conv => arg 2; whnf
  go_wp2_with fail
  refine (HSP.out _).mono ?_
  rintro e w1 ⟨rfl, hk1⟩
  have c9 := HCW.out _ hk1
  have hv1 := HV.out.on hk1
  obtain ⟨⟨c0, c1, c2, c3, c4, c5, c6⟩, ⟨f0, f1, f2, f3, f4, f5, f6⟩⟩ := cells7 hv1.var
  have hv2 : VarL w (w1.setCell ⟨w.heap.size + 1, 1, none⟩ (.int .i64 ((k : Int) + 1))) { zeroLn with op := (k : Int) + 1 } := hv1.set (by rfl)
  have hkw : Kept (fun q => q = w.heap.size + 1) wr (w1.setCell ⟨w.heap.size + 1, 1, none⟩ (.int .i64 ((k : Int) + 1))) := (hk1.mono (fun _ _ f => f.elim)).setCell _ _ (fun _ => rfl)
  have HV2 := Lib.hid hv2
  have HKW := Lib.hid hkw
  clear hk1 hct hv1 hv2 hkw HCW
  go_wp2_with fail
  have HLOOP := Lib.hid (fun (Q' : Exit → Act → World → Prop) (u' : Nat → Value) (hr : RetL w l Q') (hq : ∀ a' w' y, (∃ v11 u', a' = frP s w.heap.size (.slice (some ⟨g, off, none⟩) n c) (.slice (some ⟨gt, 0, none⟩) 22 22) (.int .i64 k) (.string (strS p.1)) (.string (strS p.2)) v11 u') → VarL w w' y → argsL p.2 r { zeroLn with op := (k : Int) + 1 } = some y → Q' (.exit 6) a' w') =>
    args_loop (g := g) (off := off) (n := n) (c := c) (s := s) (v7 := .slice (some ⟨gt, 0, none⟩) 22 22) (v8 := .int .i64 k) (v9 := .string (strS p.1)) (u := u') (Q := Q') (l := l) (w0 := w0) HV2.out HLEN.out HN.out HP2.out HSET.out HWORD.out (fun w' hk => HEL.out w' (HKW.out.trans hk (fun _ _ e => e))) (fun e => by rw [HPL.out, e]; rfl) (Lib.hid hr) (Lib.hid (fun a' w' y he hv hk ha => hq a' w' y he hv ha)))
  have HLOOP2 := Lib.hid (fun (Q' : Exit → Act → World → Prop) (act : Act) (he : ∃ u', act = frP s w.heap.size (.slice (some ⟨g, off, none⟩) n c) (.slice (some ⟨gt, 0, none⟩) 22 22) (.int .i64 k) (.string (strS p.1)) (.string (strS p.2)) (.int .i64 ((0 : Nat) : Int)) u') (hr : RetL w l Q') (hq : ∀ a' w' y, (∃ v11 u', a' = frP s w.heap.size (.slice (some ⟨g, off, none⟩) n c) (.slice (some ⟨gt, 0, none⟩) 22 22) (.int .i64 k) (.string (strS p.1)) (.string (strS p.2)) v11 u') → VarL w w' y → argsL p.2 r { zeroLn with op := (k : Int) + 1 } = some y → Q' (.exit 6) a' w') => (by
      obtain ⟨u', rfl⟩ := he
      exact HLOOP.out Q' u' hr hq : Code.wp Tryd.prog (Code.loop parseD) Q' act (w1.setCell ⟨w.heap.size + 1, 1, none⟩ (.int .i64 ((k : Int) + 1)))))
  refine HLOOP2.out _ _ (frP_of (by kernel_rfl)) (fun a' w' ok he hf => hret.out a' w' ok he hf) ?_
  rintro a' w' y ⟨v11', u', rfl⟩ hv3 hargs
  obtain ⟨⟨c0, c1, c2, c3, c4, c5, c6⟩, ⟨f0, f1, f2, f3, f4, f5, f6⟩⟩ := cells7 hv3.var
  obtain ⟨⟨d0, d1, d2, d3, d4, d5, d6⟩, ⟨e0, e1, e2, e3, e4, e5, e6⟩⟩ := cells7 hv3.res
  have HV3 := Lib.hid hv3
  have HARGS := Lib.hid hargs
  clear hv3 hargs HLOOP HLOOP2 c9 heq hsz h2'
  by_cases h7 : y.op = 7
  · have h7' : (y.op == 7) = true := by rw [beq_iff_eq]; exact h7
    by_cases h13 : 13 < y.a
    · have HF := Lib.hid (HV3.out.no (l := l) (by rw [HPL.out, HARGS.out]; show casOk y = none; unfold casOk; rw [if_pos ⟨h7, h13⟩]))
      clear h7
      unfold frP
      go_wp2_with fail
      exact hret.out _ _ _ (frQ_of (by kernel_rfl)) HF.out
    · have HF := Lib.hid (HV3.out.yes (l := l) (by rw [HPL.out, HARGS.out]; show casOk y = some y; unfold casOk; rw [if_neg (fun hh => h13 hh.2)]))
      clear h7
      unfold frP
      go_wp2_with fail
      exact hret.out _ _ _ (frQ_of (by kernel_rfl)) HF.out
  · have h7' : (y.op == 7) = false := by rw [beq_eq_false_iff_ne]; exact h7
    have HF := Lib.hid (HV3.out.yes (l := l) (by rw [HPL.out, HARGS.out]; show casOk y = some y; unfold casOk; rw [if_neg (fun hh => h7 hh.1)]))
    clear h7
    unfold frP
    go_wp2_with fail
    exact hret.out _ _ _ (frQ_of (by kernel_rfl)) HF.out
end

theorem specs_set : ∀ p ∈ specs, (∀ h ∈ p.2, h.toNat = 65 ∨ h.toNat = 66 ∨ h.toNat = 67 ∨ h.toNat = 78 ∨ h.toNat = 84) ∧ p.2.length ≤ 1000 ∧ (∀ c ∈ p.1, c.toNat ≠ 32) ∧ (specText p).length ≤ 1000 := by decide +kernel

theorem ops_loop {w wr : World} {g off n c gt : Nat} {s : ByteArray} {v9 v10 v11 : Value} {u : Nat → Value} {Q : Exit → Act → World → Prop} {l w0 : Str} {r : List Str}
    (hv : VarL w wr zeroLn) (hn : n = r.length + 1) (hn2 : n ≤ 200000) (hword : ∀ v ∈ r, v.length ≤ 100000)
    (hel : ∀ w', Kept (fun q => q = w.heap.size + 1) wr w' → Elems w' w'.heap.size (some ⟨g, off, none⟩) 1 sC (w0 :: r))
    (htab : ∀ w', Kept (fun q => q = w.heap.size + 1) wr w' → Elems w' w'.heap.size (some ⟨gt, 0, none⟩) 1 sC (specs.map specText))
    (hpl : parseL l = insL (w0 :: r)) (hret : Hid (RetL w l Q))
    (hend : Hid (∀ a' w', (∃ v9 v10 v11 u', a' = frP s w.heap.size (.slice (some ⟨g, off, none⟩) n c) (.slice (some ⟨gt, 0, none⟩) 22 22) (.int .i64 ((22 : Nat) : Int)) v9 v10 v11 u') → VarL w w' zeroLn → parseL l = none → Q (.exit 4) a' w')) :
    Code.wp Tryd.prog (Code.loop parseC) Q (frP s w.heap.size (.slice (some ⟨g, off, none⟩) n c) (.slice (some ⟨gt, 0, none⟩) 22 22) (.int .i64 ((0 : Nat) : Int)) v9 v10 v11 u) wr := by
  refine wp_loop (fun a' w' => ∃ (k : Nat) (v9 v10 v11 : Value) (u : Nat → Value), a' = frP s w.heap.size (.slice (some ⟨g, off, none⟩) n c) (.slice (some ⟨gt, 0, none⟩) 22 22) (.int .i64 k) v9 v10 v11 u ∧ k ≤ 22 ∧ VarL w w' zeroLn ∧ Kept (fun _ => False) wr w' ∧ findL 1 specs w0 r.length = findL (k + 1) (specs.drop k) w0 r.length)
    (fun a' _ => 22 - (intOf (a'.tmps.getD 8 undef)).toNat) ?_ ?_
  · exact ⟨0, v9, v10, v11, u, rfl, by omega, hv, Kept.refl _ _, rfl⟩
  rintro _ w1 ⟨k, v9, v10, v11, u, rfl, hk22, hv1, hk, hfind⟩
  have hspl : specs.length = 22 := rfl
  by_cases hk2 : k < 22
  case neg =>
    obtain rfl : k = 22 := by omega
    refine op_end hk2 (Lib.hid ?_)
    rintro a' ⟨x9, x10, x11, u', rfl⟩
    refine hend.out _ _ ⟨_, _, _, u', rfl⟩ hv1 ?_
    rw [hpl]
    unfold insL
    dsimp only
    rw [hfind]; rfl
  obtain ⟨p, hp⟩ : ∃ p, specs[k]? = some p := ⟨_, List.getElem?_eq_getElem (by omega)⟩
  obtain ⟨s1, s2, s3, s4⟩ := specs_set p (List.mem_of_getElem? hp)
  have hk' : Kept (fun q => q = w.heap.size + 1) wr w1 := hk.mono (fun _ _ f => f.elim)
  have hct : w1.cell? ⟨gt, k, none⟩ = some (.string (strS (specText p))) := by
    have := sC_same (htab w1 hk') (k := k) (x := specText p) (by rw [List.getElem?_map, hp]; rfl)
    rwa [Nat.zero_add] at this
  have hsp : ∀ w, Calls Tryd.prog 17 #[.string (strS (specText p))] w fun e w' => e = .returned (.tuple #[.string (strS p.1), .string (strS p.2)]) ∧ Kept (fun _ => False) w w' :=
    fun w => refSplit_any (strS (specText p)) p.1 p.2 rfl s3 (by rw [strS_size]; omega) w
  have hdrop : specs.drop k = p :: specs.drop (k + 1) := by
    obtain ⟨h1, h2⟩ := List.getElem?_eq_some_iff.1 hp
    rw [← h2]; exact List.drop_eq_getElem_cons h1
  have hmu : ∀ (a9 a10 a11 : Value) (u' : Nat → Value), 22 - (intOf ((frP s w.heap.size (.slice (some ⟨g, off, none⟩) n c) (.slice (some ⟨gt, 0, none⟩) 22 22) (.int .i64 ((k : Int) + 1)) a9 a10 a11 u').tmps.getD 8 undef)).toNat < 22 - (intOf ((frP s w.heap.size (.slice (some ⟨g, off, none⟩) n c) (.slice (some ⟨gt, 0, none⟩) 22 22) (.int .i64 k) v9 v10 v11 u).tmps.getD 8 undef)).toNat := by
    intro a9 a10 a11 u'
    show 22 - (intOf (.int .i64 ((k : Int) + 1))).toNat < 22 - (intOf (.int .i64 (k : Int))).toNat
    simp [intOf]; omega
  by_cases hm : p.1 = w0 ∧ p.2.length = r.length
  · refine op_take hk2 hv1 hct hsp (fun w' hk3 => hel w' (hk'.trans hk3 (fun _ _ e => e))) hn hn2 s2 hm.1 hm.2 s1 hword ?_ (Lib.hid (fun a' w' ok he hf => hret.out a' w' ok he hf))
    rw [hpl]
    unfold insL
    dsimp only
    rw [hfind, hdrop]
    obtain ⟨p1, p2⟩ := p
    unfold findL
    rw [if_pos hm]
    rfl
  · refine op_skip hk2 hct hsp (fun w' hk3 => ?_) hn hn2 hm (Lib.hid ?_)
    · have := sC_same (hel w' (hk'.trans hk3 (fun _ _ f => f.elim))) (k := 0) (x := w0) rfl
      rwa [Nat.add_zero] at this
    · rintro a' w' ⟨x9, x10, x11, u', rfl⟩ hk3
      refine ⟨⟨k + 1, x9, x10, x11, u', rfl, by omega, hv1.on hk3, hk.trans hk3 (fun _ _ f => f), ?_⟩, hmu _ _ _ _⟩
      rw [hfind, hdrop]
      obtain ⟨p1, p2⟩ := p
      conv => lhs; unfold findL
      rw [if_neg hm]

end Go.Proofs.YtibgkhfadlgonaaDoor
