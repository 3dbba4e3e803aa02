/-
  The walk of the statement AsmParts.
  Conditions: what the row lists lies as the texts lay it.
-/
import Derived.Test.YtlhnbihpefgcbaaGreatDoorAsmForm
import Derived.Test.YtlhnbihpefgcbaaGreatDoorAsmMove
import Derived.WalkKit
import Derived.ProofKit
import Derived.OpenShut
namespace Go.Proofs.YtlhnbihpefgcbaaGreatDoor
namespace asmParts
open Go.ChangeShapes Go.WideShapes Go.ChangeAt Go.RowKit
set_option linter.unusedVariables false

set_option maxHeartbeats 16000000 in
set_option maxRecDepth 100000 in
theorem walk (ts : List Str) (sl : Option Addr) (cap : Nat) (w : World) (hE : Elems w w.heap.size sl 1 sC ts) (hC : Ctx w) :
    Calls Tryz.prog 4 #[.slice sl ts.length cap] w fun e w' => e = .returned (.bool true) ∧ Below w.heap.size w w' := by
  obtain ⟨n, hn⟩ : ∃ n, ts.length = n := ⟨_, rfl⟩
  rw [hn]
  have HFIN := Lib.hid (fun w1 (hk : Kept (fun _ => False) w w1) => hk.below (Nat.le_refl _) (fun _ f => f.elim))
  have HE := Lib.hid (fun w1 (hk : Kept (fun _ => False) w w1) => (show Elems w1 w1.heap.size sl 1 sC ts from (hE.kept hk (Nat.le_refl _) (fun _ _ f => f)).more hk.size))
  have HC := Lib.hid (fun w1 (hk : Kept (fun _ => False) w w1) => hC.on0 hk)
  have HU := Lib.hid (upA_any w hC)
  have HN := Lib.hid hn
  obtain ⟨r, hr⟩ : ∃ r, shortL ts = r := ⟨_, rfl⟩
  have HS := Lib.hid (fun w1 (hk : Kept (fun _ => False) w w1) => short_any (cap := cap) w1 (HE.out w1 hk) hn hr)
  clear hE hC hn
  cases r
  case false =>
    clear hr
    go_enter Tryz.func4, Tryz.ntmps4
    go_wp2_with fail
    refine (HU.out).mono ?_
    rintro e w1 ⟨rfl, hk1⟩
    have HK1 := Lib.hid hk1
    clear hk1
    go_wp2_with fail
    refine (HS.out _ HK1.out).mono ?_
    rintro e w2 ⟨rfl, hw2⟩
    subst w2
    go_wp2_with fail
    go_ret
    exact ⟨rfl, HFIN.out _ HK1.out⟩
  obtain ⟨hz, hz40, _⟩ := short_size hr
  have hz5 : sizeL ts ≤ 31000 := hz
  have HZ := Lib.hid hz5
  have hn40 : n ≤ 40 := by rw [← HN.out]; exact hz40
  clear hr hz hz40
  by_cases hn0 : n = 0
  case pos =>
    have q : ((n : Int) == 0) = true := by rw [hn0]; rfl
    clear hn0 hn40 hz5
    go_enter Tryz.func4, Tryz.ntmps4
    go_wp2_with fail
    refine (HU.out).mono ?_
    rintro e w1 ⟨rfl, hk1⟩
    have HK1 := Lib.hid hk1
    clear hk1
    go_wp2_with fail
    refine (HS.out _ HK1.out).mono ?_
    rintro e w2 ⟨rfl, hw2⟩
    subst w2
    go_wp2_with fail
    go_ret
    exact ⟨rfl, HFIN.out _ HK1.out⟩
  have q : ((n : Int) == 0) = false := by rw [beq_eq_false_iff_ne]; omega
  have hn1 : 1 ≤ n := by omega
  obtain ⟨J, hJ⟩ : ∃ J, joinL ts = J := ⟨_, rfl⟩
  have HTX : Hid (textsL [J] = textsL ts) := Lib.hid (by rw [← hJ]; exact lines_join (by intro e; rw [e] at HN; exact hn0 HN.out.symm))
  have HJ := Lib.hid hJ
  have hJl : J.length ≤ 31000 := by rw [← hJ]; exact Nat.le_trans (join_len ts) hz5
  have HLS : Hid ((textsL ts).length ≤ 200000) := Lib.hid (by have := texts_len ts; omega)
  have HA := Lib.hid (fun w1 (hk : Kept (fun _ => False) w w1) => assemble_any ts sl cap w1 (HE.out w1 hk) (Nat.le_trans hz5 (by decide)) (HC.out w1 hk).laid HN.out)
  have HB : Hid (∀ w1, Kept (fun _ => False) w w1 → Calls Tryz.prog 9 #[.slice (some ⟨w1.heap.size, 0, none⟩) 1 1] (w1.alloc (.cells #[.string (strS J)] 9)) (AsmPTo (w1.alloc (.cells #[.string (strS J)] 9)) (asmA (textsL ts)))) := Lib.hid (fun w1 hk => by
    have := assemble_any [J] (some ⟨w1.heap.size, 0, none⟩) 1 (w1.alloc (.cells #[.string (strS J)] 9)) (one_text w1 J) (by simp only [sizeL, List.map_cons, List.map_nil, List.sum_cons, List.sum_nil]; omega) (HC.out _ (hk.alloc _)).laid rfl
    rw [HTX.out] at this
    exact this)
  have HFO : Hid (∀ w1 w2 e, AsmPTo w1 (asmA (textsL ts)) e w2 → ∃ sv cv su cu er, e = .returned (.tuple #[.slice sv (codeA (asmA (textsL ts))).length cv, .slice su (labsA (asmA (textsL ts))).length cu, er]) ∧
      Form w1 w2 (.slice sv (codeA (asmA (textsL ts))).length cv) (.slice su (labsA (asmA (textsL ts))).length cu) er (codeA (asmA (textsL ts))) (labsA (asmA (textsL ts))) (numA (asmA (textsL ts))) (atA (asmA (textsL ts)))) := Lib.hid (fun w1 w2 e h => asm_form HLS.out h)
  obtain ⟨R, hR⟩ : ∃ R, asmA (textsL ts) = R := ⟨_, rfl⟩
  rw [hR] at HA HB HFO
  obtain ⟨c, hc⟩ : ∃ c, codeA R = c := ⟨_, rfl⟩
  obtain ⟨l, hl⟩ : ∃ l, labsA R = l := ⟨_, rfl⟩
  obtain ⟨a, ha⟩ : ∃ a, numA R = a := ⟨_, rfl⟩
  obtain ⟨p, hp⟩ : ∃ p, atA R = p := ⟨_, rfl⟩
  rw [hc, hl, ha, hp] at HFO
  obtain ⟨d, hd⟩ : ∃ d, c.length = d := ⟨_, rfl⟩
  obtain ⟨m, hm⟩ : ∃ m, l.length = m := ⟨_, rfl⟩
  rw [hd, hm] at HFO
  have HD := Lib.hid hd
  have HM := Lib.hid hm
  obtain ⟨t0, ht0⟩ : ∃ t, ts[0]? = some t := ⟨_, List.getElem?_eq_getElem (by rw [HN.out]; omega)⟩
  have HT0 := Lib.hid ht0
  clear hJ hR hc hl ha hp hd hm ht0 hn0 HTX hz5
  go_enter Tryz.func4, Tryz.ntmps4
  go_wp2_with fail
  refine (HU.out).mono ?_
  rintro e w1 ⟨rfl, hk1⟩
  have HK1 := Lib.hid hk1
  clear hk1
  go_wp2_with fail
  refine (HS.out _ HK1.out).mono ?_
  rintro e w2 ⟨rfl, hw2⟩
  subst w2
  obtain ⟨g0, o0, rfl, _, hc0⟩ := (HE.out w1 HK1.out).2 0 t0 HT0.out
  have x0 : w1.cell? ⟨g0, o0, none⟩ = some (.string (strS t0)) := by
    have := hc0 0 (.string (strS t0)) rfl
    simpa using this
  have hn1' : (0 : Int) < (n : Int) := by omega
  clear hc0
  go_wp2_with fail
  clear x0
  go_loop [5, 6] (fun s i => ∃ j : Nat, i = .int .i64 j ∧ 1 ≤ j ∧ j ≤ n ∧ s = .string (strS (joinL (ts.take j)))) (fun _ i => n - (intOf i).toNat)
  case atStart => exact ⟨1, rfl, by omega, by omega, by rw [join_one HT0.out]⟩
  case round =>
    obtain ⟨j, rfl, hj1, hj, rfl⟩ := hrel
    by_cases hjn : j < n
    case pos =>
      obtain ⟨t, ht⟩ : ∃ t, ts[j]? = some t := ⟨_, List.getElem?_eq_getElem (by rw [HN.out]; exact hjn)⟩
      obtain ⟨g, o, hgo, _, hcj⟩ := (HE.out w1 HK1.out).2 j t ht
      obtain ⟨rfl, rfl⟩ : g0 = g ∧ o0 = o := by simpa using hgo
      have xj : w1.cell? ⟨g0, o0 + j, none⟩ = some (.string (strS t)) := by
        have := hcj 0 (.string (strS t)) rfl
        simpa using this
      have HJN : Hid (strS (joinL (ts.take j)) ++ { data := #[10] } ++ strS t = strS (joinL (ts.take (j + 1)))) := Lib.hid (by
        rw [join_snoc hj1 ht, show ({ data := #[10] } : ByteArray) = strS [10] from rfl, strS_add, strS_add, List.append_assoc]
        rfl)
      have hs1 : (strS (joinL (ts.take j))).size ≤ 31000 := by rw [strS_size]; exact Nat.le_trans (join_len _) (Nat.le_trans (size_take ts j) HZ.out)
      have hs2 : (strS t).size ≤ 31000 := by rw [strS_size]; have := size_snoc ht; have := HZ.out; omega
      clear hgo hcj ht
      go_wp2_with fail
      go_round
      case rel => exact ⟨j + 1, by go_num, by omega, by omega, by rw [HJN.out]⟩
      case measure => simp [intOf]; omega
    obtain rfl : j = n := by omega
    have HJE : Hid (joinL (ts.take j) = J) := Lib.hid (by rw [List.take_of_length_le (by rw [HN.out]; exact Nat.le_refl _), HJ.out])
    rw [HJE.out]
    clear hjn
    go_wp2_with fail
    refine (HA.out _ HK1.out).mono ?_
    rintro e w2 h2
    obtain ⟨sv, cv, su, cu, er, rfl, hF2⟩ := HFO.out _ _ _ h2
    have HF2 := Lib.hid hF2
    have HK2 := Lib.hid (HK1.out.trans hF2.kept (fun _ _ f => f))
    clear h2 hF2
    go_wp2_with fail
    refine (HB.out _ HK2.out).mono ?_
    rintro e w4 h4
    obtain ⟨sw, cw, sy, cy, er4, rfl, hF4⟩ := HFO.out _ _ _ h4
    have HF4 := Lib.hid hF4
    have HK24 : Hid (Kept (fun _ => False) w2 w4) := Lib.hid (((Kept.refl _ w2).alloc _).trans hF4.kept (fun _ _ f => f))
    have HK4 := Lib.hid (HK2.out.trans HK24.out (fun _ _ f => f))
    have HO1 := Lib.hid (HF2.out.of_ w4 HK24.out (HC.out _ HK4.out).hnd)
    clear h4 hF4
    go_wp2_with fail
    refine HO1.out.mono ?_
    rintro e w5 ⟨rfl, hk5⟩
    have HK45 := Lib.hid hk5
    have HK5 := Lib.hid (HK4.out.trans hk5 (fun _ _ f => f))
    have HO2 := Lib.hid (HF4.out.of_ w5 hk5 (HC.out _ HK5.out).hnd)
    clear hk5
    go_wp2_with fail
    refine HO2.out.mono ?_
    rintro e w6 ⟨rfl, hk6⟩
    have HK6 := Lib.hid (HK5.out.trans hk6 (fun _ _ f => f))
    have HK46 := Lib.hid (HK45.out.trans hk6 (fun _ _ f => f))
    have HK26 := Lib.hid (HK24.out.trans HK46.out (fun _ _ f => f))
    have HEV : Hid (∀ w', Kept (fun _ => False) w2 w' → Elems w' w'.heap.size sv 5 insC c) := Lib.hid (fun w' hk => by
      obtain ⟨s, q, e, hM⟩ := Made.of_own insC_five (HF2.out.two.kept hk).code rfl (by have := HF2.out.code; unfold maxLen; omega)
      injection e with e _ _
      rw [e]; exact hM.elems)
    have HEU : Hid (∀ w', Kept (fun _ => False) w2 w' → Elems w' w'.heap.size su 2 labC l) := Lib.hid (fun w' hk => by
      obtain ⟨s, q, e, hM⟩ := Made.of_own labC_two (HF2.out.two.kept hk).labs rfl (by have := HF2.out.labs; unfold maxLen; omega)
      injection e with e _ _
      rw [e]; exact hM.elems)
    have HEW : Hid (∀ w', Kept (fun k => k < w2.heap.size) w4 w' → Elems w' w'.heap.size sw 5 insC c) := Lib.hid (fun w' hk => by
      obtain ⟨s, q, e, hM⟩ := Made.of_own insC_five (two_kept HF4.out.two hk (fun g hg => by rw [World.size_alloc]; exact Nat.lt_succ_of_lt hg)).code rfl (by have := HF2.out.code; unfold maxLen; omega)
      injection e with e _ _
      rw [e]; exact hM.elems)
    have HEY : Hid (∀ w', Kept (fun k => k < w2.heap.size) w4 w' → Elems w' w'.heap.size sy 2 labC l) := Lib.hid (fun w' hk => by
      obtain ⟨s, q, e, hM⟩ := Made.of_own labC_two (two_kept HF4.out.two hk (fun g hg => by rw [World.size_alloc]; exact Nat.lt_succ_of_lt hg)).labs rfl (by have := HF2.out.labs; unfold maxLen; omega)
      injection e with e _ _
      rw [e]; exact hM.elems)
    have HS1 := Lib.hid (refSame_any (ca := cv) (cb := cw) (r := true) w6 (HEV.out w6 HK26.out) (HEW.out w6 (HK46.out.mono (fun _ _ f => f.elim))) HD.out HD.out (by simp))
    clear hk6
    go_wp2_with fail
    refine HS1.out.mono ?_
    rintro e w7 ⟨rfl, hk7⟩
    have HK7 := Lib.hid (HK6.out.trans hk7 (fun _ _ f => f))
    have HK47 := Lib.hid (HK46.out.trans hk7 (fun _ _ f => f))
    have HK27 := Lib.hid (HK26.out.trans hk7 (fun _ _ f => f))
    have HS2 := Lib.hid (lawSame_any (ca := cu) (cb := cy) (r := true) w7 (HEU.out w7 HK27.out) (HEY.out w7 (HK47.out.mono (fun _ _ f => f.elim))) HM.out HM.out (by simp))
    clear hk7
    go_wp2_with fail
    refine HS2.out.mono ?_
    rintro e w8 ⟨rfl, hk8⟩
    have HK8 := Lib.hid (HK7.out.trans hk8 (fun _ _ f => f))
    have HK48 := Lib.hid (HK47.out.trans hk8 (fun _ _ f => f))
    have HK28 := Lib.hid (HK27.out.trans hk8 (fun _ _ f => f))
    clear hk8
    have HR8 : Hid (Rows2 w1.heap.size w8 (.slice sv d cv) (.slice su m cu) d m) := Lib.hid (by have := (HF2.out.two.kept HK28.out).rows; rw [HD.out, HM.out] at this; exact this)
    have HBV : Hid (∀ g, (Value.slice sv d cv).ownBlock = some g → w1.heap.size ≤ g ∧ g < w2.heap.size) := Lib.hid (HF2.out.two.code.lt)
    have HBU : Hid (∀ g, (Value.slice su m cu).ownBlock = some g → w1.heap.size ≤ g ∧ g < w2.heap.size) := Lib.hid (HF2.out.two.labs.lt)
    have hd1 : d ≤ 1024 := by rw [← HD.out]; exact HF2.out.code
    have hm1 : m ≤ 200000 := by rw [← HM.out]; exact HF2.out.labs
    go_wp2_with fail
    go_loopw [17] (fun i wr => ∃ i' : Nat, i = .int .i64 i' ∧ i' ≤ d ∧ Rows2 w1.heap.size wr (.slice sv d cv) (.slice su m cu) d m ∧ Kept (fun k => w1.heap.size ≤ k ∧ k < w2.heap.size) w8 wr) (fun i _ => d - (intOf i).toNat)
    case atStart => exact ⟨0, rfl, by omega, HR8.out, Kept.refl _ _⟩
    case round =>
      obtain ⟨i, rfl, hi, hrw, hkw⟩ := hrel
      have HRW := Lib.hid hrw
      have HKW := Lib.hid hkw
      clear hrw hkw
      by_cases hid : i < d
      case pos =>
        obtain ⟨⟨xs, hxs⟩, hys, hap⟩ := HRW.out
        obtain ⟨g, q, hq⟩ := ownsRow_form hxs (by omega)
        injection hq with hq _ hqc
        subst hq
        subst q
        have HX := Lib.hid hxs
        obtain ⟨u0, x0⟩ := own_there hxs (i * 5) (by omega)
        obtain ⟨u1, x1⟩ := own_there hxs (i * 5 + 1) (by omega)
        obtain ⟨u2, x2⟩ := own_there hxs (i * 5 + 2) (by omega)
        obtain ⟨u3, x3⟩ := own_there hxs (i * 5 + 3) (by omega)
        obtain ⟨u4, x4⟩ := own_there hxs (i * 5 + 4) (by omega)
        have f0 : wr.frozen? ⟨g, i * 5, none⟩ = false := World.ownsRow.frozenAt hxs _
        have f1 : wr.frozen? ⟨g, i * 5 + 1, none⟩ = false := World.ownsRow.frozenAt hxs _
        have f2 : wr.frozen? ⟨g, i * 5 + 2, none⟩ = false := World.ownsRow.frozenAt hxs _
        have f3 : wr.frozen? ⟨g, i * 5 + 3, none⟩ = false := World.ownsRow.frozenAt hxs _
        have f4 : wr.frozen? ⟨g, i * 5 + 4, none⟩ = false := World.ownsRow.frozenAt hxs _
        obtain ⟨hb1, hb2⟩ := HBV.out g rfl
        have HZ5 := Lib.hid (HRW.out.zero_code HKW.out (show w1.heap.size ≤ g ∧ g < w2.heap.size from ⟨hb1, hb2⟩) (i * 5) (i * 5 + 1) (i * 5 + 2) (i * 5 + 3) (i * 5 + 4) (.int .i64 0))
        clear hxs hys hap hb1 hb2
        go_wp2_with fail
        go_roundw
        case rel => exact ⟨i + 1, by go_num, by omega, HZ5.out.1, HZ5.out.2⟩
        case measure => simp [intOf]; omega
      obtain rfl : i = d := by omega
      clear hid HR8
      go_wp2_with fail
      go_loopw [18] (fun j' wr => ∃ j : Nat, j' = .int .i64 j ∧ j ≤ m ∧ Rows2 w1.heap.size wr (.slice sv i cv) (.slice su m cu) i m ∧ Kept (fun k => w1.heap.size ≤ k ∧ k < w2.heap.size) w8 wr) (fun j _ => m - (intOf j).toNat)
      case atStart => exact ⟨0, rfl, by omega, HRW.out, HKW.out⟩
      case round =>
        obtain ⟨j, rfl, hj, hrw, hkw⟩ := hrel
        clear HRW HKW
        have HRW := Lib.hid hrw
        have HKW := Lib.hid hkw
        clear hrw hkw
        by_cases hjm : j < m
        case pos =>
          obtain ⟨hxs, ⟨ys, hys⟩, hap⟩ := HRW.out
          obtain ⟨g, q, hq⟩ := ownsRow_form hys (by omega)
          injection hq with hq _ hqc
          subst hq
          subst q
          obtain ⟨u0, x0⟩ := own_there hys (j * 2) (by omega)
          obtain ⟨u1, x1⟩ := own_there hys (j * 2 + 1) (by omega)
          have f0 : wr.frozen? ⟨g, j * 2, none⟩ = false := World.ownsRow.frozenAt hys _
          have f1 : wr.frozen? ⟨g, j * 2 + 1, none⟩ = false := World.ownsRow.frozenAt hys _
          obtain ⟨hb1, hb2⟩ := HBU.out g rfl
          have HZ5 := Lib.hid (HRW.out.zero_labs HKW.out (show w1.heap.size ≤ g ∧ g < w2.heap.size from ⟨hb1, hb2⟩) (j * 2) (j * 2 + 1) (.string { data := #[] }) (.int .i64 0))
          clear hxs hys hap hb1 hb2
          go_wp2_with fail
          go_roundw
          case rel => exact ⟨j + 1, by go_num, by omega, HZ5.out.1, HZ5.out.2⟩
          case measure => simp [intOf]; omega
        obtain rfl : j = m := by omega
        have HK8r : Hid (Kept (fun _ => False) w wr) := Lib.hid (HK8.out.trans HKW.out (fun k hk ⟨h1, h2⟩ => by have := HK1.out.size; omega))
        have HK4r : Hid (Kept (fun k => k < w2.heap.size) w4 wr) := Lib.hid ((HK48.out.mono (fun _ _ f => f.elim)).trans HKW.out (fun k hk ⟨h1, h2⟩ => h2))
        clear hjm
        go_wp2_with fail
        refine (HB.out _ HK8r.out).mono ?_
        rintro e w9 h9
        obtain ⟨sg, cg, sk, ck, er9, rfl, hF9⟩ := HFO.out _ _ _ h9
        have HK9r := Lib.hid (((Kept.refl (fun _ => False) wr).alloc (.cells #[.string (strS J)] 9)).trans hF9.kept (fun _ _ f => f))
        have HK9 := Lib.hid (HK8r.out.trans HK9r.out (fun _ _ f => f))
        have HK49 := Lib.hid (HK4r.out.trans HK9r.out (fun _ _ f => f.elim))
        have HF9 := Lib.hid hF9
        have HEG : Hid (∀ w', Kept (fun _ => False) w9 w' → Elems w' w'.heap.size sg 5 insC c) := Lib.hid (fun w' hk => by
          obtain ⟨s, q, e, hM⟩ := Made.of_own insC_five (HF9.out.two.kept hk).code rfl (by have := HF2.out.code; unfold maxLen; omega)
          injection e with e _ _
          rw [e]; exact hM.elems)
        have HEK : Hid (∀ w', Kept (fun _ => False) w9 w' → Elems w' w'.heap.size sk 2 labC l) := Lib.hid (fun w' hk => by
          obtain ⟨s, q, e, hM⟩ := Made.of_own labC_two (HF9.out.two.kept hk).labs rfl (by have := HF2.out.labs; unfold maxLen; omega)
          injection e with e _ _
          rw [e]; exact hM.elems)
        have HS3 := Lib.hid (refSame_any (ca := cg) (cb := cw) (r := true) w9 (HEG.out w9 (Kept.refl _ _)) (HEW.out w9 HK49.out) HD.out HD.out (by simp))
        clear h9 hF9
        go_wp2_with fail
        refine HS3.out.mono ?_
        rintro e w10 ⟨rfl, hk10⟩
        have HK10 := Lib.hid (HK9.out.trans hk10 (fun _ _ f => f))
        have HS4 := Lib.hid (lawSame_any (ca := ck) (cb := cy) (r := true) w10 (HEK.out w10 hk10) (HEY.out w10 (HK49.out.trans hk10 (fun _ _ f => f.elim))) HM.out HM.out (by simp))
        clear hk10
        go_wp2_with fail
        refine HS4.out.mono ?_
        rintro e w11 ⟨rfl, hk11⟩
        have HF := Lib.hid (HFIN.out _ (HK10.out.trans hk11 (fun _ _ f => f)))
        clear hk11
        go_wp2_with fail
        go_ret
        exact ⟨by simp, HF.out⟩

end asmParts
end Go.Proofs.YtlhnbihpefgcbaaGreatDoor
