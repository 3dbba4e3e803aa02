/-
  The walk of the statement AsmAssembles.
  Conditions: what the row lists lies as the texts lay it.
-/
import Derived.Test.YtlhnbihpefgcbaaGreatDoorAsmLaw
import Derived.WalkKit
import Derived.ProofKit
import Derived.OpenShut
namespace Go.Proofs.YtlhnbihpefgcbaaGreatDoor
namespace asmAssembles
open Go.ChangeShapes Go.WideShapes Go.ChangeAt Go.RowKit
set_option linter.unusedVariables false

set_option maxHeartbeats 16000000 in
set_option maxRecDepth 100000 in
theorem walk (ts : List Str) (sl : Option Addr) (cap : Nat) (name : ByteArray) (w : World) (hE : Elems w w.heap.size sl 1 sC ts) (hC : Ctx w) :
    Calls Tryz.prog 3 #[.slice sl ts.length cap, .string name] w fun e w' => e = .returned (.bool true) ∧ Below w.heap.size w w' := by
  obtain ⟨n, hn⟩ : ∃ n, ts.length = n := ⟨_, rfl⟩
  rw [hn]
  have HFIN := Lib.hid (fun w1 (hk : Kept (fun _ => False) w w1) => hk.below (Nat.le_refl _) (fun _ f => f.elim))
  have HE := Lib.hid (fun w1 (hk : Kept (fun _ => False) w w1) => (show Elems w1 w1.heap.size sl 1 sC ts from (hE.kept hk (Nat.le_refl _) (fun _ _ f => f)).more hk.size))
  have HC := Lib.hid (fun w1 (hk : Kept (fun _ => False) w w1) => hC.on0 hk)
  have HU := Lib.hid (upA_any w hC)
  have HN := Lib.hid hn
  obtain ⟨r, hr⟩ : ∃ r, shortL ts = r := ⟨_, rfl⟩
  have HS := Lib.hid (fun w1 (hk : Kept (fun _ => False) w w1) => short_any (cap := cap) w1 (HE.out w1 hk) hn hr)
  clear hE hC hn
  cases r
  case false =>
    clear hr
    go_enter Tryz.func3, Tryz.ntmps3
    go_wp2_with fail
    refine (HU.out).mono ?_
    rintro e w1 ⟨rfl, hk1⟩
    have HK1 := Lib.hid hk1
    clear hk1
    go_wp2_with fail
    refine (HS.out _ HK1.out).mono ?_
    rintro e w2 ⟨rfl, hw2⟩
    subst w2
    go_wp2_with fail
    go_ret
    exact ⟨rfl, HFIN.out _ HK1.out⟩
  obtain ⟨hz, hz40, _⟩ := short_size hr
  have hz5 : sizeL ts ≤ 100000 := by omega
  have HLS : Hid ((textsL ts).length ≤ 200000) := Lib.hid (by have := texts_len ts; omega)
  clear hr
  by_cases hnm : name.size ≤ 1000
  case neg =>
    have q : (1000 : Int) < (name.size : Int) := by omega
    clear hnm hz hz40 hz5
    go_enter Tryz.func3, Tryz.ntmps3
    go_wp2_with fail
    refine (HU.out).mono ?_
    rintro e w1 ⟨rfl, hk1⟩
    have HK1 := Lib.hid hk1
    clear hk1
    go_wp2_with fail
    refine (HS.out _ HK1.out).mono ?_
    rintro e w2 ⟨rfl, hw2⟩
    subst w2
    go_wp2_with fail
    go_ret
    exact ⟨rfl, HFIN.out _ HK1.out⟩
  have q : ¬ (1000 : Int) < (name.size : Int) := by omega
  have HA := Lib.hid (fun w1 (hk : Kept (fun _ => False) w w1) => assemble_any ts sl cap w1 (HE.out w1 hk) hz5 (HC.out w1 hk).laid HN.out)
  have HB := Lib.hid (fun w1 (hk : Kept (fun _ => False) w w1) => (show Calls Tryz.prog 10 #[.slice sl n cap] w1 (AsmTo w1 (asmA (textsL ts))) by rw [← HN.out]; exact refAsm_any ts sl cap w1 (HE.out w1 hk) hz5))
  clear hnm hz hz40 hz5
  go_enter Tryz.func3, Tryz.ntmps3
  go_wp2_with fail
  refine (HU.out).mono ?_
  rintro e w1 ⟨rfl, hk1⟩
  have HK1 := Lib.hid hk1
  clear hk1
  go_wp2_with fail
  refine (HS.out _ HK1.out).mono ?_
  rintro e w2 ⟨rfl, hw2⟩
  subst w2
  go_wp2_with fail
  refine (HA.out _ HK1.out).mono ?_
  rintro e w2 ⟨hk2, hm2⟩
  have HK2 := Lib.hid (HK1.out.trans hk2 (fun _ _ f => f))
  have HBB := Lib.hid (HB.out _ HK2.out)
  cases hr : asmA (textsL ts) with
  | error p =>
    rw [hr] at hm2 HBB
    obtain ⟨g, hg, hs, rfl⟩ := hm2
    obtain ⟨p1, p8⟩ := asm_codes hr
    have HSP := Lib.hid hs
    have hp0 : ((p.1 : Int) == 0) = false := by rw [beq_eq_false_iff_ne]; omega
    clear hr hk2 hg hs
    go_wp2_with fail
    refine HBB.out.mono ?_
    rintro e w3 ⟨hk3, rfl⟩
    have HK3 := Lib.hid (HK2.out.trans hk3 (fun _ _ f => f))
    have HT := Lib.hid (told_any (c := p.1) (a := p.2) (HSP.out.kept hk3 (fun f => f)) (HC.out _ HK3.out).hnd)
    clear hk3
    go_wp2_with fail
    refine HT.out.mono ?_
    rintro e w4 ⟨rfl, hk4⟩
    have HF := Lib.hid (HFIN.out _ (HK3.out.trans hk4 (fun _ _ f => f)))
    clear hk4
    go_wp2_with fail
    go_ret
    exact ⟨by simp, HF.out⟩
  | ok cl =>
    obtain ⟨c, l⟩ := cl
    rw [hr] at hm2 HBB
    obtain ⟨v, u, rfl, hT2⟩ := hm2
    have hcl : c.length ≤ maxLen ∧ l.length ≤ maxLen := by have := asm_len HLS.out hr; unfold maxLen; omega
    obtain ⟨sv, cv, rfl, hMv⟩ := Made.of_own insC_five hT2.code rfl hcl.1
    obtain ⟨su, cu, rfl, hMu⟩ := Made.of_own labC_two hT2.labs rfl hcl.2
    have HMV := Lib.hid (fun w3 (hk : Kept (fun _ => False) w2 w3) => (show Elems w3 w3.heap.size sv 5 insC c from (hMv.elems.kept hk (Nat.le_refl _) (fun _ _ f => f)).more hk.size))
    have HMU := Lib.hid (fun w3 (hk : Kept (fun _ => False) w2 w3) => (show Elems w3 w3.heap.size su 2 labC l from (hMu.elems.kept hk (Nat.le_refl _) (fun _ _ f => f)).more hk.size))
    have HCL := Lib.hid hcl
    clear hr hk2 hT2 hMv hMu hcl
    go_wp2_with fail
    refine HBB.out.mono ?_
    rintro e w3 ⟨hk3, v', u', rfl, hT3⟩
    obtain ⟨sw, cw, rfl, hMw⟩ := Made.of_own insC_five hT3.code rfl HCL.out.1
    obtain ⟨sy, cy, rfl, hMy⟩ := Made.of_own labC_two hT3.labs rfl HCL.out.2
    have HK3 := Lib.hid (HK2.out.trans hk3 (fun _ _ f => f))
    have HKL3 := Lib.hid hk3
    have HMW := Lib.hid (fun w4 (hk : Kept (fun _ => False) w3 w4) => (show Elems w4 w4.heap.size sw 5 insC c from (hMw.elems.kept hk (Nat.le_refl _) (fun _ _ f => f)).more hk.size))
    have HMY := Lib.hid (fun w4 (hk : Kept (fun _ => False) w3 w4) => (show Elems w4 w4.heap.size sy 2 labC l from (hMy.elems.kept hk (Nat.le_refl _) (fun _ _ f => f)).more hk.size))
    obtain ⟨m, hm⟩ : ∃ m, l.length = m := ⟨_, rfl⟩
    obtain ⟨d, hd⟩ : ∃ d, c.length = d := ⟨_, rfl⟩
    have HM := Lib.hid hm
    have HD := Lib.hid hd
    have hm63 : (m : Int) ≤ 9223372036854775807 := by have := HCL.out.2; rw [hm] at this; unfold maxLen at this; omega
    rw [hm, hd]
    clear hk3 hT3 hMw hMy hm hd
    go_wp2_with fail
    go_loop [14, 15] (fun p i => ∃ k : Nat, i = .int .i64 ((k : Int) - 1) ∧ k ≤ m ∧ p = .int .i64 (placeA (l.drop k) (bytesS name))) (fun _ i => (intOf i + 1).toNat)
    case atStart => exact ⟨m, rfl, by omega, by rw [List.drop_of_length_le (by rw [HM.out]; exact Nat.le_refl _)]; rfl⟩
    case round =>
      obtain ⟨k, rfl, hk, rfl⟩ := hrel
      cases k with
      | zero =>
        have e0 : (((0 : Nat) : Int) - 1) = -1 := by omega
        rw [e0, List.drop_zero]
        obtain ⟨pl, hpl⟩ : ∃ pl, placeA l (bytesS name) = pl := ⟨_, rfl⟩
        have HPL := Lib.hid hpl
        rw [hpl]
        have HS1 := Lib.hid (refSame_any (ca := cv) (cb := cw) (r := true) w3 (HMV.out w3 HKL3.out) (HMW.out w3 (Kept.refl _ _)) HD.out HD.out (by simp))
        clear hpl
        go_wp2_with fail
        refine HS1.out.mono ?_
        rintro e w4 ⟨rfl, hk4⟩
        have HS2 := Lib.hid (lawSame_any (ca := cu) (cb := cy) (r := true) w4 (HMU.out w4 (HKL3.out.trans hk4 (fun _ _ f => f))) (HMY.out w4 hk4) HM.out HM.out (by simp))
        have HK4 := Lib.hid hk4
        clear hk4
        go_wp2_with fail
        refine HS2.out.mono ?_
        rintro e w5 ⟨rfl, hk5⟩
        have HK5 := Lib.hid (HK4.out.trans hk5 (fun _ _ f => f))
        have HFI := find_any l sy cy w5.heap.size name w5 (HMY.out w5 HK5.out) (Nat.le_refl _) HM.out
        rw [HPL.out] at HFI
        replace HFI := Lib.hid HFI
        clear hk5
        go_wp2_with fail
        refine HFI.out.mono ?_
        rintro e w6 ⟨rfl, hk6⟩
        have HF := Lib.hid (HFIN.out _ (HK3.out.trans (HK5.out.trans hk6 (fun _ _ f => f)) (fun _ _ f => f)))
        clear hk6
        go_wp2_with fail
        go_ret
        exact ⟨by simp, HF.out⟩
      | succ j =>
        have e : (((j + 1 : Nat) : Int) - 1) = (j : Int) := by omega
        rw [e]
        obtain ⟨x, hx⟩ : ∃ x, l[j]? = some x := ⟨_, List.getElem?_eq_getElem (by rw [HM.out]; omega)⟩
        obtain ⟨gl, ol, rfl, _, hlc⟩ := (HMY.out w3 (Kept.refl _ _)).2 j x hx
        have x0 : w3.cell? ⟨gl, ol + j * 2, none⟩ = some (.string (strS x.1)) := hlc 0 _ rfl
        have x1 : w3.cell? ⟨gl, ol + j * 2 + 1, none⟩ = some (.int .i64 x.2) := hlc 1 _ rfl
        have hst := str_eq (strS x.1) (bytesS name)
        rw [strS_bytes, bytesS_str] at hst
        have HPS := Lib.hid (place_step l (bytesS name) j x hx)
        have hj0 : ¬ ((j : Int) < 0) := by omega
        clear hlc hx
        by_cases hq : x.1 = bytesS name
        · rw [decide_eq_true hq] at hst
          rw [if_pos hq] at HPS
          clear hq
          go_wp2_with fail
          go_round
          case rel => exact ⟨j, rfl, by omega, by rw [HPS.out]⟩
          case measure => simp [intOf]
        · rw [decide_eq_false hq] at hst
          rw [if_neg hq] at HPS
          clear hq
          go_wp2_with fail
          go_round
          case rel => exact ⟨j, rfl, by omega, by rw [HPS.out]⟩
          case measure => simp [intOf]

end asmAssembles
end Go.Proofs.YtlhnbihpefgcbaaGreatDoor
