/-
  For every input the statement MicroRefuses answers true: without an arena, a table, a thread, or a frame, or with too many, nothing is done.
  Conditions: none.
-/
import Derived.Test.YtdkableaooaebaaDoorMicHow
import Derived.Test.YtdkableaooaebaaDoorMicIn
import Derived.Test.YtdkableaooaebaaDoorMicLaid
import Derived.WalkKit
import Derived.ProofKit
import Derived.OpenShut
namespace Go.Proofs.YtdkableaooaebaaDoor
namespace microRefuses
open Go.ChangeShapes Go.WideShapes Go.ChangeAt Go.RowKit
set_option linter.unusedVariables false

set_option maxHeartbeats 8000000 in
set_option maxRecDepth 100000 in
theorem walk (code : List Ix) (so : Option Addr) (cap : Nat) (i fr wh : Int) (w : World) (hx : Elems w w.heap.size so 5 Ix.cells code) (hcw : ∀ x ∈ code, x.wide) (wi : (Lit.int .i64 i).wf = true) (wf : (Lit.int .i64 fr).wf = true) (ww : (Lit.int .i64 wh).wf = true) (hL : Laid w) :
    Calls Tryd.prog 4 #[.slice so code.length cap, .int .i64 i, .int .i64 fr, .int .i64 wh] w fun e w' => e = .returned (.bool true) ∧ Below w.heap.size w w' := by
  have he := eql_codes
  have HU := Lib.hid (up_any w hL)
  have bf := bounds_i64 wf
  have bw := bounds_i64 ww
  clear wi wf ww
  by_cases hlen : (1024 : Int) < (code.length : Int)
  · clear hx hcw
    go_enter Tryd.func4, Tryd.ntmps4
    go_wp2_with fail
    refine (HU.out).mono ?_
    rintro e w1 ⟨rfl, hk1⟩
    have HF := Lib.hid (hk1.below (Nat.le_refl _) (fun _ f => f.elim))
    clear hk1 HU
    go_wp2_with fail
    go_ret
    exact ⟨rfl, HF.out⟩
  have HX := Lib.hid hx
  have HCW := Lib.hid hcw
  have HL := Lib.hid hL
  clear hx hcw hL
  have HMA : Hid (∀ w' : World, Calls Tryd.prog 8 #[.slice (some ⟨w'.heap.size, 0, none⟩) 3 3, .int .i64 2] (w'.alloc (.cells #[.int .i64 1, .int .i64 2, .int .i64 3] 2)) (MadeTo (w'.alloc (.cells #[.int .i64 1, .int .i64 2, .int .i64 3] 2)) [1, 2, 3] 2)) :=
    Lib.hid (fun w' => made_any (cap := 3) [1, 2, 3] 2 (nums_lit w' [1, 2, 3] (by decide)) (by decide) (by decide) (by decide))
  have pn := pickF_in fr 20 (by decide)
  have pk := pickF_in wh 3 (by decide)
  have HPN := Lib.hid (fun w' => pick_any fr 20 w' bf.1 bf.2 (by decide) (by decide))
  have HPK := Lib.hid (fun w' => pick_any wh 3 w' bw.1 bw.2 (by decide) (by decide))
  clear bf bw
  obtain ⟨n, hn⟩ : ∃ n : Nat, pickF fr 20 = n := ⟨(pickF fr 20).toNat, by omega⟩
  obtain ⟨k, hk⟩ : ∃ k : Int, pickF wh 3 = k := ⟨_, rfl⟩
  rw [hn] at HPN pn
  rw [hk] at HPK pk
  clear hn hk
  have hn0 : n < 20 := by omega
  obtain ⟨i17, hi17, hz17, hn17, hb17⟩ := info_parts info_frame
  have HI := Lib.hid hi17; clear hi17
  have HZ := Lib.hid hz17; clear hz17
  have HN := Lib.hid hn17; clear hn17
  have HBY := Lib.hid hb17; clear hb17
  clear pn
  have hks : k = 1 ∨ k = 2 ∨ k = 0 := by omega
  clear pk
  rcases hks with rfl | rfl | rfl
  · go_enter Tryd.func4, Tryd.ntmps4
    go_wp2_with fail
    refine (HU.out).mono ?_
    rintro e w1 ⟨rfl, hk1⟩
    go_wp2_with fail
    refine ((HMA.out _)).mono ?_
    rintro e w2 ⟨ab, tb, tg, tc, og, rfl, hs, hk2⟩
    have hL1 : Laid (w1.alloc (.cells #[.int .i64 1, .int .i64 2, .int .i64 3] 2)) := (HL.out.on0 hk1).on0 ((Kept.refl _ w1).alloc _)
    have hkW : Kept (fun _ => False) w (w1.alloc (.cells #[.int .i64 1, .int .i64 2, .int .i64 3] 2)) := hk1.alloc _
    generalize w1.alloc (.cells #[.int .i64 1, .int .i64 2, .int .i64 3] 2) = W at *
    have HL1 := Lib.hid hL1
    have HKW := Lib.hid hkW
    have HS := Lib.hid hs
    have HK := Lib.hid hk2
    clear hL1 hkW hs hk1 hk2 HU HMA HL
    go_wp2_with fail
    refine ((HPN.out _)).mono ?_
    rintro e w2' ⟨rfl, rfl⟩
    clear HPN
    go_wp2_with (at_make; refine wpList_make_full _ rfl (.tmp 37) (.tmp 37) 29 rfl 0 60 i17 (.agg #[.int .i64 0, .int .i64 0, .int .i64 0, .int .i64 0, .int .i64 0, .int .i64 0, .int .i64 0, .int .i64 0, .int .i64 0, .int .i64 0, .int .i64 0, .int .i64 0, .int .i64 0, .int .i64 0, .int .i64 0, .int .i64 0, .int .i64 0]) 17 Tryd.underlying29 HI.out HZ.out HN.out .i64 .i64 n n n rfl rfl rfl rfl ?cA ?cB (Nat.zero_le _) ?_)
    case cA => rw [HBY.out]; omega
    case cB => unfold maxLen; omega
    intro w3 hown hgrow
    have hk3 : Kept (fun _ => False) w2 w3 := (Kept.refl _ w2).grown hgrow (fun _ _ e => by simp at e)
    have hR : Row w3 w2.heap.size n 60 17 Fr.cells (List.replicate n zeroF) := Row.made (m := n) (List.length_replicate ..).symm (by rw [← made_frames]; exact hown)
    have HS3 := Lib.hid (HS.out.kept0 hk3)
    have HK3 := Lib.hid (HK.out.trans hk3 (fun _ _ f => f))
    have HR := Lib.hid hR
    have hz2 : w2.heap.size < w3.heap.size := hR.lt
    have HB2 := Lib.hid HS.out.lt
    clear hown hgrow hk3 hR HS HK HI HZ HN HBY
    go_wp2_with fail
    refine ((HPK.out _)).mono ?_
    rintro e w3' ⟨rfl, rfl⟩
    clear HPK
    go_wp2_with fail
    refine ((step_nilA _ _ _ _ _ _ _ _ _)).mono ?_
    rintro e w4 ⟨rfl, hk4⟩
    have HLE : Hid (Calls Tryd.prog 13 #[.pointer (some ⟨ab, 0, none⟩)] w4 fun e w' => e = .returned (.int .i64 3) ∧ w4 = w') := Lib.hid (len_any w4 (HS3.out.kept0 hk4).ar)
    have HF := Lib.hid ((HKW.out.trans (HK3.out.trans hk4 (fun _ _ f => f)) (fun _ _ f => f)).below (Nat.le_refl _) (fun _ f => f.elim))
    clear hk4 HS3 HK3 HKW HR HB2 HX HCW HL1
    go_wp2_with fail
    refine (HLE.out).mono ?_
    rintro e w4' ⟨rfl, rfl⟩
    go_wp2_with fail
    go_ret
    exact ⟨rfl, HF.out⟩
  · go_enter Tryd.func4, Tryd.ntmps4
    go_wp2_with fail
    refine (HU.out).mono ?_
    rintro e w1 ⟨rfl, hk1⟩
    go_wp2_with fail
    refine ((HMA.out _)).mono ?_
    rintro e w2 ⟨ab, tb, tg, tc, og, rfl, hs, hk2⟩
    have hL1 : Laid (w1.alloc (.cells #[.int .i64 1, .int .i64 2, .int .i64 3] 2)) := (HL.out.on0 hk1).on0 ((Kept.refl _ w1).alloc _)
    have hkW : Kept (fun _ => False) w (w1.alloc (.cells #[.int .i64 1, .int .i64 2, .int .i64 3] 2)) := hk1.alloc _
    generalize w1.alloc (.cells #[.int .i64 1, .int .i64 2, .int .i64 3] 2) = W at *
    have HL1 := Lib.hid hL1
    have HKW := Lib.hid hkW
    have HS := Lib.hid hs
    have HK := Lib.hid hk2
    clear hL1 hkW hs hk1 hk2 HU HMA HL
    go_wp2_with fail
    refine ((HPN.out _)).mono ?_
    rintro e w2' ⟨rfl, rfl⟩
    clear HPN
    go_wp2_with (at_make; refine wpList_make_full _ rfl (.tmp 37) (.tmp 37) 29 rfl 0 60 i17 (.agg #[.int .i64 0, .int .i64 0, .int .i64 0, .int .i64 0, .int .i64 0, .int .i64 0, .int .i64 0, .int .i64 0, .int .i64 0, .int .i64 0, .int .i64 0, .int .i64 0, .int .i64 0, .int .i64 0, .int .i64 0, .int .i64 0, .int .i64 0]) 17 Tryd.underlying29 HI.out HZ.out HN.out .i64 .i64 n n n rfl rfl rfl rfl ?cA ?cB (Nat.zero_le _) ?_)
    case cA => rw [HBY.out]; omega
    case cB => unfold maxLen; omega
    intro w3 hown hgrow
    have hk3 : Kept (fun _ => False) w2 w3 := (Kept.refl _ w2).grown hgrow (fun _ _ e => by simp at e)
    have hR : Row w3 w2.heap.size n 60 17 Fr.cells (List.replicate n zeroF) := Row.made (m := n) (List.length_replicate ..).symm (by rw [← made_frames]; exact hown)
    have HS3 := Lib.hid (HS.out.kept0 hk3)
    have HK3 := Lib.hid (HK.out.trans hk3 (fun _ _ f => f))
    have HR := Lib.hid hR
    have hz2 : w2.heap.size < w3.heap.size := hR.lt
    have HB2 := Lib.hid HS.out.lt
    clear hown hgrow hk3 hR HS HK HI HZ HN HBY
    go_wp2_with fail
    refine ((HPK.out _)).mono ?_
    rintro e w3' ⟨rfl, rfl⟩
    clear HPK
    go_wp2_with fail
    refine ((step_goesNot (goes_nil i w3) _ _ _ _ _ _)).mono ?_
    rintro e w4 ⟨rfl, hk4⟩
    have HLE : Hid (Calls Tryd.prog 13 #[.pointer (some ⟨ab, 0, none⟩)] w4 fun e w' => e = .returned (.int .i64 3) ∧ w4 = w') := Lib.hid (len_any w4 (HS3.out.kept0 hk4).ar)
    have HF := Lib.hid ((HKW.out.trans (HK3.out.trans hk4 (fun _ _ f => f)) (fun _ _ f => f)).below (Nat.le_refl _) (fun _ f => f.elim))
    clear hk4 HS3 HK3 HKW HR HB2 HX HCW HL1
    go_wp2_with fail
    refine (HLE.out).mono ?_
    rintro e w4' ⟨rfl, rfl⟩
    go_wp2_with fail
    go_ret
    exact ⟨rfl, HF.out⟩
  · by_cases hi : ¬ (0 ≤ i ∧ i < 2)
    · have hii : i < 0 ∨ (¬ (i < 0) ∧ (1 : Int) < i) := by omega
      go_enter Tryd.func4, Tryd.ntmps4
      go_wp2_with fail
      refine (HU.out).mono ?_
      rintro e w1 ⟨rfl, hk1⟩
      go_wp2_with fail
      refine ((HMA.out _)).mono ?_
      rintro e w2 ⟨ab, tb, tg, tc, og, rfl, hs, hk2⟩
      have hL1 : Laid (w1.alloc (.cells #[.int .i64 1, .int .i64 2, .int .i64 3] 2)) := (HL.out.on0 hk1).on0 ((Kept.refl _ w1).alloc _)
      have hkW : Kept (fun _ => False) w (w1.alloc (.cells #[.int .i64 1, .int .i64 2, .int .i64 3] 2)) := hk1.alloc _
      generalize w1.alloc (.cells #[.int .i64 1, .int .i64 2, .int .i64 3] 2) = W at *
      have HL1 := Lib.hid hL1
      have HKW := Lib.hid hkW
      have HS := Lib.hid hs
      have HK := Lib.hid hk2
      clear hL1 hkW hs hk1 hk2 HU HMA HL
      go_wp2_with fail
      refine ((HPN.out _)).mono ?_
      rintro e w2' ⟨rfl, rfl⟩
      clear HPN
      go_wp2_with (at_make; refine wpList_make_full _ rfl (.tmp 37) (.tmp 37) 29 rfl 0 60 i17 (.agg #[.int .i64 0, .int .i64 0, .int .i64 0, .int .i64 0, .int .i64 0, .int .i64 0, .int .i64 0, .int .i64 0, .int .i64 0, .int .i64 0, .int .i64 0, .int .i64 0, .int .i64 0, .int .i64 0, .int .i64 0, .int .i64 0, .int .i64 0]) 17 Tryd.underlying29 HI.out HZ.out HN.out .i64 .i64 n n n rfl rfl rfl rfl ?cA ?cB (Nat.zero_le _) ?_)
      case cA => rw [HBY.out]; omega
      case cB => unfold maxLen; omega
      intro w3 hown hgrow
      have hk3 : Kept (fun _ => False) w2 w3 := (Kept.refl _ w2).grown hgrow (fun _ _ e => by simp at e)
      have hR : Row w3 w2.heap.size n 60 17 Fr.cells (List.replicate n zeroF) := Row.made (m := n) (List.length_replicate ..).symm (by rw [← made_frames]; exact hown)
      have HS3 := Lib.hid (HS.out.kept0 hk3)
      have HK3 := Lib.hid (HK.out.trans hk3 (fun _ _ f => f))
      have HR := Lib.hid hR
      have hz2 : w2.heap.size < w3.heap.size := hR.lt
      have HB2 := Lib.hid HS.out.lt
      clear hown hgrow hk3 hR HS HK HI HZ HN HBY
      go_wp2_with fail
      refine ((HPK.out _)).mono ?_
      rintro e w3' ⟨rfl, rfl⟩
      clear HPK
      have HNO := Lib.hid (step_goesNot (ab := ab) (goes_out HS3.out.tab (show ¬ (0 ≤ i ∧ i < ((2 : Nat) : Int)) from hi)) so (some ⟨w2.heap.size, 0, none⟩) code.length cap n n)
      clear hi
      rcases hii with h1 | ⟨h1, h2⟩
      all_goals
        go_wp2_with fail
        refine (HNO.out).mono ?_
        rintro e w4 ⟨rfl, hk4⟩
        have HLE : Hid (Calls Tryd.prog 13 #[.pointer (some ⟨ab, 0, none⟩)] w4 fun e w' => e = .returned (.int .i64 3) ∧ w4 = w') := Lib.hid (len_any w4 (HS3.out.kept0 hk4).ar)
        have HF := Lib.hid ((HKW.out.trans (HK3.out.trans hk4 (fun _ _ f => f)) (fun _ _ f => f)).below (Nat.le_refl _) (fun _ f => f.elim))
        clear hk4 HS3 HK3 HKW HR HB2 HX HCW HL1
        go_wp2_with fail
        refine (HLE.out).mono ?_
        rintro e w4' ⟨rfl, rfl⟩
        go_wp2_with fail
        go_ret
        exact ⟨rfl, HF.out⟩
    obtain ⟨self, rfl⟩ : ∃ a : Nat, i = a := ⟨i.toNat, by omega⟩
    have hs2 : self < 2 := by omega
    have hp : (List.replicate 2 Pk.zero)[self]? = some Pk.zero := by rw [List.getElem?_replicate, if_pos hs2]
    have j1 : ¬ ((self : Int) < 0) := by omega
    have j2 : ¬ ((1 : Int) < (self : Int)) := by omega
    have HP := Lib.hid hp
    clear hi hp hs2
    by_cases hn1 : n = 0
    · subst hn1
      go_enter Tryd.func4, Tryd.ntmps4
      go_wp2_with fail
      refine (HU.out).mono ?_
      rintro e w1 ⟨rfl, hk1⟩
      go_wp2_with fail
      refine ((HMA.out _)).mono ?_
      rintro e w2 ⟨ab, tb, tg, tc, og, rfl, hs, hk2⟩
      have hL1 : Laid (w1.alloc (.cells #[.int .i64 1, .int .i64 2, .int .i64 3] 2)) := (HL.out.on0 hk1).on0 ((Kept.refl _ w1).alloc _)
      have hkW : Kept (fun _ => False) w (w1.alloc (.cells #[.int .i64 1, .int .i64 2, .int .i64 3] 2)) := hk1.alloc _
      generalize w1.alloc (.cells #[.int .i64 1, .int .i64 2, .int .i64 3] 2) = W at *
      have HL1 := Lib.hid hL1
      have HKW := Lib.hid hkW
      have HS := Lib.hid hs
      have HK := Lib.hid hk2
      clear hL1 hkW hs hk1 hk2 HU HMA HL
      go_wp2_with fail
      refine ((HPN.out _)).mono ?_
      rintro e w2' ⟨rfl, rfl⟩
      clear HPN
      go_wp2_with (at_make; refine wpList_make_full _ rfl (.tmp 37) (.tmp 37) 29 rfl 0 60 i17 (.agg #[.int .i64 0, .int .i64 0, .int .i64 0, .int .i64 0, .int .i64 0, .int .i64 0, .int .i64 0, .int .i64 0, .int .i64 0, .int .i64 0, .int .i64 0, .int .i64 0, .int .i64 0, .int .i64 0, .int .i64 0, .int .i64 0, .int .i64 0]) 17 Tryd.underlying29 HI.out HZ.out HN.out .i64 .i64 0 0 0 rfl rfl rfl rfl ?cA ?cB (Nat.zero_le _) ?_)
      case cA => rw [HBY.out]; omega
      case cB => unfold maxLen; omega
      intro w3 hown hgrow
      have hk3 : Kept (fun _ => False) w2 w3 := (Kept.refl _ w2).grown hgrow (fun _ _ e => by simp at e)
      have hR : Row w3 w2.heap.size 0 60 17 Fr.cells (List.replicate 0 zeroF) := Row.made (m := 0) rfl (by rw [← made_frames]; exact hown)
      have HS3 := Lib.hid (HS.out.kept0 hk3)
      have HK3 := Lib.hid (HK.out.trans hk3 (fun _ _ f => f))
      have HR := Lib.hid hR
      have hz2 : w2.heap.size < w3.heap.size := hR.lt
      have HB2 := Lib.hid HS.out.lt
      clear hown hgrow hk3 hR HS HK HI HZ HN HBY
      go_wp2_with fail
      refine ((HPK.out _)).mono ?_
      rintro e w3' ⟨rfl, rfl⟩
      clear HPK
      have HNO := Lib.hid (step_none (ab := ab) (goes_in HS3.out.tab HP.out) so (some ⟨w2.heap.size, 0, none⟩) code.length cap 0)
      go_wp2_with fail
      refine (HNO.out).mono ?_
      rintro e w4 ⟨rfl, hk4⟩
      have HLE : Hid (Calls Tryd.prog 13 #[.pointer (some ⟨ab, 0, none⟩)] w4 fun e w' => e = .returned (.int .i64 3) ∧ w4 = w') := Lib.hid (len_any w4 (HS3.out.kept0 hk4).ar)
      have HF := Lib.hid ((HKW.out.trans (HK3.out.trans hk4 (fun _ _ f => f)) (fun _ _ f => f)).below (Nat.le_refl _) (fun _ f => f.elim))
      clear hk4 HS3 HK3 HKW HR HB2 HX HCW HL1
      go_wp2_with fail
      refine (HLE.out).mono ?_
      rintro e w4' ⟨rfl, rfl⟩
      go_wp2_with fail
      go_ret
      exact ⟨rfl, HF.out⟩
    have j3 : ((n : Int) == 0) = false := by rw [beq_eq_false_iff_ne]; omega
    have j3' : ¬ ((n : Int) = 0) := by omega
    by_cases hn2 : 16 < n
    · have j4 : (16 : Int) < (n : Int) := by omega
      go_enter Tryd.func4, Tryd.ntmps4
      go_wp2_with fail
      refine (HU.out).mono ?_
      rintro e w1 ⟨rfl, hk1⟩
      go_wp2_with fail
      refine ((HMA.out _)).mono ?_
      rintro e w2 ⟨ab, tb, tg, tc, og, rfl, hs, hk2⟩
      have hL1 : Laid (w1.alloc (.cells #[.int .i64 1, .int .i64 2, .int .i64 3] 2)) := (HL.out.on0 hk1).on0 ((Kept.refl _ w1).alloc _)
      have hkW : Kept (fun _ => False) w (w1.alloc (.cells #[.int .i64 1, .int .i64 2, .int .i64 3] 2)) := hk1.alloc _
      generalize w1.alloc (.cells #[.int .i64 1, .int .i64 2, .int .i64 3] 2) = W at *
      have HL1 := Lib.hid hL1
      have HKW := Lib.hid hkW
      have HS := Lib.hid hs
      have HK := Lib.hid hk2
      clear hL1 hkW hs hk1 hk2 HU HMA HL
      go_wp2_with fail
      refine ((HPN.out _)).mono ?_
      rintro e w2' ⟨rfl, rfl⟩
      clear HPN
      go_wp2_with (at_make; refine wpList_make_full _ rfl (.tmp 37) (.tmp 37) 29 rfl 0 60 i17 (.agg #[.int .i64 0, .int .i64 0, .int .i64 0, .int .i64 0, .int .i64 0, .int .i64 0, .int .i64 0, .int .i64 0, .int .i64 0, .int .i64 0, .int .i64 0, .int .i64 0, .int .i64 0, .int .i64 0, .int .i64 0, .int .i64 0, .int .i64 0]) 17 Tryd.underlying29 HI.out HZ.out HN.out .i64 .i64 n n n rfl rfl rfl rfl ?cA ?cB (Nat.zero_le _) ?_)
      case cA => rw [HBY.out]; omega
      case cB => unfold maxLen; omega
      intro w3 hown hgrow
      have hk3 : Kept (fun _ => False) w2 w3 := (Kept.refl _ w2).grown hgrow (fun _ _ e => by simp at e)
      have hR : Row w3 w2.heap.size n 60 17 Fr.cells (List.replicate n zeroF) := Row.made (m := n) (List.length_replicate ..).symm (by rw [← made_frames]; exact hown)
      have HS3 := Lib.hid (HS.out.kept0 hk3)
      have HK3 := Lib.hid (HK.out.trans hk3 (fun _ _ f => f))
      have HR := Lib.hid hR
      have hz2 : w2.heap.size < w3.heap.size := hR.lt
      have HB2 := Lib.hid HS.out.lt
      clear hown hgrow hk3 hR HS HK HI HZ HN HBY
      go_wp2_with fail
      refine ((HPK.out _)).mono ?_
      rintro e w3' ⟨rfl, rfl⟩
      clear HPK
      have HNO := Lib.hid (step_many (ab := ab) (goes_in HS3.out.tab HP.out) so (some ⟨w2.heap.size, 0, none⟩) code.length cap n n hn2)
      go_wp2_with fail
      refine (HNO.out).mono ?_
      rintro e w4 ⟨rfl, hk4⟩
      have HLE : Hid (Calls Tryd.prog 13 #[.pointer (some ⟨ab, 0, none⟩)] w4 fun e w' => e = .returned (.int .i64 3) ∧ w4 = w') := Lib.hid (len_any w4 (HS3.out.kept0 hk4).ar)
      have HF := Lib.hid ((HKW.out.trans (HK3.out.trans hk4 (fun _ _ f => f)) (fun _ _ f => f)).below (Nat.le_refl _) (fun _ f => f.elim))
      clear hk4 HS3 HK3 HKW HR HB2 HX HCW HL1
      go_wp2_with fail
      refine (HLE.out).mono ?_
      rintro e w4' ⟨rfl, rfl⟩
      go_wp2_with fail
      go_ret
      exact ⟨rfl, HF.out⟩
    have j4 : ¬ ((16 : Int) < (n : Int)) := by omega
    go_enter Tryd.func4, Tryd.ntmps4
    go_wp2_with fail
    refine (HU.out).mono ?_
    rintro e w1 ⟨rfl, hk1⟩
    go_wp2_with fail
    refine ((HMA.out _)).mono ?_
    rintro e w2 ⟨ab, tb, tg, tc, og, rfl, hs, hk2⟩
    have hL1 : Laid (w1.alloc (.cells #[.int .i64 1, .int .i64 2, .int .i64 3] 2)) := (HL.out.on0 hk1).on0 ((Kept.refl _ w1).alloc _)
    have hkW : Kept (fun _ => False) w (w1.alloc (.cells #[.int .i64 1, .int .i64 2, .int .i64 3] 2)) := hk1.alloc _
    generalize w1.alloc (.cells #[.int .i64 1, .int .i64 2, .int .i64 3] 2) = W at *
    have HL1 := Lib.hid hL1
    have HKW := Lib.hid hkW
    have HS := Lib.hid hs
    have HK := Lib.hid hk2
    clear hL1 hkW hs hk1 hk2 HU HMA HL
    go_wp2_with fail
    refine ((HPN.out _)).mono ?_
    rintro e w2' ⟨rfl, rfl⟩
    clear HPN
    go_wp2_with (at_make; refine wpList_make_full _ rfl (.tmp 37) (.tmp 37) 29 rfl 0 60 i17 (.agg #[.int .i64 0, .int .i64 0, .int .i64 0, .int .i64 0, .int .i64 0, .int .i64 0, .int .i64 0, .int .i64 0, .int .i64 0, .int .i64 0, .int .i64 0, .int .i64 0, .int .i64 0, .int .i64 0, .int .i64 0, .int .i64 0, .int .i64 0]) 17 Tryd.underlying29 HI.out HZ.out HN.out .i64 .i64 n n n rfl rfl rfl rfl ?cA ?cB (Nat.zero_le _) ?_)
    case cA => rw [HBY.out]; omega
    case cB => unfold maxLen; omega
    intro w3 hown hgrow
    have hk3 : Kept (fun _ => False) w2 w3 := (Kept.refl _ w2).grown hgrow (fun _ _ e => by simp at e)
    have hR : Row w3 w2.heap.size n 60 17 Fr.cells (List.replicate n zeroF) := Row.made (m := n) (List.length_replicate ..).symm (by rw [← made_frames]; exact hown)
    have HS3 := Lib.hid (HS.out.kept0 hk3)
    have HK3 := Lib.hid (HK.out.trans hk3 (fun _ _ f => f))
    have HR := Lib.hid hR
    have hz2 : w2.heap.size < w3.heap.size := hR.lt
    have HB2 := Lib.hid HS.out.lt
    clear hown hgrow hk3 hR HS HK HI HZ HN HBY
    go_wp2_with fail
    refine ((HPK.out _)).mono ?_
    rintro e w3' ⟨rfl, rfl⟩
    clear HPK
    have hkk := HKW.out.trans HK3.out (fun _ _ f => f)
    have hE : Elems w3 w.heap.size so 5 Ix.cells code := HX.out.kept hkk (Nat.le_refl _) (fun _ _ f => f)
    have hCI : CodeIn so code (Base ab tb tg og) w3 := code_came hE hkk.size (fun g hg => Nat.le_trans HKW.out.size (HS3.out.new g hg))
    have hRR := HR.out
    obtain ⟨m, hm⟩ : ∃ m, n = m + 1 := ⟨n - 1, by omega⟩
    rw [hm, List.replicate_succ'] at hRR
    have hst := sys_step (cc := cap) (bs := List.replicate m zeroF) HS3.out HK3.out HL1.out HP.out rfl (show 3 ≤ 4096 by decide) hRR (by rw [List.length_replicate]; omega) hCI (by omega) HCW.out
    rw [List.length_replicate, ← hm] at hst
    have hhow := run_how code 4096 0 self 200 false ⟨[1, 2, 3], List.replicate 2 Pk.zero, List.replicate m zeroF, zeroF, []⟩
    change 0 ≤ (stepM code 4096 0 self ⟨[1, 2, 3], List.replicate 2 Pk.zero, List.replicate m zeroF, zeroF, []⟩).1 ∧ (stepM code 4096 0 self ⟨[1, 2, 3], List.replicate 2 Pk.zero, List.replicate m zeroF, zeroF, []⟩).1 ≤ 3 at hhow
    generalize stepM code 4096 0 self ⟨[1, 2, 3], List.replicate 2 Pk.zero, List.replicate m zeroF, zeroF, []⟩ = r at hst hhow
    obtain ⟨how, val, s'⟩ := r
    obtain ⟨u1, u2⟩ := hhow
    dsimp only at u1 u2
    have HST := Lib.hid hst
    clear hkk hE hCI hRR hst hm HX HCW HP HR HL1 HB2
    go_wp2_with fail
    refine (HST.out).mono ?_
    rintro e w4 ⟨fg, fc, no, nc, og', rfl, haf⟩
    have HF := Lib.hid ((HKW.out.trans (haf.keeps HS3.out HK3.out) (fun _ _ f => f)).below (Nat.le_refl _) (fun _ f => f.elim))
    clear haf HST HS3 HK3 HKW
    have d1 : decide ((self : Int) < 0) = false := by rw [decide_eq_false_iff_not]; omega
    have d2 : decide ((1 : Int) < (self : Int)) = false := by rw [decide_eq_false_iff_not]; omega
    have d3 : decide ((16 : Int) < (n : Int)) = false := by rw [decide_eq_false_iff_not]; omega
    clear j1 j2 j4
    go_wp2_with fail
    go_ret
    exact ⟨rfl, HF.out⟩

theorem own : ownKnob Tryd.prog.godebug = none := by kernel_rfl
theorem laidOut : laidOutB Tryd.prog = true := by kernel_rfl

set_option maxRecDepth 100000 in
theorem lifted (os : Os) (started : os.Started) (H : Type) (enc : TypeId × Value → H) :
    ReturnsInHanded {} Tryd.checked os 4 .any (fun w args => (Rows.microRefusesSpec.pre enc Tryd.prog Tryd.f4 [] false w args ∧ laidMetH Tryd.prog rowLaid w) ∧ sizedMet enc Tryd.prog Tryd.f4 (OpenSpec.ofChange Rows.microRefusesSpec) false w args) (Rows.microRefusesSpec.post enc Tryd.prog Tryd.f4 false true false false) := by
  refine handed_laid (C := Tryd.checked) (X := fun w _ => laidMetH Tryd.prog rowLaid w) (fun _ _ _ hh h => h.of_heap hh) own started (by kernel_rfl) Tryd.func4
    (ChangeSpec.witness_shaped (enc := enc) (C := Tryd.checked) (os := os) (X := fun w _ => laidMetH Tryd.prog rowLaid w) false (World.laidAll Tryd.prog os rowLaid) #[.slice none 0 0, .int .i64 0, .int .i64 0, .int .i64 0] 8 (World.laidAll_os _ _ _)
      (World.shaped_of_ZipB (by kernel_rfl) (by kernel_rfl)) (by kernel_rfl) (by kernel_rfl) (by kernel_rfl)
      (by rw [MakeChecks.laidMetH_plain _ _ _ (by kernel_rfl)]; exact laidMet_laidAll _ (by kernel_rfl) (by kernel_rfl))) ?_
  intro W base args ds gs before hval0 hW hL hsh
  rw [MakeChecks.laidMetH_plain _ _ _ (by kernel_rfl)] at hL
  have hLaid := laid_of hL hsh
  have hval : ∀ (j : Nat) t v, Tryd.f4.params[j]? = some t → args[j]? = some v → Value.okWide Tryd.prog W .any base t v := hval0
  have hW' := hW
  obtain ⟨p, q, hA0, hV, rfl, hfz, hnd⟩ := hW
  have hA : DataW.TrodAll enc Tryd.prog W 0 (fun _ => true) true Tryd.f4.params.toList args.toList ds p := hA0
  rw [Tryd.params4] at hA hval
  obtain ⟨v0, vs0, d0, ds0, p0, q0, hargs, rfl, rfl, h0, r0⟩ := trodAll_cons hA
  obtain ⟨v1, vs1, d1, ds1, p1, q1, rfl, rfl, rfl, h1, r1⟩ := trodAll_cons r0
  obtain ⟨v2, vs2, d2, ds2, p2, q2, rfl, rfl, rfl, h2, r2⟩ := trodAll_cons r1
  obtain ⟨v3, vs3, d3, ds3, p3, q3, rfl, rfl, rfl, h3, r3⟩ := trodAll_cons r2
  obtain ⟨rfl, rfl, rfl⟩ := trodAll_nil r3
  obtain rfl : args = #[v0, v1, v2, v3] := by cases args; simp_all
  obtain ⟨rfl, rfl⟩ := trodVars_none hV
  have k0 := h0
  have lt0 : ∀ x ∈ p0, x.block < W.heap.size := by obtain ⟨m, hm⟩ := k0; exact DataW.trod_lt m _ _ _ hm
  obtain ⟨s0, len0, cap0, rfl⟩ := okWide_slice Tryd.underlying22 (hval 0 22 v0 rfl rfl)
  obtain ⟨xs0, rfl, hx0, hw0⟩ := code_of k0
  obtain ⟨a1, rfl, rfl, rfl, w1⟩ := open_int Tryd.underlying3 (hval 1 3 v1 rfl rfl) h1
  obtain ⟨a2, rfl, rfl, rfl, w2⟩ := open_int Tryd.underlying3 (hval 2 3 v2 rfl rfl) h2
  obtain ⟨a3, rfl, rfl, rfl, w3⟩ := open_int Tryd.underlying3 (hval 3 3 v3 rfl rfl) h3
  clear hA0 hval0
  refine (walk xs0 s0 cap0 a1 a2 a3 W hx0 hw0 w1 w2 w3 hLaid).mono fun e W' ⟨he, bel⟩ => ?_
  subst he
  exact ⟨_, rfl, _, _, _, [], _, [], hW', trodAll_mk1 (shut_bool Tryd.underlying4 _), (trodAll_cons_mk (Below.trod laidOut (by kernel_rfl) (of_decide_eq_true (by kernel_rfl)) k0 bel lt0) (trodAll_cons_mk (shut_int Tryd.underlying3 w1) (trodAll_cons_mk (shut_int Tryd.underlying3 w2) (trodAll_cons_mk (shut_int Tryd.underlying3 w3) trodAll_mk0)))), rfl, bel.frame _, fun h => by cases h⟩

theorem over : Rows.microRefusesRow.holds Tryd.pinned (OpenSpec.ofChange Rows.microRefusesSpec) :=
  OpenClaim.holds_of_wide 4 Tryd.f4 rfl rfl rfl rfl rfl rfl rfl ⟨rfl, rfl, rfl, rfl, rfl⟩ rfl rfl rfl rfl rfl (by kernel_rfl) Tryd.func4 (by kernel_rfl)
    (of_decide_eq_true (by kernel_rfl)) (by unfold Func.isWrapper; first | (rw [if_pos (by decide +kernel)]; kernel_rfl) | (rw [if_neg (by decide +kernel)]; exact ⟨rfl, rfl⟩))
    (fun os started H enc _ => lifted os started H enc)

end microRefuses
/-- The row's statement. -/
theorem microRefuses_row : Rows.MicroRefusesSaid := microRefuses.over
/-- The statement: the card. -/
theorem microRefuses_holds : Rows.MicroRefusesCardSaid :=
  Claim7.holds_tied_plain_at .later [] Rows.microRefusesCard.laidKinds true Rows.microRefusesCard.stood.harness Rows.microRefusesCard.stood.looks
    microRefuses_row (fun _ h => by cases h) (by kernel_rfl) (fun _ h => by cases h) microRefuses_row_tie rfl ⟨rfl, rfl⟩ (by kernel_rfl) rfl
    (fun f fn hf hfn => by
      obtain rfl : f = 4 := Option.some.inj ((show Tryd.prog.funcNamed "thole/tholelaw09.MicroRefuses" = some 4 by kernel_rfl).symm.trans hf) |>.symm
      obtain rfl : fn = Tryd.f4 := (Option.some.inj (Tryd.func4.symm.trans hfn)).symm
      exact ⟨by kernel_rfl, fun j t ht => by
        rw [Tryd.params4] at ht
        have hm : t ∈ [22, 3, 3, 3] := by simpa using Array.mem_of_getElem? ht
        have hall : ([22, 3, 3, 3].all fun u => !Tryd.prog.wantsStandIn u) = true := by kernel_rfl
        exact (show Tryd.prog.wantsStandIn t = false by simpa using List.all_eq_true.1 hall t hm)⟩)
    (by kernel_rfl)
end Go.Proofs.YtdkableaooaebaaDoor
