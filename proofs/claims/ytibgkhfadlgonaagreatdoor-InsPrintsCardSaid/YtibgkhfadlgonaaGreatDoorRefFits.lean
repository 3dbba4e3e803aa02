/-
  What the document's Fits of layer 7 comes to.
  Conditions: strings within what a string is.
-/
import Derived.Test.YtibgkhfadlgonaaGreatDoorRefMayAll
import Derived.Test.YtibgkhfadlgonaaGreatDoorLineEq
import Derived.Test.YtibgkhfadlgonaaGreatDoorLineName
import Derived.Test.YtibgkhfadlgonaaGreatDoorInsName
namespace Go.Proofs.YtibgkhfadlgonaaGreatDoor
open Go.RowKit

theorem zero_is (x : Ln) : decide ({ x with label := [] } = zeroLn) = (decide (x.op = 0 ∧ x.a = 0 ∧ x.b = 0 ∧ x.c = 0 ∧ x.n = 0) && decide (x.target = [])) := by
  obtain ⟨l, op, a, b, c, n, t⟩ := x
  simp only [zeroLn, Ln.mk.injEq, true_and]
  rw [Bool.eq_iff_iff]
  simp only [Bool.and_eq_true, decide_eq_true_eq, and_assoc]

set_option maxHeartbeats 4000000 in
set_option maxRecDepth 100000 in
theorem refFits_any (x : Ln) (w : World) (hl : x.label.length ≤ 100000) (ht : x.target.length ≤ 100000) : Calls Tryz.prog 11 #[.agg #[.string (strS x.label), .int .i64 x.op, .int .i64 x.a, .int .i64 x.b, .int .i64 x.c, .int .i64 x.n, .string (strS x.target)]] w (BoolTo w (fitsL x)) := by
  have HK := Lib.hid ((Kept.refl (fun _ => False) w).alloc (.cells (lnCells x) 25))
  have HB := Lib.hid (heap_new1 w (.cells (lnCells x) 25))
  have hFin : ∀ b, fitsL x = b → ∀ w', Kept (fun _ => False) w w' → BoolTo w (fitsL x) (.returned (.bool b)) w' := fun b hb w' hk => ⟨by rw [hb], hk⟩
  have HFIN := Lib.hid hFin
  clear hFin
  have hNL := fun w' => refName_any (strS x.label) w' (by rw [strS_size]; omega)
  have hNT := fun w' => refName_any (strS x.target) w' (by rw [strS_size]; omega)
  rw [bytesS_str] at hNL hNT
  obtain ⟨nl, hnl⟩ : ∃ b, isName x.label = b := ⟨_, rfl⟩
  obtain ⟨nt, hnt⟩ : ∃ b, isName x.target = b := ⟨_, rfl⟩
  rw [hnl] at hNL
  rw [hnt] at hNT
  have HNL := Lib.hid hNL
  have HNT := Lib.hid hNT
  obtain ⟨p, hp⟩ : ∃ b, decide (x.op = 0 ∧ x.a = 0 ∧ x.b = 0 ∧ x.c = 0 ∧ x.n = 0) = b := ⟨_, rfl⟩
  have he : ∀ w, (Op.equalIn 10000 23 (.agg #[.int .i64 x.op, .int .i64 x.a, .int .i64 x.b, .int .i64 x.c, .int .i64 x.n]) (.agg #[.int .i64 0, .int .i64 0, .int .i64 0, .int .i64 0, .int .i64 0])).run Tryz.prog w = .ok p w := fun w => by
    have := eq_ins x.op x.a x.b x.c x.n 0 0 0 0 0 9999 (by omega) w
    rw [hp] at this
    exact this
  have g2 := guard_ins
  have hz := zero_is x
  rw [hp] at hz
  obtain ⟨tq, e3, e4, htq⟩ : ∃ tq, (strS x.target).toList.isEmpty = tq ∧ ((tq = true ∧ (strS x.target).toList = []) ∨ (tq = false ∧ ¬ (strS x.target).toList = [])) ∧ decide (x.target = []) = tq := by
    by_cases h : x.target = []
    · obtain ⟨q1, q2⟩ := empty_yes (s := strS x.target) (by rw [h]; rfl)
      exact ⟨true, q1, .inl ⟨rfl, q2⟩, decide_eq_true h⟩
    · obtain ⟨q1, q2⟩ := empty_no (s := strS x.target) (by rw [strS_size]; exact List.length_pos_iff.2 h)
      exact ⟨false, q1, .inr ⟨rfl, q2⟩, decide_eq_false h⟩
  rw [htq] at hz
  clear hNL hNT
  by_cases hl0 : x.label = []
  case neg =>
    have hF : fitsL x = (nl && (p && tq)) := by unfold fitsL; rw [if_pos hl0, hnl, hz]
    have HF := Lib.hid hF
    obtain ⟨e1, e2⟩ := empty_no (s := strS x.label) (by rw [strS_size]; exact List.length_pos_iff.2 hl0)
    clear hF hz hl0 hp htq hnl hnt
    cases nl
    · go_enter Tryz.func11, Tryz.ntmps11
      go_wp2_with fail
      refine (HNL.out _).mono ?_
      rintro e wx ⟨rfl, rfl⟩
      go_wp2_with fail
      go_ret
      exact HFIN.out _ HF.out _ HK.out
    · cases p
      · go_enter Tryz.func11, Tryz.ntmps11
        go_wp2_with fail
        refine (HNL.out _).mono ?_
        rintro e wx ⟨rfl, rfl⟩
        go_wp2_with fail
        go_ret
        exact HFIN.out _ HF.out _ HK.out
      · rcases e4 with ⟨rfl, e4⟩ | ⟨rfl, e4⟩
        · go_enter Tryz.func11, Tryz.ntmps11
          go_wp2_with fail
          refine (HNL.out _).mono ?_
          rintro e wx ⟨rfl, rfl⟩
          go_wp2_with fail
          go_ret
          exact HFIN.out _ HF.out _ HK.out
        · go_enter Tryz.func11, Tryz.ntmps11
          go_wp2_with fail
          refine (HNL.out _).mono ?_
          rintro e wx ⟨rfl, rfl⟩
          go_wp2_with fail
          go_ret
          exact HFIN.out _ HF.out _ HK.out
  obtain ⟨e1, e2⟩ := empty_yes (s := strS x.label) (by rw [hl0]; rfl)
  by_cases h0 : x.op = 0
  · have hF : fitsL x = (p && tq) := by
      unfold fitsL
      rw [if_neg (by simp [hl0]), if_pos h0, ← hz]
      have : { x with label := [] } = x := by
        obtain ⟨l, op, a, b, c, n, t⟩ := x
        simp only at hl0
        rw [hl0]
      rw [this]
    have HF := Lib.hid hF
    have h0' : (x.op == 0) = true := by rw [h0]; rfl
    clear hF hz hl0 hp htq hnl hnt h0
    cases p
    · go_enter Tryz.func11, Tryz.ntmps11
      go_wp2_with fail
      go_ret
      exact HFIN.out _ HF.out _ HK.out
    · rcases e4 with ⟨rfl, e4⟩ | ⟨rfl, e4⟩
      · go_enter Tryz.func11, Tryz.ntmps11
        go_wp2_with fail
        go_ret
        exact HFIN.out _ HF.out _ HK.out
      · go_enter Tryz.func11, Tryz.ntmps11
        go_wp2_with fail
        go_ret
        exact HFIN.out _ HF.out _ HK.out
  have hF : fitsL x = (mayL x.op x.a x.b x.c x.n && (if 8 ≤ x.op ∧ x.op ≤ 12 then x.n == 0 && nt else tq)) := by
    unfold fitsL
    rw [if_neg (by simp [hl0]), if_neg h0, hnt, htq]
  have h0' : (x.op == 0) = false := by rw [beq_eq_false_iff_ne]; exact h0
  obtain ⟨m, hm⟩ : ∃ b, mayL x.op x.a x.b x.c x.n = b := ⟨_, rfl⟩
  have HM := Lib.hid (refMay_any x.op x.a x.b x.c x.n (w.alloc (.cells (lnCells x) 25)))
  rw [hm] at HM hF
  clear hz hl0 hp htq hnl hnt h0 hm he
  cases m
  · have HF := Lib.hid hF
    go_enter Tryz.func11, Tryz.ntmps11
    go_wp2_with fail
    refine (HM.out).mono ?_
    rintro e w1 ⟨rfl, hk1⟩
    have HK1 := Lib.hid (HK.out.trans hk1 (fun _ _ f => f))
    clear hk1
    go_wp2_with fail
    go_ret
    exact HFIN.out _ HF.out _ HK1.out
  by_cases hgo : 8 ≤ x.op ∧ x.op ≤ 12
  · obtain ⟨g3, g4⟩ := hgo
    rw [if_pos ⟨g3, g4⟩] at hF
    by_cases hn0 : x.n = 0
    · have hn0' : (x.n == 0) = true := by rw [hn0]; rfl
      rw [hn0'] at hF
      have HF := Lib.hid hF
      clear hF hn0
      go_enter Tryz.func11, Tryz.ntmps11
      go_wp2_with fail
      refine (HM.out).mono ?_
      rintro e w1 ⟨rfl, hk1⟩
      have HK1 := Lib.hid (HK.out.trans hk1 (fun _ _ f => f))
      obtain ⟨c0, c1, c2, c3, c4, c5, c6⟩ := (cells7 (hk1.at0 HB.out)).1
      clear hk1
      go_wp2_with fail
      refine (HNT.out _).mono ?_
      rintro e wx ⟨rfl, rfl⟩
      go_wp2_with fail
      go_ret
      exact HFIN.out _ (HF.out.trans (by simp)) _ HK1.out
    · have hn0' : (x.n == 0) = false := by rw [beq_eq_false_iff_ne]; exact hn0
      rw [hn0'] at hF
      have HF := Lib.hid hF
      clear hF hn0
      go_enter Tryz.func11, Tryz.ntmps11
      go_wp2_with fail
      refine (HM.out).mono ?_
      rintro e w1 ⟨rfl, hk1⟩
      have HK1 := Lib.hid (HK.out.trans hk1 (fun _ _ f => f))
      obtain ⟨c0, c1, c2, c3, c4, c5, c6⟩ := (cells7 (hk1.at0 HB.out)).1
      clear hk1
      go_wp2_with fail
      go_ret
      exact HFIN.out _ (HF.out.trans (by simp)) _ HK1.out
  rw [if_neg hgo, Bool.true_and] at hF
  have HF := Lib.hid hF
  by_cases g3 : 8 ≤ x.op
  · have g4 : ¬ x.op ≤ 12 := fun h => hgo ⟨g3, h⟩
    clear hF hgo
    rcases e4 with ⟨rfl, e4⟩ | ⟨rfl, e4⟩
    all_goals (
      go_enter Tryz.func11, Tryz.ntmps11
      go_wp2_with fail
      refine (HM.out).mono ?_
      rintro e w1 ⟨rfl, hk1⟩
      have HK1 := Lib.hid (HK.out.trans hk1 (fun _ _ f => f))
      obtain ⟨c0, c1, c2, c3, c4, c5, c6⟩ := (cells7 (hk1.at0 HB.out)).1
      clear hk1
      go_wp2_with fail
      go_ret
      exact HFIN.out _ HF.out _ HK1.out
      )
  · clear hF hgo
    rcases e4 with ⟨rfl, e4⟩ | ⟨rfl, e4⟩
    all_goals (
      go_enter Tryz.func11, Tryz.ntmps11
      go_wp2_with fail
      refine (HM.out).mono ?_
      rintro e w1 ⟨rfl, hk1⟩
      have HK1 := Lib.hid (HK.out.trans hk1 (fun _ _ f => f))
      obtain ⟨c0, c1, c2, c3, c4, c5, c6⟩ := (cells7 (hk1.at0 HB.out)).1
      clear hk1
      go_wp2_with fail
      go_ret
      exact HFIN.out _ HF.out _ HK1.out
      )

end Go.Proofs.YtibgkhfadlgonaaGreatDoor
