/-
  What package model's swapDoes leaves.
  Conditions: the thing lies in a block.
  What package model's does leaves at any mark that may be.
  Conditions: the thing lies in a block, its waiters in a row of the call's own; no count is beyond two millions.
-/
import Derived.Test.YtbodlaiakcoabaaGreatDoorModHeldW
section
namespace Go.Proofs.YtbodlaiakcoabaaGreatDoor
open Go.RowKit
set_option linter.unusedSimpArgs false

section
variable {w : World} {b c : Nat} {x : Th} {s : Option Addr}
set_option maxHeartbeats 1000000 in
theorem swapD_any (h : BoxT w b x s c) (t k v : Int) :
    Calls Tryz.prog 85 #[.pointer (some ⟨b, 0, none⟩), .int .i64 t, .agg #[.int .i64 k, .int .i64 v]] w (Turn w b (swapM x t k v) s c) := by
  have hc : k = 15 ∨ k = 14 ∨ k = 16 ∨ (k ≠ 15 ∧ k ≠ 14 ∧ k ≠ 16) := by omega
  obtain ⟨W1, hW1, hT, hN, hk, hs⟩ := note_box h k v
  obtain ⟨_, _, _, _, _, _, _, _, _, _, _, _, _, c13, c14⟩ := hT.cells
  obtain ⟨d0, d1⟩ := hN.cells
  have f13 := hT.free 13
  have f14 := hT.free 14
  have HA : Hid (BoxT ((W1.setCell ⟨b, 13, none⟩ (.int .i64 t)).setCell ⟨b, 14, none⟩ (.int .i64 v)).drew b { x with offer := t, item := v } s c) := Lib.hid ((hT.setOffer _).setItem _).drewB
  have HC : Hid (BoxT ((W1.setCell ⟨b, 13, none⟩ (.int .i64 (-1))).setCell ⟨b, 14, none⟩ (.int .i64 0)) b { x with offer := -1, item := 0 } s c) := Lib.hid ((hT.setOffer _).setItem _)
  have HS : Hid (BoxT W1 b x s c) := Lib.hid hT
  have HK0 := Lib.hid hk
  clear h hT hN hk hs
  rcases hc with rfl | rfl | rfl | ⟨n15, n14, n16⟩
  · go_enter Tryz.func85, Tryz.ntmps85
    go_wp2_with fail
    go_region
    go_wp2_with fail
    go_end0
    exact ⟨rfl, HA.out, ((HK0.out.sB _ _).sB _ _).drew⟩
  · go_enter Tryz.func85, Tryz.ntmps85
    go_wp2_with fail
    go_end0
    exact ⟨rfl, HC.out, (HK0.out.sB _ _).sB _ _⟩
  · go_enter Tryz.func85, Tryz.ntmps85
    go_wp2_with fail
    go_end0
    exact ⟨rfl, HC.out, (HK0.out.sB _ _).sB _ _⟩
  · have HT : Hid (swapM x t k v = x) := Lib.hid (by unfold swapM; rw [if_neg n15, if_neg (by omega)])
    go_enter Tryz.func85, Tryz.ntmps85
    go_wp2_with fail
    go_end0
    exact ⟨rfl, by rw [HT.out]; exact HS.out, HK0.out⟩

end
end Go.Proofs.YtbodlaiakcoabaaGreatDoor
end
section
set_option maxRecDepth 100000
namespace Go.Proofs.YtbodlaiakcoabaaGreatDoor
open Go.RowKit
set_option linter.unusedSimpArgs false
set_option linter.unusedVariables false

section
variable {W : Nat} {w : World} {b c : Nat} {x : Th} {s : Option Addr}

theorem OwnW.new2 {ws : List Wt} (h : OwnW W w s c ws) (hl : ws.length ≤ 200) : NewW W w s c ws := h.new (by unfold maxLen; omega)

theorem held_any (h : BoxT w b x s c) (hO : OwnW W w s c x.ws) (hb : b < W) (hW : W ≤ w.heap.size) (hF : Fit x) (t : Nat) (ht : t < 8) (k v : Int) (h11 : k = 11 → x.ws ≠ []) (h13 : k = 13 → waitsM x.ws t = true) :
    Calls Tryz.prog 83 #[.pointer (some ⟨b, 0, none⟩), .int .i64 (t : Int), .agg #[.int .i64 k, .int .i64 v]] w (Done W w b (heldM x (t : Int) k v)) := by
  have hN := hO.new2 hF.ws
  have hc : k = 1 ∨ k = 3 ∨ k = 2 ∨ k = 4 ∨ k = 10 ∨ k = 11 ∨ k = 13 ∨ (k ≠ 1 ∧ k ≠ 3 ∧ k ≠ 2 ∧ k ≠ 4 ∧ k ≠ 10 ∧ k ≠ 11 ∧ k ≠ 13) := by omega
  rcases hc with rfl | rfl | rfl | rfl | rfl | rfl | rfl | hn
  · exact held_1 h hN hb hF t v
  · exact held_3 h hN hb hF.h0 (by have := hF.h1; omega) t v
  · exact held_2 h hN hb hF t ht v
  · exact held_4 h hN hb hF.r0 (fun i hi => by have := hF.r1 i hi; omega) t ht v
  · exact held_10 h hO hb hW hF.ws t v
  · exact held_11 h hO hb hF.ws (h11 rfl) t v
  · exact held_13 h hO hb hF.ws t v (h13 rfl)
  · have e : heldM x (t : Int) k v = x := by
      obtain ⟨n1, n3, n2, n4, n10, n11, n13⟩ := hn
      unfold heldM
      rw [if_neg n1, if_neg n3, if_neg n2, if_neg n4, if_neg n10, if_neg n11, if_neg n13]
    rw [e]
    exact held_no h hN hb t k v hn

theorem lock_needs {t k v : Int} (hk : x.kind = 1 ∨ x.kind = 4) (hm : mayInM x t k v = true) : (k = 11 → x.ws ≠ []) ∧ (k = 13 → waitsM x.ws t = true) := by
  unfold mayInM at hm
  rcases hk with hk | hk
  · rw [hk] at hm
    refine ⟨fun e => ?_, fun e => ?_⟩
    · subst e
      intro hw
      replace hm : ((x.owner == t && firstM x.ws v) || quitM 11 v) = true := hm
      rw [hw] at hm
      simp [firstM, quitM] at hm
    · subst e
      replace hm : ((v == 0 && waitsM x.ws t) || quitM 13 v) = true := hm
      simp [quitM] at hm
      exact hm.2
  · rw [hk] at hm
    refine ⟨fun e => ?_, fun e => ?_⟩
    · subst e
      replace hm : (false || quitM 11 v) = true := hm
      simp [quitM] at hm
    · subst e
      replace hm : (false || quitM 13 v) = true := hm
      simp [quitM] at hm

theorem count_needs {t k v : Int} (hF : Fit x) (hk : x.kind = 2 ∨ x.kind = 3) (hm : mayInM x t k v = true) : (k = 1 ∨ k = 8 ∨ k = 9 → -9000000 ≤ x.n - v ∧ x.n - v ≤ 9000000) ∧ (k = 3 → -9000000 ≤ x.n + v ∧ x.n + v ≤ 9000000) := by
  have n0 := hF.n0
  have n1 := hF.n1
  unfold mayInM at hm
  rcases hk with hk | hk
  · rw [hk] at hm
    refine ⟨fun e => ?_, fun e => ?_⟩
    · rcases e with rfl | rfl | rfl
      · replace hm : ((decide (1 ≤ v) && decide (v ≤ x.n)) || quitM 1 v) = true := hm
        simp [quitM] at hm
        omega
      · replace hm : (false || quitM 8 v) = true := hm
        simp [quitM] at hm
      · replace hm : ((v == x.n) || quitM 9 v) = true := hm
        simp [quitM] at hm
        omega
    · subst e
      replace hm : ((decide (1 ≤ v) && !overM x.n v) || quitM 3 v) = true := hm
      simp [quitM, overM] at hm
      omega
  · rw [hk] at hm
    refine ⟨fun e => ?_, fun e => ?_⟩
    · rcases e with rfl | rfl | rfl
      · replace hm : ((v == 0 && x.n == 0) || quitM 1 v) = true := hm
        simp [quitM] at hm
        omega
      · replace hm : (((v == 1 && decide (0 < x.n)) || (v == 0 && x.n == 0)) || quitM 8 v) = true := hm
        simp [quitM] at hm
        omega
      · replace hm : (false || quitM 9 v) = true := hm
        simp [quitM] at hm
    · subst e
      replace hm : (false || quitM 3 v) = true := hm
      simp [quitM] at hm

theorem countM_ws (k v : Int) : (countM x k v).ws = x.ws := by unfold countM; repeat' split
                                                               all_goals rfl
theorem swapM_ws (t k v : Int) : (swapM x t k v).ws = x.ws := by unfold swapM; repeat' split
                                                                 all_goals rfl

set_option maxHeartbeats 1000000 in
theorem does_any (h : BoxT w b x s c) (hO : OwnW W w s c x.ws) (hb : b < W) (hW : W ≤ w.heap.size) (hF : Fit x) (t : Nat) (ht : t < 8) (k v : Int) (hm : mayInM x (t : Int) k v = true) :
    Calls Tryz.prog 64 #[.pointer (some ⟨b, 0, none⟩), .int .i64 (t : Int), .agg #[.int .i64 k, .int .i64 v]] w (Done W w b (doesM x (t : Int) k v)) := by
  obtain ⟨W1, hW1, hT, hN, hk, hs⟩ := note_box h k v
  obtain ⟨c0, _, _, _, _, _, _, _, _, _, _, _, _, _, _⟩ := hT.cells
  obtain ⟨d0, d1⟩ := hN.cells
  have hO1 : OwnW W W1 s c x.ws := hO.kept hk (fun g hg e => by omega)
  have hN1 := hO1.new2 hF.ws
  have hk' : Kept (fun k => k = b ∨ W ≤ k) w W1 := hk.mono (fun _ _ e => .inl e)
  have HH : Hid (x.kind = 1 ∨ x.kind = 4 → Calls Tryz.prog 83 #[.pointer (some ⟨b, 0, none⟩), .int .i64 (t : Int), .agg #[.int .i64 k, .int .i64 v]] W1 (Done W w b (heldM x (t : Int) k v))) := Lib.hid (fun hk2 =>
    (held_any hT hO1 hb (by omega) hF t ht k v (lock_needs hk2 hm).1 (lock_needs hk2 hm).2).mono (fun e w' hd => hd.of0 hk'))
  have HC : Hid (x.kind = 2 ∨ x.kind = 3 → Calls Tryz.prog 84 #[.pointer (some ⟨b, 0, none⟩), .agg #[.int .i64 k, .int .i64 v]] W1 (Done W w b (countM x k v))) := Lib.hid (fun hk2 =>
    (countM_any hT k v (count_needs hF hk2 hm).1 (count_needs hF hk2 hm).2).mono (fun e w' hd => (hd.done (by rw [countM_ws]; exact hN1) hb).of0 hk'))
  have HS : Hid (Calls Tryz.prog 85 #[.pointer (some ⟨b, 0, none⟩), .int .i64 (t : Int), .agg #[.int .i64 k, .int .i64 v]] W1 (Done W w b (swapM x (t : Int) k v))) := Lib.hid (
    (swapD_any hT (t : Int) k v).mono (fun e w' hd => (hd.done (by rw [swapM_ws]; exact hN1) hb).of0 hk'))
  have HM := Lib.hid hm
  clear h hO hT hN hk hs hO1 hN1 hk' hm
  cases a1 : (x.kind == 1) with
  | true =>
    have e : doesM x (t : Int) k v = heldM x (t : Int) k v := by unfold doesM; simp only [a1, if_true]
    have HA := Lib.hid (HH.out (.inl (beq_iff_eq.1 a1)))
    rw [e]
    clear e
    go_enter Tryz.func64, Tryz.ntmps64
    go_wp2_with fail
    refine HA.out.mono ?_
    rintro e w3 ⟨rfl, hd⟩
    have HD := Lib.hid hd; clear hd
    go_wp2_with fail
    go_end0
    exact ⟨rfl, HD.out⟩
  | false =>
    cases a4 : (x.kind == 4) with
    | true =>
      have e : doesM x (t : Int) k v = heldM x (t : Int) k v := by unfold doesM; simp only [a1, a4, if_true, Bool.false_eq_true, if_false]
      have HA := Lib.hid (HH.out (.inr (beq_iff_eq.1 a4)))
      rw [e]
      clear e
      go_enter Tryz.func64, Tryz.ntmps64
      go_wp2_with fail
      refine HA.out.mono ?_
      rintro e w3 ⟨rfl, hd⟩
      have HD := Lib.hid hd; clear hd
      go_wp2_with fail
      go_end0
      exact ⟨rfl, HD.out⟩
    | false =>
      cases a2 : (x.kind == 2) with
      | true =>
        have e : doesM x (t : Int) k v = countM x k v := by unfold doesM; simp only [a1, a4, a2, if_true, Bool.false_eq_true, if_false]
        have HA := Lib.hid (HC.out (.inl (beq_iff_eq.1 a2)))
        rw [e]
        clear e
        go_enter Tryz.func64, Tryz.ntmps64
        go_wp2_with fail
        refine HA.out.mono ?_
        rintro e w3 ⟨rfl, hd⟩
        have HD := Lib.hid hd; clear hd
        go_wp2_with fail
        go_end0
        exact ⟨rfl, HD.out⟩
      | false =>
        cases a3 : (x.kind == 3) with
        | true =>
          have e : doesM x (t : Int) k v = countM x k v := by unfold doesM; simp only [a1, a4, a2, a3, if_true, Bool.false_eq_true, if_false]
          have HA := Lib.hid (HC.out (.inr (beq_iff_eq.1 a3)))
          rw [e]
          clear e
          go_enter Tryz.func64, Tryz.ntmps64
          go_wp2_with fail
          refine HA.out.mono ?_
          rintro e w3 ⟨rfl, hd⟩
          have HD := Lib.hid hd; clear hd
          go_wp2_with fail
          go_end0
          exact ⟨rfl, HD.out⟩
        | false =>
          cases a5 : (x.kind == 5) with
          | true =>
            have e : doesM x (t : Int) k v = swapM x (t : Int) k v := by unfold doesM; simp only [a1, a4, a2, a3, a5, if_true, Bool.false_eq_true, if_false]
            rw [e]
            clear e
            go_enter Tryz.func64, Tryz.ntmps64
            go_wp2_with fail
            refine HS.out.mono ?_
            rintro e w3 ⟨rfl, hd⟩
            have HD := Lib.hid hd; clear hd
            go_wp2_with fail
            go_end0
            exact ⟨rfl, HD.out⟩
          | false =>
            exfalso
            have := HM.out
            unfold mayInM at this
            simp only [a1, a4, a2, a3, a5, Bool.false_eq_true, if_false] at this

end
end Go.Proofs.YtbodlaiakcoabaaGreatDoor
end
