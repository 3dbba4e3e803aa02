/-
  What the document's May of layer 7 comes to: its end (T).
  Conditions: none; these are lemmas for the walk.
-/
import Derived.Test.YtofnomkedpagfaaRefMayF
namespace Go.Proofs.Ytofnomkedpagfaa
open Go.RowKit

section
variable {wr : World} {t : ByteArray} {u : Nat → Value} {Q : Exit → Act → World → Prop} {g : Nat} {i : Value} {op a b c n : Int}
set_option linter.unusedVariables false in
set_option maxHeartbeats 64000000 in
set_option maxRecDepth 100000 in
theorem may_endT {A B C N T p1 p2 p3 p4 s z y : Bool} (hb : wr.heap[g]? = some (.cells #[.int .i64 op, .int .i64 a, .int .i64 b, .int .i64 c, .int .i64 n] 87 (0, 0)))
    (h1 : (a == 0) = p1) (h2 : (b == 0) = p2) (h3 : (c == 0) = p3) (h4 : (n == 0) = p4) (h5 : small n = s) (h6 : (op != 7) = z) (hy : decide (a ≤ 13) = y) (hA : A = true)
    (hret : Hid (∀ a' v, (∃ u, a' = frE v u) → v = ((A || p1) && (B || p2) && (C || p3) && (N || T || p4) && (T || s) && (z || y)) → Q .ret a' wr)) :
    Code.wp Try.prog mayEnd Q (frM g t A B C N T i u) wr := by
  obtain ⟨c0, c1, c2, c3, c4, _⟩ := cells5 hb
  have HSM := Lib.hid (fun w' => refSmall_any n w')
  rw [h5] at HSM
  clear hb h5
  subst hA
  cases B
  · cases p2
    · unfold frM
      conv => arg 2; whnf
      go_wp2_with fail
      exact hret.out _ _ (frE_of (by kernel_rfl)) rfl
    · cases C
      · cases p3
        · unfold frM
          conv => arg 2; whnf
          go_wp2_with fail
          exact hret.out _ _ (frE_of (by kernel_rfl)) rfl
        · cases T
          · cases N
            · cases p4
              · unfold frM
                conv => arg 2; whnf
                go_wp2_with fail
                exact hret.out _ _ (frE_of (by kernel_rfl)) rfl
              · cases s
                · unfold frM
                  conv => arg 2; whnf
                  go_wp2_with fail
                  refine (HSM.out _).mono ?_
                  rintro e wx ⟨rfl, rfl⟩
                  go_wp2_with fail
                  exact hret.out _ _ (frE_of (by kernel_rfl)) rfl
                · cases z
                  · cases y
                    · have hy' : ¬ a ≤ 13 := of_decide_eq_false hy
                      unfold frM
                      conv => arg 2; whnf
                      go_wp2_with fail
                      refine (HSM.out _).mono ?_
                      rintro e wx ⟨rfl, rfl⟩
                      go_wp2_with fail
                      exact hret.out _ _ (frE_of (by kernel_rfl)) rfl
                    · have hy' : a ≤ 13 := of_decide_eq_true hy
                      unfold frM
                      conv => arg 2; whnf
                      go_wp2_with fail
                      refine (HSM.out _).mono ?_
                      rintro e wx ⟨rfl, rfl⟩
                      go_wp2_with fail
                      exact hret.out _ _ (frE_of (by kernel_rfl)) rfl
                  · unfold frM
                    conv => arg 2; whnf
                    go_wp2_with fail
                    refine (HSM.out _).mono ?_
                    rintro e wx ⟨rfl, rfl⟩
                    go_wp2_with fail
                    exact hret.out _ _ (frE_of (by kernel_rfl)) rfl
            · cases s
              · unfold frM
                conv => arg 2; whnf
                go_wp2_with fail
                refine (HSM.out _).mono ?_
                rintro e wx ⟨rfl, rfl⟩
                go_wp2_with fail
                exact hret.out _ _ (frE_of (by kernel_rfl)) rfl
              · cases z
                · cases y
                  · have hy' : ¬ a ≤ 13 := of_decide_eq_false hy
                    unfold frM
                    conv => arg 2; whnf
                    go_wp2_with fail
                    refine (HSM.out _).mono ?_
                    rintro e wx ⟨rfl, rfl⟩
                    go_wp2_with fail
                    exact hret.out _ _ (frE_of (by kernel_rfl)) rfl
                  · have hy' : a ≤ 13 := of_decide_eq_true hy
                    unfold frM
                    conv => arg 2; whnf
                    go_wp2_with fail
                    refine (HSM.out _).mono ?_
                    rintro e wx ⟨rfl, rfl⟩
                    go_wp2_with fail
                    exact hret.out _ _ (frE_of (by kernel_rfl)) rfl
                · unfold frM
                  conv => arg 2; whnf
                  go_wp2_with fail
                  refine (HSM.out _).mono ?_
                  rintro e wx ⟨rfl, rfl⟩
                  go_wp2_with fail
                  exact hret.out _ _ (frE_of (by kernel_rfl)) rfl
          · cases N
            · cases z
              · cases y
                · have hy' : ¬ a ≤ 13 := of_decide_eq_false hy
                  unfold frM
                  conv => arg 2; whnf
                  go_wp2_with fail
                  exact hret.out _ _ (frE_of (by kernel_rfl)) rfl
                · have hy' : a ≤ 13 := of_decide_eq_true hy
                  unfold frM
                  conv => arg 2; whnf
                  go_wp2_with fail
                  exact hret.out _ _ (frE_of (by kernel_rfl)) rfl
              · unfold frM
                conv => arg 2; whnf
                go_wp2_with fail
                exact hret.out _ _ (frE_of (by kernel_rfl)) rfl
            · cases z
              · cases y
                · have hy' : ¬ a ≤ 13 := of_decide_eq_false hy
                  unfold frM
                  conv => arg 2; whnf
                  go_wp2_with fail
                  exact hret.out _ _ (frE_of (by kernel_rfl)) rfl
                · have hy' : a ≤ 13 := of_decide_eq_true hy
                  unfold frM
                  conv => arg 2; whnf
                  go_wp2_with fail
                  exact hret.out _ _ (frE_of (by kernel_rfl)) rfl
              · unfold frM
                conv => arg 2; whnf
                go_wp2_with fail
                exact hret.out _ _ (frE_of (by kernel_rfl)) rfl
      · cases T
        · cases N
          · cases p4
            · unfold frM
              conv => arg 2; whnf
              go_wp2_with fail
              exact hret.out _ _ (frE_of (by kernel_rfl)) rfl
            · cases s
              · unfold frM
                conv => arg 2; whnf
                go_wp2_with fail
                refine (HSM.out _).mono ?_
                rintro e wx ⟨rfl, rfl⟩
                go_wp2_with fail
                exact hret.out _ _ (frE_of (by kernel_rfl)) rfl
              · cases z
                · cases y
                  · have hy' : ¬ a ≤ 13 := of_decide_eq_false hy
                    unfold frM
                    conv => arg 2; whnf
                    go_wp2_with fail
                    refine (HSM.out _).mono ?_
                    rintro e wx ⟨rfl, rfl⟩
                    go_wp2_with fail
                    exact hret.out _ _ (frE_of (by kernel_rfl)) rfl
                  · have hy' : a ≤ 13 := of_decide_eq_true hy
                    unfold frM
                    conv => arg 2; whnf
                    go_wp2_with fail
                    refine (HSM.out _).mono ?_
                    rintro e wx ⟨rfl, rfl⟩
                    go_wp2_with fail
                    exact hret.out _ _ (frE_of (by kernel_rfl)) rfl
                · unfold frM
                  conv => arg 2; whnf
                  go_wp2_with fail
                  refine (HSM.out _).mono ?_
                  rintro e wx ⟨rfl, rfl⟩
                  go_wp2_with fail
                  exact hret.out _ _ (frE_of (by kernel_rfl)) rfl
          · cases s
            · unfold frM
              conv => arg 2; whnf
              go_wp2_with fail
              refine (HSM.out _).mono ?_
              rintro e wx ⟨rfl, rfl⟩
              go_wp2_with fail
              exact hret.out _ _ (frE_of (by kernel_rfl)) rfl
            · cases z
              · cases y
                · have hy' : ¬ a ≤ 13 := of_decide_eq_false hy
                  unfold frM
                  conv => arg 2; whnf
                  go_wp2_with fail
                  refine (HSM.out _).mono ?_
                  rintro e wx ⟨rfl, rfl⟩
                  go_wp2_with fail
                  exact hret.out _ _ (frE_of (by kernel_rfl)) rfl
                · have hy' : a ≤ 13 := of_decide_eq_true hy
                  unfold frM
                  conv => arg 2; whnf
                  go_wp2_with fail
                  refine (HSM.out _).mono ?_
                  rintro e wx ⟨rfl, rfl⟩
                  go_wp2_with fail
                  exact hret.out _ _ (frE_of (by kernel_rfl)) rfl
              · unfold frM
                conv => arg 2; whnf
                go_wp2_with fail
                refine (HSM.out _).mono ?_
                rintro e wx ⟨rfl, rfl⟩
                go_wp2_with fail
                exact hret.out _ _ (frE_of (by kernel_rfl)) rfl
        · cases N
          · cases z
            · cases y
              · have hy' : ¬ a ≤ 13 := of_decide_eq_false hy
                unfold frM
                conv => arg 2; whnf
                go_wp2_with fail
                exact hret.out _ _ (frE_of (by kernel_rfl)) rfl
              · have hy' : a ≤ 13 := of_decide_eq_true hy
                unfold frM
                conv => arg 2; whnf
                go_wp2_with fail
                exact hret.out _ _ (frE_of (by kernel_rfl)) rfl
            · unfold frM
              conv => arg 2; whnf
              go_wp2_with fail
              exact hret.out _ _ (frE_of (by kernel_rfl)) rfl
          · cases z
            · cases y
              · have hy' : ¬ a ≤ 13 := of_decide_eq_false hy
                unfold frM
                conv => arg 2; whnf
                go_wp2_with fail
                exact hret.out _ _ (frE_of (by kernel_rfl)) rfl
              · have hy' : a ≤ 13 := of_decide_eq_true hy
                unfold frM
                conv => arg 2; whnf
                go_wp2_with fail
                exact hret.out _ _ (frE_of (by kernel_rfl)) rfl
            · unfold frM
              conv => arg 2; whnf
              go_wp2_with fail
              exact hret.out _ _ (frE_of (by kernel_rfl)) rfl
  · cases C
    · cases p3
      · unfold frM
        conv => arg 2; whnf
        go_wp2_with fail
        exact hret.out _ _ (frE_of (by kernel_rfl)) rfl
      · cases T
        · cases N
          · cases p4
            · unfold frM
              conv => arg 2; whnf
              go_wp2_with fail
              exact hret.out _ _ (frE_of (by kernel_rfl)) rfl
            · cases s
              · unfold frM
                conv => arg 2; whnf
                go_wp2_with fail
                refine (HSM.out _).mono ?_
                rintro e wx ⟨rfl, rfl⟩
                go_wp2_with fail
                exact hret.out _ _ (frE_of (by kernel_rfl)) rfl
              · cases z
                · cases y
                  · have hy' : ¬ a ≤ 13 := of_decide_eq_false hy
                    unfold frM
                    conv => arg 2; whnf
                    go_wp2_with fail
                    refine (HSM.out _).mono ?_
                    rintro e wx ⟨rfl, rfl⟩
                    go_wp2_with fail
                    exact hret.out _ _ (frE_of (by kernel_rfl)) rfl
                  · have hy' : a ≤ 13 := of_decide_eq_true hy
                    unfold frM
                    conv => arg 2; whnf
                    go_wp2_with fail
                    refine (HSM.out _).mono ?_
                    rintro e wx ⟨rfl, rfl⟩
                    go_wp2_with fail
                    exact hret.out _ _ (frE_of (by kernel_rfl)) rfl
                · unfold frM
                  conv => arg 2; whnf
                  go_wp2_with fail
                  refine (HSM.out _).mono ?_
                  rintro e wx ⟨rfl, rfl⟩
                  go_wp2_with fail
                  exact hret.out _ _ (frE_of (by kernel_rfl)) rfl
          · cases s
            · unfold frM
              conv => arg 2; whnf
              go_wp2_with fail
              refine (HSM.out _).mono ?_
              rintro e wx ⟨rfl, rfl⟩
              go_wp2_with fail
              exact hret.out _ _ (frE_of (by kernel_rfl)) rfl
            · cases z
              · cases y
                · have hy' : ¬ a ≤ 13 := of_decide_eq_false hy
                  unfold frM
                  conv => arg 2; whnf
                  go_wp2_with fail
                  refine (HSM.out _).mono ?_
                  rintro e wx ⟨rfl, rfl⟩
                  go_wp2_with fail
                  exact hret.out _ _ (frE_of (by kernel_rfl)) rfl
                · have hy' : a ≤ 13 := of_decide_eq_true hy
                  unfold frM
                  conv => arg 2; whnf
                  go_wp2_with fail
                  refine (HSM.out _).mono ?_
                  rintro e wx ⟨rfl, rfl⟩
                  go_wp2_with fail
                  exact hret.out _ _ (frE_of (by kernel_rfl)) rfl
              · unfold frM
                conv => arg 2; whnf
                go_wp2_with fail
                refine (HSM.out _).mono ?_
                rintro e wx ⟨rfl, rfl⟩
                go_wp2_with fail
                exact hret.out _ _ (frE_of (by kernel_rfl)) rfl
        · cases N
          · cases z
            · cases y
              · have hy' : ¬ a ≤ 13 := of_decide_eq_false hy
                unfold frM
                conv => arg 2; whnf
                go_wp2_with fail
                exact hret.out _ _ (frE_of (by kernel_rfl)) rfl
              · have hy' : a ≤ 13 := of_decide_eq_true hy
                unfold frM
                conv => arg 2; whnf
                go_wp2_with fail
                exact hret.out _ _ (frE_of (by kernel_rfl)) rfl
            · unfold frM
              conv => arg 2; whnf
              go_wp2_with fail
              exact hret.out _ _ (frE_of (by kernel_rfl)) rfl
          · cases z
            · cases y
              · have hy' : ¬ a ≤ 13 := of_decide_eq_false hy
                unfold frM
                conv => arg 2; whnf
                go_wp2_with fail
                exact hret.out _ _ (frE_of (by kernel_rfl)) rfl
              · have hy' : a ≤ 13 := of_decide_eq_true hy
                unfold frM
                conv => arg 2; whnf
                go_wp2_with fail
                exact hret.out _ _ (frE_of (by kernel_rfl)) rfl
            · unfold frM
              conv => arg 2; whnf
              go_wp2_with fail
              exact hret.out _ _ (frE_of (by kernel_rfl)) rfl
    · cases T
      · cases N
        · cases p4
          · unfold frM
            conv => arg 2; whnf
            go_wp2_with fail
            exact hret.out _ _ (frE_of (by kernel_rfl)) rfl
          · cases s
            · unfold frM
              conv => arg 2; whnf
              go_wp2_with fail
              refine (HSM.out _).mono ?_
              rintro e wx ⟨rfl, rfl⟩
              go_wp2_with fail
              exact hret.out _ _ (frE_of (by kernel_rfl)) rfl
            · cases z
              · cases y
                · have hy' : ¬ a ≤ 13 := of_decide_eq_false hy
                  unfold frM
                  conv => arg 2; whnf
                  go_wp2_with fail
                  refine (HSM.out _).mono ?_
                  rintro e wx ⟨rfl, rfl⟩
                  go_wp2_with fail
                  exact hret.out _ _ (frE_of (by kernel_rfl)) rfl
                · have hy' : a ≤ 13 := of_decide_eq_true hy
                  unfold frM
                  conv => arg 2; whnf
                  go_wp2_with fail
                  refine (HSM.out _).mono ?_
                  rintro e wx ⟨rfl, rfl⟩
                  go_wp2_with fail
                  exact hret.out _ _ (frE_of (by kernel_rfl)) rfl
              · unfold frM
                conv => arg 2; whnf
                go_wp2_with fail
                refine (HSM.out _).mono ?_
                rintro e wx ⟨rfl, rfl⟩
                go_wp2_with fail
                exact hret.out _ _ (frE_of (by kernel_rfl)) rfl
        · cases s
          · unfold frM
            conv => arg 2; whnf
            go_wp2_with fail
            refine (HSM.out _).mono ?_
            rintro e wx ⟨rfl, rfl⟩
            go_wp2_with fail
            exact hret.out _ _ (frE_of (by kernel_rfl)) rfl
          · cases z
            · cases y
              · have hy' : ¬ a ≤ 13 := of_decide_eq_false hy
                unfold frM
                conv => arg 2; whnf
                go_wp2_with fail
                refine (HSM.out _).mono ?_
                rintro e wx ⟨rfl, rfl⟩
                go_wp2_with fail
                exact hret.out _ _ (frE_of (by kernel_rfl)) rfl
              · have hy' : a ≤ 13 := of_decide_eq_true hy
                unfold frM
                conv => arg 2; whnf
                go_wp2_with fail
                refine (HSM.out _).mono ?_
                rintro e wx ⟨rfl, rfl⟩
                go_wp2_with fail
                exact hret.out _ _ (frE_of (by kernel_rfl)) rfl
            · unfold frM
              conv => arg 2; whnf
              go_wp2_with fail
              refine (HSM.out _).mono ?_
              rintro e wx ⟨rfl, rfl⟩
              go_wp2_with fail
              exact hret.out _ _ (frE_of (by kernel_rfl)) rfl
      · cases N
        · cases z
          · cases y
            · have hy' : ¬ a ≤ 13 := of_decide_eq_false hy
              unfold frM
              conv => arg 2; whnf
              go_wp2_with fail
              exact hret.out _ _ (frE_of (by kernel_rfl)) rfl
            · have hy' : a ≤ 13 := of_decide_eq_true hy
              unfold frM
              conv => arg 2; whnf
              go_wp2_with fail
              exact hret.out _ _ (frE_of (by kernel_rfl)) rfl
          · unfold frM
            conv => arg 2; whnf
            go_wp2_with fail
            exact hret.out _ _ (frE_of (by kernel_rfl)) rfl
        · cases z
          · cases y
            · have hy' : ¬ a ≤ 13 := of_decide_eq_false hy
              unfold frM
              conv => arg 2; whnf
              go_wp2_with fail
              exact hret.out _ _ (frE_of (by kernel_rfl)) rfl
            · have hy' : a ≤ 13 := of_decide_eq_true hy
              unfold frM
              conv => arg 2; whnf
              go_wp2_with fail
              exact hret.out _ _ (frE_of (by kernel_rfl)) rfl
          · unfold frM
            conv => arg 2; whnf
            go_wp2_with fail
            exact hret.out _ _ (frE_of (by kernel_rfl)) rfl
end

end Go.Proofs.Ytofnomkedpagfaa
