/-
  What the document's May of layer 7 comes to: its end (F).
  Conditions: none; these are lemmas for the walk.
-/
import Derived.Test.YtofnomkedpagfaaRefMay
namespace Go.Proofs.Ytofnomkedpagfaa
open Go.RowKit

/-- The frame where it returns. -/
def frE (v : Bool) (u : Nat → Value) : Act := ⟨#[u 0, u 1, .bool v, u 3, u 4, u 5, u 6, u 7, u 8, u 9, u 10, u 11, u 12, u 13, u 14, u 15, u 16, u 17, u 18, u 19, u 20, u 21, u 22, u 23, u 24, u 25, u 26, u 27, u 28, u 29, u 30, u 31, u 32, u 33, u 34, u 35, u 36, u 37, u 38, u 39, u 40, u 41, u 42, u 43, u 44, u 45, u 46, u 47, u 48, u 49, u 50, u 51, u 52, u 53, u 54, u 55, u 56, u 57, u 58, u 59, u 60, u 61, u 62, u 63, u 64, u 65, u 66, u 67, u 68, u 69, u 70, u 71, u 72, u 73, u 74, u 75, u 76, u 77, u 78, u 79, u 80, u 81, u 82, u 83, u 84, u 85, u 86, u 87, u 88, u 89, u 90, u 91, u 92, u 93, u 94, u 95, u 96, u 97, u 98, u 99, u 100, u 101, u 102, u 103, u 104, u 105, u 106, u 107, u 108, u 109, u 110, u 111, u 112, u 113, u 114, u 115, u 116, u 117, u 118, u 119, u 120, u 121, u 122, u 123, u 124, u 125, u 126, u 127, u 128, u 129, u 130, u 131, u 132, u 133, u 134, u 135, u 136, u 137, u 138, u 139, u 140, u 141, u 142, u 143, u 144, u 145, u 146, u 147, u 148, u 149, u 150], []⟩
theorem frE_of {v : Bool} {a : Act} (h : a = frE v (lett a)) : ∃ u, a = frE v u := ⟨_, h⟩

section
variable {wr : World} {t : ByteArray} {u : Nat → Value} {Q : Exit → Act → World → Prop} {g : Nat} {i : Value} {op a b c n : Int}
set_option maxHeartbeats 64000000 in
set_option maxRecDepth 100000 in
theorem may_endF {A B C N T p1 p2 p3 p4 s z y : Bool} (hb : wr.heap[g]? = some (.cells #[.int .i64 op, .int .i64 a, .int .i64 b, .int .i64 c, .int .i64 n] 87 (0, 0)))
    (h1 : (a == 0) = p1) (h2 : (b == 0) = p2) (h3 : (c == 0) = p3) (h4 : (n == 0) = p4) (h5 : small n = s) (h6 : (op != 7) = z) (hy : decide (a ≤ 13) = y) (hA : A = false)
    (hret : Hid (∀ a' v, (∃ u, a' = frE v u) → v = ((A || p1) && (B || p2) && (C || p3) && (N || T || p4) && (T || s) && (z || y)) → Q .ret a' wr)) :
    Code.wp Try.prog mayEnd Q (frM g t A B C N T i u) wr := by
  obtain ⟨c0, c1, c2, c3, c4, _⟩ := cells5 hb
  have HSM := Lib.hid (fun w' => refSmall_any n w')
  rw [h5] at HSM
  clear hb h5
  subst hA
  cases p1
  · unfold frM
    conv => arg 2; whnf
    go_wp2_with fail
    exact hret.out _ _ (frE_of (by kernel_rfl)) rfl
  · cases B
    · cases p2
      · unfold frM
        conv => arg 2; whnf
        go_wp2_with fail
        exact hret.out _ _ (frE_of (by kernel_rfl)) rfl
      · cases C
        · cases p3
          · unfold frM
            conv => arg 2; whnf
            go_wp2_with fail
            exact hret.out _ _ (frE_of (by kernel_rfl)) rfl
          · cases T
            · cases N
              · cases p4
                · unfold frM
                  conv => arg 2; whnf
                  go_wp2_with fail
                  exact hret.out _ _ (frE_of (by kernel_rfl)) rfl
                · cases s
                  · unfold frM
                    conv => arg 2; whnf
                    go_wp2_with fail
                    refine (HSM.out _).mono ?_
                    rintro e wx ⟨rfl, rfl⟩
                    go_wp2_with fail
                    exact hret.out _ _ (frE_of (by kernel_rfl)) rfl
                  · cases z
                    · cases y
                      · have hy' : ¬ a ≤ 13 := of_decide_eq_false hy
                        unfold frM
                        conv => arg 2; whnf
                        go_wp2_with fail
                        refine (HSM.out _).mono ?_
                        rintro e wx ⟨rfl, rfl⟩
                        go_wp2_with fail
                        exact hret.out _ _ (frE_of (by kernel_rfl)) rfl
                      · have hy' : a ≤ 13 := of_decide_eq_true hy
                        unfold frM
                        conv => arg 2; whnf
                        go_wp2_with fail
                        refine (HSM.out _).mono ?_
                        rintro e wx ⟨rfl, rfl⟩
                        go_wp2_with fail
                        exact hret.out _ _ (frE_of (by kernel_rfl)) rfl
                    · unfold frM
                      conv => arg 2; whnf
                      go_wp2_with fail
                      refine (HSM.out _).mono ?_
                      rintro e wx ⟨rfl, rfl⟩
                      go_wp2_with fail
                      exact hret.out _ _ (frE_of (by kernel_rfl)) rfl
              · cases s
                · unfold frM
                  conv => arg 2; whnf
                  go_wp2_with fail
                  refine (HSM.out _).mono ?_
                  rintro e wx ⟨rfl, rfl⟩
                  go_wp2_with fail
                  exact hret.out _ _ (frE_of (by kernel_rfl)) rfl
                · cases z
                  · cases y
                    · have hy' : ¬ a ≤ 13 := of_decide_eq_false hy
                      unfold frM
                      conv => arg 2; whnf
                      go_wp2_with fail
                      refine (HSM.out _).mono ?_
                      rintro e wx ⟨rfl, rfl⟩
                      go_wp2_with fail
                      exact hret.out _ _ (frE_of (by kernel_rfl)) rfl
                    · have hy' : a ≤ 13 := of_decide_eq_true hy
                      unfold frM
                      conv => arg 2; whnf
                      go_wp2_with fail
                      refine (HSM.out _).mono ?_
                      rintro e wx ⟨rfl, rfl⟩
                      go_wp2_with fail
                      exact hret.out _ _ (frE_of (by kernel_rfl)) rfl
                  · unfold frM
                    conv => arg 2; whnf
                    go_wp2_with fail
                    refine (HSM.out _).mono ?_
                    rintro e wx ⟨rfl, rfl⟩
                    go_wp2_with fail
                    exact hret.out _ _ (frE_of (by kernel_rfl)) rfl
            · cases N
              · cases z
                · cases y
                  · have hy' : ¬ a ≤ 13 := of_decide_eq_false hy
                    unfold frM
                    conv => arg 2; whnf
                    go_wp2_with fail
                    exact hret.out _ _ (frE_of (by kernel_rfl)) rfl
                  · have hy' : a ≤ 13 := of_decide_eq_true hy
                    unfold frM
                    conv => arg 2; whnf
                    go_wp2_with fail
                    exact hret.out _ _ (frE_of (by kernel_rfl)) rfl
                · unfold frM
                  conv => arg 2; whnf
                  go_wp2_with fail
                  exact hret.out _ _ (frE_of (by kernel_rfl)) rfl
              · cases z
                · cases y
                  · have hy' : ¬ a ≤ 13 := of_decide_eq_false hy
                    unfold frM
                    conv => arg 2; whnf
                    go_wp2_with fail
                    exact hret.out _ _ (frE_of (by kernel_rfl)) rfl
                  · have hy' : a ≤ 13 := of_decide_eq_true hy
                    unfold frM
                    conv => arg 2; whnf
                    go_wp2_with fail
                    exact hret.out _ _ (frE_of (by kernel_rfl)) rfl
                · unfold frM
                  conv => arg 2; whnf
                  go_wp2_with fail
                  exact hret.out _ _ (frE_of (by kernel_rfl)) rfl
        · cases T
          · cases N
            · cases p4
              · unfold frM
                conv => arg 2; whnf
                go_wp2_with fail
                exact hret.out _ _ (frE_of (by kernel_rfl)) rfl
              · cases s
                · unfold frM
                  conv => arg 2; whnf
                  go_wp2_with fail
                  refine (HSM.out _).mono ?_
                  rintro e wx ⟨rfl, rfl⟩
                  go_wp2_with fail
                  exact hret.out _ _ (frE_of (by kernel_rfl)) rfl
                · cases z
                  · cases y
                    · have hy' : ¬ a ≤ 13 := of_decide_eq_false hy
                      unfold frM
                      conv => arg 2; whnf
                      go_wp2_with fail
                      refine (HSM.out _).mono ?_
                      rintro e wx ⟨rfl, rfl⟩
                      go_wp2_with fail
                      exact hret.out _ _ (frE_of (by kernel_rfl)) rfl
                    · have hy' : a ≤ 13 := of_decide_eq_true hy
                      unfold frM
                      conv => arg 2; whnf
                      go_wp2_with fail
                      refine (HSM.out _).mono ?_
                      rintro e wx ⟨rfl, rfl⟩
                      go_wp2_with fail
                      exact hret.out _ _ (frE_of (by kernel_rfl)) rfl
                  · unfold frM
                    conv => arg 2; whnf
                    go_wp2_with fail
                    refine (HSM.out _).mono ?_
                    rintro e wx ⟨rfl, rfl⟩
                    go_wp2_with fail
                    exact hret.out _ _ (frE_of (by kernel_rfl)) rfl
            · cases s
              · unfold frM
                conv => arg 2; whnf
                go_wp2_with fail
                refine (HSM.out _).mono ?_
                rintro e wx ⟨rfl, rfl⟩
                go_wp2_with fail
                exact hret.out _ _ (frE_of (by kernel_rfl)) rfl
              · cases z
                · cases y
                  · have hy' : ¬ a ≤ 13 := of_decide_eq_false hy
                    unfold frM
                    conv => arg 2; whnf
                    go_wp2_with fail
                    refine (HSM.out _).mono ?_
                    rintro e wx ⟨rfl, rfl⟩
                    go_wp2_with fail
                    exact hret.out _ _ (frE_of (by kernel_rfl)) rfl
                  · have hy' : a ≤ 13 := of_decide_eq_true hy
                    unfold frM
                    conv => arg 2; whnf
                    go_wp2_with fail
                    refine (HSM.out _).mono ?_
                    rintro e wx ⟨rfl, rfl⟩
                    go_wp2_with fail
                    exact hret.out _ _ (frE_of (by kernel_rfl)) rfl
                · unfold frM
                  conv => arg 2; whnf
                  go_wp2_with fail
                  refine (HSM.out _).mono ?_
                  rintro e wx ⟨rfl, rfl⟩
                  go_wp2_with fail
                  exact hret.out _ _ (frE_of (by kernel_rfl)) rfl
          · cases N
            · cases z
              · cases y
                · have hy' : ¬ a ≤ 13 := of_decide_eq_false hy
                  unfold frM
                  conv => arg 2; whnf
                  go_wp2_with fail
                  exact hret.out _ _ (frE_of (by kernel_rfl)) rfl
                · have hy' : a ≤ 13 := of_decide_eq_true hy
                  unfold frM
                  conv => arg 2; whnf
                  go_wp2_with fail
                  exact hret.out _ _ (frE_of (by kernel_rfl)) rfl
              · unfold frM
                conv => arg 2; whnf
                go_wp2_with fail
                exact hret.out _ _ (frE_of (by kernel_rfl)) rfl
            · cases z
              · cases y
                · have hy' : ¬ a ≤ 13 := of_decide_eq_false hy
                  unfold frM
                  conv => arg 2; whnf
                  go_wp2_with fail
                  exact hret.out _ _ (frE_of (by kernel_rfl)) rfl
                · have hy' : a ≤ 13 := of_decide_eq_true hy
                  unfold frM
                  conv => arg 2; whnf
                  go_wp2_with fail
                  exact hret.out _ _ (frE_of (by kernel_rfl)) rfl
              · unfold frM
                conv => arg 2; whnf
                go_wp2_with fail
                exact hret.out _ _ (frE_of (by kernel_rfl)) rfl
    · cases C
      · cases p3
        · unfold frM
          conv => arg 2; whnf
          go_wp2_with fail
          exact hret.out _ _ (frE_of (by kernel_rfl)) rfl
        · cases T
          · cases N
            · cases p4
              · unfold frM
                conv => arg 2; whnf
                go_wp2_with fail
                exact hret.out _ _ (frE_of (by kernel_rfl)) rfl
              · cases s
                · unfold frM
                  conv => arg 2; whnf
                  go_wp2_with fail
                  refine (HSM.out _).mono ?_
                  rintro e wx ⟨rfl, rfl⟩
                  go_wp2_with fail
                  exact hret.out _ _ (frE_of (by kernel_rfl)) rfl
                · cases z
                  · cases y
                    · have hy' : ¬ a ≤ 13 := of_decide_eq_false hy
                      unfold frM
                      conv => arg 2; whnf
                      go_wp2_with fail
                      refine (HSM.out _).mono ?_
                      rintro e wx ⟨rfl, rfl⟩
                      go_wp2_with fail
                      exact hret.out _ _ (frE_of (by kernel_rfl)) rfl
                    · have hy' : a ≤ 13 := of_decide_eq_true hy
                      unfold frM
                      conv => arg 2; whnf
                      go_wp2_with fail
                      refine (HSM.out _).mono ?_
                      rintro e wx ⟨rfl, rfl⟩
                      go_wp2_with fail
                      exact hret.out _ _ (frE_of (by kernel_rfl)) rfl
                  · unfold frM
                    conv => arg 2; whnf
                    go_wp2_with fail
                    refine (HSM.out _).mono ?_
                    rintro e wx ⟨rfl, rfl⟩
                    go_wp2_with fail
                    exact hret.out _ _ (frE_of (by kernel_rfl)) rfl
            · cases s
              · unfold frM
                conv => arg 2; whnf
                go_wp2_with fail
                refine (HSM.out _).mono ?_
                rintro e wx ⟨rfl, rfl⟩
                go_wp2_with fail
                exact hret.out _ _ (frE_of (by kernel_rfl)) rfl
              · cases z
                · cases y
                  · have hy' : ¬ a ≤ 13 := of_decide_eq_false hy
                    unfold frM
                    conv => arg 2; whnf
                    go_wp2_with fail
                    refine (HSM.out _).mono ?_
                    rintro e wx ⟨rfl, rfl⟩
                    go_wp2_with fail
                    exact hret.out _ _ (frE_of (by kernel_rfl)) rfl
                  · have hy' : a ≤ 13 := of_decide_eq_true hy
                    unfold frM
                    conv => arg 2; whnf
                    go_wp2_with fail
                    refine (HSM.out _).mono ?_
                    rintro e wx ⟨rfl, rfl⟩
                    go_wp2_with fail
                    exact hret.out _ _ (frE_of (by kernel_rfl)) rfl
                · unfold frM
                  conv => arg 2; whnf
                  go_wp2_with fail
                  refine (HSM.out _).mono ?_
                  rintro e wx ⟨rfl, rfl⟩
                  go_wp2_with fail
                  exact hret.out _ _ (frE_of (by kernel_rfl)) rfl
          · cases N
            · cases z
              · cases y
                · have hy' : ¬ a ≤ 13 := of_decide_eq_false hy
                  unfold frM
                  conv => arg 2; whnf
                  go_wp2_with fail
                  exact hret.out _ _ (frE_of (by kernel_rfl)) rfl
                · have hy' : a ≤ 13 := of_decide_eq_true hy
                  unfold frM
                  conv => arg 2; whnf
                  go_wp2_with fail
                  exact hret.out _ _ (frE_of (by kernel_rfl)) rfl
              · unfold frM
                conv => arg 2; whnf
                go_wp2_with fail
                exact hret.out _ _ (frE_of (by kernel_rfl)) rfl
            · cases z
              · cases y
                · have hy' : ¬ a ≤ 13 := of_decide_eq_false hy
                  unfold frM
                  conv => arg 2; whnf
                  go_wp2_with fail
                  exact hret.out _ _ (frE_of (by kernel_rfl)) rfl
                · have hy' : a ≤ 13 := of_decide_eq_true hy
                  unfold frM
                  conv => arg 2; whnf
                  go_wp2_with fail
                  exact hret.out _ _ (frE_of (by kernel_rfl)) rfl
              · unfold frM
                conv => arg 2; whnf
                go_wp2_with fail
                exact hret.out _ _ (frE_of (by kernel_rfl)) rfl
      · cases T
        · cases N
          · cases p4
            · unfold frM
              conv => arg 2; whnf
              go_wp2_with fail
              exact hret.out _ _ (frE_of (by kernel_rfl)) rfl
            · cases s
              · unfold frM
                conv => arg 2; whnf
                go_wp2_with fail
                refine (HSM.out _).mono ?_
                rintro e wx ⟨rfl, rfl⟩
                go_wp2_with fail
                exact hret.out _ _ (frE_of (by kernel_rfl)) rfl
              · cases z
                · cases y
                  · have hy' : ¬ a ≤ 13 := of_decide_eq_false hy
                    unfold frM
                    conv => arg 2; whnf
                    go_wp2_with fail
                    refine (HSM.out _).mono ?_
                    rintro e wx ⟨rfl, rfl⟩
                    go_wp2_with fail
                    exact hret.out _ _ (frE_of (by kernel_rfl)) rfl
                  · have hy' : a ≤ 13 := of_decide_eq_true hy
                    unfold frM
                    conv => arg 2; whnf
                    go_wp2_with fail
                    refine (HSM.out _).mono ?_
                    rintro e wx ⟨rfl, rfl⟩
                    go_wp2_with fail
                    exact hret.out _ _ (frE_of (by kernel_rfl)) rfl
                · unfold frM
                  conv => arg 2; whnf
                  go_wp2_with fail
                  refine (HSM.out _).mono ?_
                  rintro e wx ⟨rfl, rfl⟩
                  go_wp2_with fail
                  exact hret.out _ _ (frE_of (by kernel_rfl)) rfl
          · cases s
            · unfold frM
              conv => arg 2; whnf
              go_wp2_with fail
              refine (HSM.out _).mono ?_
              rintro e wx ⟨rfl, rfl⟩
              go_wp2_with fail
              exact hret.out _ _ (frE_of (by kernel_rfl)) rfl
            · cases z
              · cases y
                · have hy' : ¬ a ≤ 13 := of_decide_eq_false hy
                  unfold frM
                  conv => arg 2; whnf
                  go_wp2_with fail
                  refine (HSM.out _).mono ?_
                  rintro e wx ⟨rfl, rfl⟩
                  go_wp2_with fail
                  exact hret.out _ _ (frE_of (by kernel_rfl)) rfl
                · have hy' : a ≤ 13 := of_decide_eq_true hy
                  unfold frM
                  conv => arg 2; whnf
                  go_wp2_with fail
                  refine (HSM.out _).mono ?_
                  rintro e wx ⟨rfl, rfl⟩
                  go_wp2_with fail
                  exact hret.out _ _ (frE_of (by kernel_rfl)) rfl
              · unfold frM
                conv => arg 2; whnf
                go_wp2_with fail
                refine (HSM.out _).mono ?_
                rintro e wx ⟨rfl, rfl⟩
                go_wp2_with fail
                exact hret.out _ _ (frE_of (by kernel_rfl)) rfl
        · cases N
          · cases z
            · cases y
              · have hy' : ¬ a ≤ 13 := of_decide_eq_false hy
                unfold frM
                conv => arg 2; whnf
                go_wp2_with fail
                exact hret.out _ _ (frE_of (by kernel_rfl)) rfl
              · have hy' : a ≤ 13 := of_decide_eq_true hy
                unfold frM
                conv => arg 2; whnf
                go_wp2_with fail
                exact hret.out _ _ (frE_of (by kernel_rfl)) rfl
            · unfold frM
              conv => arg 2; whnf
              go_wp2_with fail
              exact hret.out _ _ (frE_of (by kernel_rfl)) rfl
          · cases z
            · cases y
              · have hy' : ¬ a ≤ 13 := of_decide_eq_false hy
                unfold frM
                conv => arg 2; whnf
                go_wp2_with fail
                exact hret.out _ _ (frE_of (by kernel_rfl)) rfl
              · have hy' : a ≤ 13 := of_decide_eq_true hy
                unfold frM
                conv => arg 2; whnf
                go_wp2_with fail
                exact hret.out _ _ (frE_of (by kernel_rfl)) rfl
            · unfold frM
              conv => arg 2; whnf
              go_wp2_with fail
              exact hret.out _ _ (frE_of (by kernel_rfl)) rfl
end

end Go.Proofs.Ytofnomkedpagfaa
