/-
  Two things compared: the statements' own test.
  Conditions: both things' waiters lie in memory.
  Two rows of things compared: tholelaw11.same, where they are the same.
  Conditions: both rows, and their things' waiters, lie in memory.
-/
import Derived.Test.YtbodlaiakcoabaaGreatDoorModOwn
import Derived.LoopTactic
import Derived.Deep.QuietTactic
import Derived.BigQuiet
import Derived.Outline
import Derived.ChangeKeysEq
import Derived.Test.YtbodlaiakcoabaaGreatDoorRepMark
import Derived.StillTailTactics
section
namespace Go.Proofs.YtbodlaiakcoabaaGreatDoor
open Go.RowKit
set_option linter.unusedSimpArgs false
set_option linter.unusedVariables false

@[reducible] def regs8 (r : Nat → Int) : Value := .agg #[.int .i64 (r 0), .int .i64 (r 1), .int .i64 (r 2), .int .i64 (r 3), .int .i64 (r 4), .int .i64 (r 5), .int .i64 (r 6), .int .i64 (r 7)]
theorem eq_regs8 (a b : Nat → Int) (w : World) : (Op.equalIn 10000 39 (regs8 a) (regs8 b)).run Tryz.prog w = .ok (sameR a b) w := by
  have u2 := Tryz.underlying3
  have a2 := Tryz.isAgg3
  have z2 := Tryz.sizeOf3
  obtain ⟨i, hi⟩ : ∃ i, Tryz.prog.info? 3 = some i := info_of_underlying u2
  have hc : Tryz.prog.cellsOf 3 = 1 := by kernel_rfl
  unfold regs8 sameR
  rw [show (10000 : Nat) = 9999 + 1 from rfl, run_equalIn_array w 9999 _ _ Tryz.underlying39 hi, hc, show List.range 8 = [0, 1, 2, 3, 4, 5, 6, 7] from rfl]
  simp only [Op.eqItems]
  go_simp
  by_cases h0 : a 0 = b 0 <;> by_cases h1 : a 1 = b 1 <;> by_cases h2 : a 2 = b 2 <;> by_cases h3 : a 3 = b 3 <;> by_cases h4 : a 4 = b 4 <;> by_cases h5 : a 5 = b 5 <;> by_cases h6 : a 6 = b 6 <;> by_cases h7 : a 7 = b 7 <;> simp [h0, h1, h2, h3, h4, h5, h6, h7]
theorem neq_regs8 (a b : Nat → Int) (w : World) : (binOp .neq 39 (regs8 a) (regs8 b)).run Tryz.prog w = .ok (.bool (!sameR a b)) w := by
  have h := eq_regs8 a b w
  unfold regs8 at h ⊢
  rw [run_neq_struct, h]
  rfl
theorem eq_wt (p q : Wt) (w : World) : (Op.equalIn 10000 78 p.agg q.agg).run Tryz.prog w = .ok (decide (p = q)) w := by
  have u2 := Tryz.underlying3
  have a2 := Tryz.isAgg3
  have z2 := Tryz.sizeOf3
  have hS : Tryz.prog.underlying 78 = some (.struct (Tryz.prog.fieldsOf 78)) := by kernel_rfl
  have hp : Tryz.prog.stoodInHeld 78 = false := by kernel_rfl
  obtain ⟨p0, p1⟩ := p
  obtain ⟨q0, q1⟩ := q
  unfold Wt.agg
  rw [show (10000 : Nat) = 9999 + 1 from rfl, run_equalIn_agg w 9999 78 _ _ hS hp]
  simp only [Program.fieldsOf, Tryz.underlying78]
  go_simp
  by_cases h0 : p0 = q0 <;> by_cases h1 : p1 = q1 <;> simp [h0, h1]
theorem neq_wt (p q : Wt) (w : World) : (binOp .neq 78 p.agg q.agg).run Tryz.prog w = .ok (.bool (!decide (p = q))) w := by
  have h := eq_wt p q w
  unfold Wt.agg at h ⊢
  rw [run_neq_struct, h]
  rfl
theorem bne_of {a b : Int} {v : Bool} (h : (a == b) = v) : (a != b) = !v := by rw [← h]; rfl
theorem len_of {m n : Nat} {v : Bool} (h : (m == n) = v) : ((m : Int) == (n : Int)) = v := by
  rw [← h]
  by_cases e : m = n
  · subst e; simp
  · rw [beq_eq_false_iff_ne.2 e, beq_eq_false_iff_ne.2 (by omega)]

set_option maxHeartbeats 4000000 in
set_option maxRecDepth 100000 in
theorem same_any (a b : Th) (sa sb : Option Addr) (ca cb : Nat) (w : World) (ha : InW w a sa) (hb : InW w b sb) (hl : a.ws.length ≤ 10000) (r : Bool) (hr : sameM a b = r) :
    Calls Tryz.prog 18 #[a.agg sa ca, b.agg sb cb] w fun e w' => e = .returned (.bool r) ∧ Kept (fun _ => False) w w' := by
  have hk : Kept (fun _ => False) w ((w.alloc (.cells (a.box sa ca) 42)).alloc (.cells (b.box sb cb) 42)) := ((Kept.refl _ w).alloc _).alloc _
  have HK0 := Lib.hid hk
  have HN8 := neq_regs8 a.r b.r
  have HNW := Lib.hid neq_wt
  unfold regs8 at HN8
  unfold sameM at hr
  cases h1 : (a.kind == b.kind) with
  | false =>
    obtain rfl : r = false := by rw [← hr]; simp only [h1, Bool.and_true, Bool.true_and, Bool.false_and, Bool.and_false, Bool.or_true, Bool.true_or, Bool.false_or, Bool.or_false, Bool.not_true, Bool.not_false]
    have gh1 := bne_of h1
    simp only [Bool.not_true, Bool.not_false] at gh1
    clear hr ha hb hk
    go_enter Tryz.func18, Tryz.ntmps18
    go_wp2_with fail
    go_ret
    exact ⟨rfl, HK0.out⟩
  | true =>
    cases h2 : (a.n == b.n) with
    | false =>
      obtain rfl : r = false := by rw [← hr]; simp only [h1, h2, Bool.and_true, Bool.true_and, Bool.false_and, Bool.and_false, Bool.or_true, Bool.true_or, Bool.false_or, Bool.or_false, Bool.not_true, Bool.not_false]
      have gh1 := bne_of h1
      simp only [Bool.not_true, Bool.not_false] at gh1
      have gh2 := bne_of h2
      simp only [Bool.not_true, Bool.not_false] at gh2
      clear hr ha hb hk
      go_enter Tryz.func18, Tryz.ntmps18
      go_wp2_with fail
      go_ret
      exact ⟨rfl, HK0.out⟩
    | true =>
      cases h3 : (a.owner == b.owner) with
      | false =>
        obtain rfl : r = false := by rw [← hr]; simp only [h1, h2, h3, Bool.and_true, Bool.true_and, Bool.false_and, Bool.and_false, Bool.or_true, Bool.true_or, Bool.false_or, Bool.or_false, Bool.not_true, Bool.not_false]
        have gh1 := bne_of h1
        simp only [Bool.not_true, Bool.not_false] at gh1
        have gh2 := bne_of h2
        simp only [Bool.not_true, Bool.not_false] at gh2
        have gh3 := bne_of h3
        simp only [Bool.not_true, Bool.not_false] at gh3
        clear hr ha hb hk
        go_enter Tryz.func18, Tryz.ntmps18
        go_wp2_with fail
        go_ret
        exact ⟨rfl, HK0.out⟩
      | true =>
        cases h4 : (a.holds == b.holds) with
        | false =>
          obtain rfl : r = false := by rw [← hr]; simp only [h1, h2, h3, h4, Bool.and_true, Bool.true_and, Bool.false_and, Bool.and_false, Bool.or_true, Bool.true_or, Bool.false_or, Bool.or_false, Bool.not_true, Bool.not_false]
          have gh1 := bne_of h1
          simp only [Bool.not_true, Bool.not_false] at gh1
          have gh2 := bne_of h2
          simp only [Bool.not_true, Bool.not_false] at gh2
          have gh3 := bne_of h3
          simp only [Bool.not_true, Bool.not_false] at gh3
          have gh4 := bne_of h4
          simp only [Bool.not_true, Bool.not_false] at gh4
          clear hr ha hb hk
          go_enter Tryz.func18, Tryz.ntmps18
          go_wp2_with fail
          go_ret
          exact ⟨rfl, HK0.out⟩
        | true =>
          cases h5 : (sameR a.r b.r) with
          | false =>
            obtain rfl : r = false := by rw [← hr]; simp only [h1, h2, h3, h4, h5, Bool.and_true, Bool.true_and, Bool.false_and, Bool.and_false, Bool.or_true, Bool.true_or, Bool.false_or, Bool.or_false, Bool.not_true, Bool.not_false]
            have gh1 := bne_of h1
            simp only [Bool.not_true, Bool.not_false] at gh1
            have gh2 := bne_of h2
            simp only [Bool.not_true, Bool.not_false] at gh2
            have gh3 := bne_of h3
            simp only [Bool.not_true, Bool.not_false] at gh3
            have gh4 := bne_of h4
            simp only [Bool.not_true, Bool.not_false] at gh4
            clear hr ha hb hk
            go_enter Tryz.func18, Tryz.ntmps18
            go_wp2_with fail
            go_ret
            exact ⟨rfl, HK0.out⟩
          | true =>
            cases h6 : (a.offer == b.offer) with
            | false =>
              obtain rfl : r = false := by rw [← hr]; simp only [h1, h2, h3, h4, h5, h6, Bool.and_true, Bool.true_and, Bool.false_and, Bool.and_false, Bool.or_true, Bool.true_or, Bool.false_or, Bool.or_false, Bool.not_true, Bool.not_false]
              have gh1 := bne_of h1
              simp only [Bool.not_true, Bool.not_false] at gh1
              have gh2 := bne_of h2
              simp only [Bool.not_true, Bool.not_false] at gh2
              have gh3 := bne_of h3
              simp only [Bool.not_true, Bool.not_false] at gh3
              have gh4 := bne_of h4
              simp only [Bool.not_true, Bool.not_false] at gh4
              have gh6 := bne_of h6
              simp only [Bool.not_true, Bool.not_false] at gh6
              clear hr ha hb hk
              go_enter Tryz.func18, Tryz.ntmps18
              go_wp2_with fail
              go_ret
              exact ⟨rfl, HK0.out⟩
            | true =>
              cases h7 : (a.item == b.item) with
              | false =>
                obtain rfl : r = false := by rw [← hr]; simp only [h1, h2, h3, h4, h5, h6, h7, Bool.and_true, Bool.true_and, Bool.false_and, Bool.and_false, Bool.or_true, Bool.true_or, Bool.false_or, Bool.or_false, Bool.not_true, Bool.not_false]
                have gh1 := bne_of h1
                simp only [Bool.not_true, Bool.not_false] at gh1
                have gh2 := bne_of h2
                simp only [Bool.not_true, Bool.not_false] at gh2
                have gh3 := bne_of h3
                simp only [Bool.not_true, Bool.not_false] at gh3
                have gh4 := bne_of h4
                simp only [Bool.not_true, Bool.not_false] at gh4
                have gh6 := bne_of h6
                simp only [Bool.not_true, Bool.not_false] at gh6
                have gh7 := bne_of h7
                simp only [Bool.not_true, Bool.not_false] at gh7
                clear hr ha hb hk
                go_enter Tryz.func18, Tryz.ntmps18
                go_wp2_with fail
                go_ret
                exact ⟨rfl, HK0.out⟩
              | true =>
                cases h8 : (a.ws.length == b.ws.length) with
                | false =>
                  obtain rfl : r = false := by rw [← hr]; simp only [h1, h2, h3, h4, h5, h6, h7, h8, Bool.and_true, Bool.true_and, Bool.false_and, Bool.and_false, Bool.or_true, Bool.true_or, Bool.false_or, Bool.or_false, Bool.not_true, Bool.not_false]
                  have gh1 := bne_of h1
                  simp only [Bool.not_true, Bool.not_false] at gh1
                  have gh2 := bne_of h2
                  simp only [Bool.not_true, Bool.not_false] at gh2
                  have gh3 := bne_of h3
                  simp only [Bool.not_true, Bool.not_false] at gh3
                  have gh4 := bne_of h4
                  simp only [Bool.not_true, Bool.not_false] at gh4
                  have gh6 := bne_of h6
                  simp only [Bool.not_true, Bool.not_false] at gh6
                  have gh7 := bne_of h7
                  simp only [Bool.not_true, Bool.not_false] at gh7
                  have gh8 := bne_of (len_of h8)
                  simp only [Bool.not_true, Bool.not_false] at gh8
                  clear hr ha hb hk
                  go_enter Tryz.func18, Tryz.ntmps18
                  go_wp2_with fail
                  go_ret
                  exact ⟨rfl, HK0.out⟩
                | true =>
                  replace hr : decide (a.ws = b.ws) = r := by rw [← hr]; simp only [h1, h2, h3, h4, h5, h6, h7, h8, Bool.and_true, Bool.true_and, Bool.false_and, Bool.and_false, Bool.or_true, Bool.true_or, Bool.false_or, Bool.or_false, Bool.not_true, Bool.not_false]
                  have gh1 := bne_of h1
                  simp only [Bool.not_true, Bool.not_false] at gh1
                  have gh2 := bne_of h2
                  simp only [Bool.not_true, Bool.not_false] at gh2
                  have gh3 := bne_of h3
                  simp only [Bool.not_true, Bool.not_false] at gh3
                  have gh4 := bne_of h4
                  simp only [Bool.not_true, Bool.not_false] at gh4
                  have gh6 := bne_of h6
                  simp only [Bool.not_true, Bool.not_false] at gh6
                  have gh7 := bne_of h7
                  simp only [Bool.not_true, Bool.not_false] at gh7
                  have gh8 := bne_of (len_of h8)
                  simp only [Bool.not_true, Bool.not_false] at gh8
                  have hlen : b.ws.length = a.ws.length := (beq_iff_eq.1 h8).symm
                  have HLEN := Lib.hid hlen
                  obtain ⟨n, hn⟩ : ∃ n, a.ws.length = n := ⟨_, rfl⟩
                  have HA0 : Hid (InW ((w.alloc (.cells (a.box sa ca) 42)).alloc (.cells (b.box sb cb) 42)) a sa) := Lib.hid (ha.kept0 hk)
                  have HB0 : Hid (InW ((w.alloc (.cells (a.box sa ca) 42)).alloc (.cells (b.box sb cb) 42)) b sb) := Lib.hid (hb.kept0 hk)
                  obtain ⟨W2, hW2⟩ : ∃ W2, ((w.alloc (.cells (a.box sa ca) 42)).alloc (.cells (b.box sb cb) 42)) = W2 := ⟨_, rfl⟩
                  have hTA : BoxT W2 w.heap.size a sa ca := by rw [← hW2]; exact (BoxT.new w a sa ca).kept0 ((Kept.refl _ _).alloc _)
                  have hTB : BoxT W2 (w.heap.size + 1) b sb cb := by
                    have := BoxT.new (w.alloc (.cells (a.box sa ca) 42)) b sb cb
                    rw [show (w.alloc (.cells (a.box sa ca) 42)).heap.size = w.heap.size + 1 from by simp] at this
                    rw [← hW2]; exact this
                  rw [hW2] at HA0 HB0 HK0
                  have HP : Hid (∀ w' i p, Kept (fun _ => False) W2 w' → a.ws[i]? = some p → ∃ g off, sa = some ⟨g, off, none⟩ ∧ w'.cell? ⟨g, off + i * 2, none⟩ = some (.int .i64 p.thread) ∧ w'.cell? ⟨g, off + i * 2 + 1, none⟩ = some (.int .i64 p.holds)) := Lib.hid (fun w' i p hk hi => by
                    obtain ⟨g, off, e, _, h⟩ := (HA0.out.kept0 hk).2 i p hi
                    exact ⟨g, off, e, h 0 _ rfl, h 1 _ rfl⟩)
                  have HQ : Hid (∀ w' i p, Kept (fun _ => False) W2 w' → b.ws[i]? = some p → ∃ g off, sb = some ⟨g, off, none⟩ ∧ w'.cell? ⟨g, off + i * 2, none⟩ = some (.int .i64 p.thread) ∧ w'.cell? ⟨g, off + i * 2 + 1, none⟩ = some (.int .i64 p.holds)) := Lib.hid (fun w' i p hk hi => by
                    obtain ⟨g, off, e, _, h⟩ := (HB0.out.kept0 hk).2 i p hi
                    exact ⟨g, off, e, h 0 _ rfl, h 1 _ rfl⟩)
                  have HTA := Lib.hid hTA
                  have HTB := Lib.hid hTB
                  have HRR := Lib.hid hr
                  obtain ⟨_, _, _, _, _, _, _, _, _, _, _, _, p12, _, _⟩ := hTA.cells
                  obtain ⟨_, _, _, _, _, _, _, _, _, _, _, _, q12, _, _⟩ := hTB.cells
                  have HNN := Lib.hid hn
                  clear hTA hTB hr ha hb hk hn hlen
                  go_enter Tryz.func18, Tryz.ntmps18
                  go_wp2_with fail
                  go_loopw [5] (fun i wr => ∃ k : Nat, i = .int .i64 k ∧ k ≤ a.ws.length ∧ Kept (fun _ => False) W2 wr ∧ ∀ j, j < k → a.ws[j]? = b.ws[j]?) (fun i _ => a.ws.length - (intOf i).toNat)
                  case atStart => exact ⟨0, rfl, Nat.zero_le _, Kept.refl _ _, fun j hj => absurd hj (Nat.not_lt_zero _)⟩
                  case round =>
                    obtain ⟨k, rfl, hk1, hk, heq⟩ := hrel
                    have HK := Lib.hid hk
                    have HEQ := Lib.hid heq
                    have t12 := (HTA.out.kept0 hk).cells.c12
                    have u12 := (HTB.out.kept0 hk).cells.c12
                    clear hk heq
                    by_cases hkk : k < a.ws.length
                    · obtain ⟨p, hp⟩ : ∃ p, a.ws[k]? = some p := ⟨_, List.getElem?_eq_getElem hkk⟩
                      obtain ⟨q, hq⟩ : ∃ q, b.ws[k]? = some q := ⟨_, List.getElem?_eq_getElem (by rw [HLEN.out]; exact hkk)⟩
                      obtain ⟨g, off, rfl, y0, y1⟩ := HP.out wr k p HK.out hp
                      obtain ⟨g', off', rfl, z0, z1⟩ := HQ.out wr k q HK.out hq
                      have HPK := Lib.hid hp
                      have HQK := Lib.hid hq
                      have hne := HNW.out p q
                      have k0 : (0 : Int) ≤ (k : Int) := by omega
                      have k1 : (k : Int) < (a.ws.length : Int) := by omega
                      have k2 : (k : Int) < (b.ws.length : Int) := by rw [HLEN.out]; omega
                      have k3 : (k : Int) + 1 ≤ 10001 := by omega
                      clear hp hq hkk
                      by_cases he : p = q
                      · rw [decide_eq_true he] at hne
                        go_wp2_with fail
                        go_quiet (fail)
                        go_wp2_with fail
                        go_roundw
                        case rel => exact ⟨k + 1, by go_num, by omega, HK.out.drewN _, fun j hj => by
                          by_cases e : j = k
                          · subst e; rw [HPK.out, HQK.out, he]
                          · exact HEQ.out j (by omega)⟩
                        case measure => simp [intOf]; omega
                      · rw [decide_eq_false he] at hne
                        have hr2 : r = false := by
                          rw [← HRR.out]
                          refine decide_eq_false (fun e => he ?_)
                          have := HPK.out
                          rw [e, HQK.out] at this
                          simp only [Option.some.injEq] at this
                          exact this.symm
                        subst hr2
                        go_wp2_with fail
                        go_quiet (fail)
                        go_wp2_with fail
                        go_ret
                        exact ⟨rfl, HK0.out.tr0 (HK.out.drewN _)⟩
                    · have k1 : ¬ ((k : Int) < (a.ws.length : Int)) := by omega
                      have hr2 : r = true := by
                        rw [← HRR.out]
                        refine decide_eq_true (List.ext_getElem? (fun j => ?_))
                        by_cases hj : j < k
                        · exact HEQ.out j hj
                        · rw [List.getElem?_eq_none (by omega), List.getElem?_eq_none (by rw [HLEN.out]; omega)]
                      subst hr2
                      go_wp2_with fail
                      go_ret
                      exact ⟨rfl, HK0.out.tr0 HK.out⟩

end Go.Proofs.YtbodlaiakcoabaaGreatDoor
end
section
namespace Go.Proofs.YtbodlaiakcoabaaGreatDoor
open Go.RowKit
set_option linter.unusedSimpArgs false
set_option linter.unusedVariables false
set_option maxRecDepth 100000

theorem wpStill_load15 {ops : Array Oper} {rest : List Oper} {o : Oper} {a : Act} {w : World} {Q : Act → Prop} {g c j : Nat} {l : List Tt} {t : Tt} (hgd : o.guard = none) {p : Operand} (ho : o.op = .load 42 p) (hp : a.eval p = .pointer (some ⟨g, j * 15, none⟩)) (hR : Row w g c 42 15 Tt.cells l) (hj : l[j]? = some t)
    (h : wpStill Tryz.prog ops w Q rest (a.put o.dst (t.x.agg t.s t.c))) : wpStill Tryz.prog ops w Q (o :: rest) a := by
  obtain ⟨d, hu, hd⟩ := und_thing
  unfold wpStill
  rw [if_pos (by simp [Region.wanted, hgd])]
  unfold Oper.still execOp
  simp only [ho, hp, Instr.loadAt, Instr.sureAddr, Sem.run_bind, Sem.run_pure, Result.andThen_ok, run_loadVar_mid w g (j * 15) 42 _ d (thing_range hR hj) hu hd info_thing]
  exact ⟨rfl, h⟩

set_option maxHeartbeats 4000000 in
theorem same_rows (g c g2 c2 : Nat) (ta tb : List Tt) (n : Nat) (w : World) (hA : Row w g c 42 15 Tt.cells ta) (hB : Row w g2 c2 42 15 Tt.cells tb) (hla : ta.length = n) (hlb : tb.length = n) (hs : ta.map Tt.x = tb.map Tt.x)
    (wa : ∀ t ∈ ta, InW w t.x t.s) (wb : ∀ t ∈ tb, InW w t.x t.s) (hf : ∀ t ∈ ta, t.x.ws.length ≤ 10000) (hn : n ≤ 1000) :
    Calls Tryz.prog 13 #[.slice (some ⟨g, 0, none⟩) n c, .slice (some ⟨g2, 0, none⟩) n c2] w fun e w' => e = .returned (.bool true) ∧ Kept (fun _ => False) w w' := by
  have HALL := Lib.hid (And.intro hA (And.intro hB (And.intro hla (And.intro hlb (And.intro hs (And.intro wa (And.intro wb hf)))))))
  clear hA hB hla hlb hs wa wb hf
  go_enter Tryz.func13, Tryz.ntmps13
  go_wp2_with fail
  go_loopw [5] (fun i wr => ∃ k : Nat, i = .int .i64 k ∧ k ≤ n ∧ Kept (fun _ => False) w wr) (fun i _ => n - (intOf i).toNat)
  case atStart => exact ⟨0, rfl, by omega, Kept.refl _ _⟩
  case round =>
    obtain ⟨k, rfl, hk1, hkr⟩ := hrel
    by_cases hkk : k < n
    · obtain ⟨hA, hB, hla, hlb, hs, wa, wb, hf⟩ := HALL.out
      obtain ⟨t, ht⟩ : ∃ t, ta[k]? = some t := ⟨_, List.getElem?_eq_getElem (by omega)⟩
      obtain ⟨u, hu⟩ : ∃ u, tb[k]? = some u := ⟨_, List.getElem?_eq_getElem (by omega)⟩
      have htu : t.x = u.x := by
        have h1 : (ta.map Tt.x)[k]? = some t.x := by rw [List.getElem?_map, ht]; rfl
        have h2 : (tb.map Tt.x)[k]? = some u.x := by rw [List.getElem?_map, hu]; rfl
        rw [hs, h2] at h1
        exact (Option.some.inj h1).symm
      have HKD : Kept (fun _ => False) w wr.drew := hkr.drew
      have HC : Hid (Calls Tryz.prog 18 #[t.x.agg t.s t.c, u.x.agg u.s u.c] wr.drew fun e w' => e = .returned (.bool true) ∧ Kept (fun _ => False) wr.drew w') :=
        Lib.hid (same_any t.x u.x t.s u.s t.c u.c wr.drew ((wa t (List.mem_of_getElem? ht)).kept0 HKD) ((wb u (List.mem_of_getElem? hu)).kept0 HKD) (hf t (List.mem_of_getElem? ht)) true (by rw [htu]; exact sameM_refl _))
      have HRA := Lib.hid (hA.kept HKD (fun f => f))
      have HRB := Lib.hid (hB.kept HKD (fun f => f))
      have HT := Lib.hid ht
      have HU := Lib.hid hu
      have HKR := Lib.hid hkr
      have k0 : (0 : Int) ≤ (k : Int) := by omega
      have k1 : (k : Int) < (n : Int) := by omega
      clear hA hB hla hlb hs wa wb hf ht hu htu HKD hkr
      go_wp2_with fail
      go_still_tail 8, (by kernel_rfl)
      refine wpStill_load15 rfl rfl rfl HRA.out HT.out ?_
      go_simp
      repeat still_step
      refine wpStill_load15 rfl rfl rfl HRB.out HU.out ?_
      go_simp
      refine wpStill_nil ?_
      change wpList _ _ _ _ _ wr.drew
      go_wp2_with fail
      refine HC.out.mono ?_
      rintro e w5 ⟨rfl, hk5⟩
      have HK5 := Lib.hid (HKR.out.drew.tr0 hk5)
      clear hk5
      go_wp2_with fail
      go_roundw
      case rel => exact ⟨k + 1, by go_num, by omega, HK5.out⟩
      case measure => simp [intOf]; omega
    · have k1 : ¬ (k : Int) < (n : Int) := by omega
      have HKR := Lib.hid hkr
      clear hkr
      go_wp2_with fail
      go_ret
      exact ⟨rfl, HKR.out⟩

end Go.Proofs.YtbodlaiakcoabaaGreatDoor
end
