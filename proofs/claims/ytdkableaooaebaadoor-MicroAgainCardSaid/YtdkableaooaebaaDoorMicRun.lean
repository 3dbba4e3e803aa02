/-
  What the program's run comes to: a step.
  Conditions: the step's row of frames has 1 to 16 of them; the thread is there, and isn't blocked.
-/
import Derived.Test.YtdkableaooaebaaDoorMicFetch
import Derived.ScopeJumps
import Derived.WalkMore
import Derived.Test.YtdkableaooaebaaDoorDown
namespace Go.Proofs.YtdkableaooaebaaDoor
open Go.RowKit

/-- What run leaves. -/
def RunTo (L : Sp) (col : Nat → Nat) (w : World) (r : Int × Int × Ms) (e : Ending) (w' : World) : Prop := e = .returned (.tuple #[.int .i64 r.1, .int .i64 r.2.1]) ∧ ∃ d', OnMo L col d' w r.2.2 w'

/-- What an instruction keeps, but for frames. -/
structure Ok3 (L : Sp) (d : Nat) (s : Ms) : Prop where
  zs : (s.zs.length : Int) ≤ L.most
  thr : ∃ p, s.ps[L.self]? = some p ∧ p.blocked = false
  ns : s.ns.length ≤ d + 1

theorem thr_set {ps : List Pk} {i j : Nat} {p q : Pk} (hp : ps[i]? = some p) (hb : p.blocked = false) (hq : j = i → q.blocked = false) : ∃ p', (ps.set j q)[i]? = some p' ∧ p'.blocked = false := by
  by_cases h : j = i
  · subst h; exact ⟨q, set_at hp q, hq rfl⟩
  · exact ⟨p, by rw [List.getElem?_set_ne h]; exact hp, hb⟩

theorem val_fine {L : Sp} {d : Nat} {s : Ms} (hF : Fine L d s) (x : Ix) : Ok3 L d (valM L.most L.now L.self x s).2 := by
  obtain ⟨p, hp, hnb⟩ := hF.thr
  have ht := thr_at hp
  have h0 : Ok3 L d s := ⟨hF.zs, hF.thr, by have := hF.ns; omega⟩
  unfold valM
  by_cases h16 : x.op = 16
  · rw [if_neg (by omega), if_neg (by omega), if_neg (by omega), if_neg (by omega), if_pos h16]
    unfold allocM
    split
    · exact h0
    · rename_i hn
      refine ⟨?_, h0.thr, h0.ns⟩
      show (((s.zs ++ List.replicate x.n.toNat 0).length : Nat) : Int) ≤ L.most
      rw [List.length_append, List.length_replicate]
      omega
  by_cases h19 : x.op = 19
  · rw [if_neg (by omega), if_neg (by omega), if_neg (by omega), if_neg (by omega), if_neg (by omega), if_neg (by omega), if_neg (by omega), if_pos h19]
    exact ⟨h0.zs, thr_set hp hnb (fun _ => by rw [ht]; exact hnb), h0.ns⟩
  rw [if_neg h16, if_neg h19]
  repeat' split
  all_goals exact h0

theorem acc_fine {L : Sp} {d : Nat} {s : Ms} (hF : Fine L d s) (x : Ix) : Ok3 L d (accM x s).2 := by
  have h0 : Ok3 L d s := ⟨hF.zs, hF.thr, by have := hF.ns; omega⟩
  have h1 : ∀ p v, Ok3 L d (s.store p v) := fun p v => ⟨by show (((s.zs.set (p.toNat - 1) v).length : Nat) : Int) ≤ L.most; rw [List.length_set]; exact h0.zs, h0.thr, h0.ns⟩
  have h2 : ∀ (t : Ms) k v, Ok3 L d t → Ok3 L d (t.put k v) := fun t k v h => ⟨h.zs, h.thr, h.ns⟩
  unfold accM
  split
  · split
    · exact h2 _ _ _ h0
    · split
      · exact h1 _ _
      · split
        · exact h2 _ _ _ (h1 _ _)
        · exact h2 _ _ _ h0
  · exact h0

theorem act_fine {L : Sp} {d : Nat} {s : Ms} (hF : Fine L d s) (x : Ix) (h : (actM L.most L.now L.self x s).1 = 0) : Ok3 L d (actM L.most L.now L.self x s).2 := by
  obtain ⟨p, hp, hnb⟩ := hF.thr
  have ht := thr_at hp
  have h0 : Ok3 L d s := ⟨hF.zs, hF.thr, by have := hF.ns; omega⟩
  unfold actM at h ⊢
  by_cases h5 : 5 ≤ x.op ∧ x.op ≤ 7
  · rw [if_pos h5]; exact acc_fine hF x
  rw [if_neg h5] at h ⊢
  by_cases h14 : x.op = 14
  · rw [if_pos h14] at h ⊢
    unfold parkM at h ⊢
    split
    · exact h0
    · rename_i hd
      rw [if_neg hd] at h
      refine ⟨h0.zs, thr_set hp hnb (fun _ => ?_), h0.ns⟩
      have hb : (s.thr L.self).parks L.now (s.reg x.a) = false := by
        cases e : (s.thr L.self).parks L.now (s.reg x.a)
        · rfl
        · rw [e] at h; exact absurd (show (1 : Int) = 0 from h) (by decide)
      rw [ht] at hb ⊢
      unfold Pk.parks at hb
      unfold Pk.park
      cases hpm : p.permit
      · rw [hpm] at hb
        cases hfd : (p.flag || dueF L.now (s.reg x.a))
        · rw [Bool.false_or, hfd] at hb; cases hb
        · rw [if_neg (by decide), if_pos rfl]; exact hnb
      · rw [if_pos rfl]; exact hnb
  rw [if_neg h14] at h ⊢
  by_cases h15 : x.op = 15
  · rw [if_pos h15]
    unfold unparkM
    split
    · refine ⟨h0.zs, thr_set hp hnb (fun e => ?_), h0.ns⟩
      rw [e, ht]
      unfold Pk.unpark
      rw [if_neg (by rw [hnb]; decide)]
      exact hnb
    · exact h0
  rw [if_neg h15]
  by_cases h20 : x.op = 20
  · rw [if_pos h20]
    exact ⟨h0.zs, thr_set hp hnb (fun _ => rfl), h0.ns⟩
  rw [if_neg h20]
  by_cases h21 : x.op = 21
  · rw [if_pos h21]
    refine ⟨h0.zs, h0.thr, ?_⟩
    show (s.ns ++ [_]).length ≤ d + 1
    rw [List.length_append]
    have := hF.ns
    simp
    omega
  rw [if_neg h21]
  split
  · exact h0
  · have := val_fine hF x
    exact ⟨this.zs, this.thr, this.ns⟩

theorem Ok3.fine {L : Sp} {d : Nat} {s s' : Ms} (h : Ok3 L d s') (hF : Fine L d s) (hd : d < 200) (hb : s'.bs.length ≤ 15) : Fine L (d + 1) s' := ⟨hF.most, h.zs, h.thr, hb, h.ns, by omega, hF.code⟩

/-- An instruction leaves what holds at all times. -/
theorem fine_next {L : Sp} {d : Nat} {s : Ms} (hF : Fine L d s) (hd : d < 200) (x : Ix) (h : (doM L.most L.now L.self x s).1 = 0) : Fine L (d + 1) (doM L.most L.now L.self x s).2 := by
  have h0 : Ok3 L d s := ⟨hF.zs, hF.thr, by have := hF.ns; omega⟩
  unfold doM at h ⊢
  by_cases hj : 8 ≤ x.op ∧ x.op ≤ 11
  · rw [if_pos hj]
    unfold jumpM
    split
    · exact Ok3.fine ⟨h0.zs, h0.thr, h0.ns⟩ hF hd hF.bs
    · exact Ok3.fine ⟨h0.zs, h0.thr, h0.ns⟩ hF hd hF.bs
  rw [if_neg hj] at h ⊢
  by_cases h12 : x.op = 12
  · rw [if_pos h12] at h ⊢
    unfold enterM at h ⊢
    split
    · rename_i h15
      rw [if_pos h15] at h
      exact absurd (show (3 : Int) = 0 from h) (by decide)
    · rename_i h15
      refine Ok3.fine ⟨h0.zs, h0.thr, h0.ns⟩ hF hd ?_
      show (s.bs ++ [_]).length ≤ 15
      rw [List.length_append]
      have := hF.bs
      simp
      omega
  rw [if_neg h12] at h ⊢
  by_cases h13 : x.op = 13
  · rw [if_pos h13] at h ⊢
    unfold leaveM at h ⊢
    split
    · rename_i e
      rw [e] at h
      exact absurd (show (3 : Int) = 0 from h) (by decide)
    · refine Ok3.fine ⟨h0.zs, h0.thr, h0.ns⟩ hF hd ?_
      show s.bs.dropLast.length ≤ 15
      rw [List.length_dropLast]
      have := hF.bs
      omega
  rw [if_neg h13] at h ⊢
  by_cases h3 : (actM L.most L.now L.self x s).1 = 3
  · rw [if_pos h3] at h
    rw [h3] at h
    exact absurd h (by decide)
  rw [if_neg h3] at h ⊢
  have ha := act_fine hF x h
  refine Ok3.fine ⟨ha.zs, ha.thr, ha.ns⟩ hF hd ?_
  show (actM L.most L.now L.self x s).2.bs.length ≤ 15
  rw [(act_keeps L.most L.now L.self x s).2]
  exact hF.bs

theorem run_0 (code : List Ix) (most now : Int) (self : Nat) (b : Bool) (s : Ms) : runM code most now self 0 b s = (3, 0, s) := by unfold runM; rfl
theorem run_none {code : List Ix} {s : Ms} (h : fetchM code s.f.pc = none) (most now : Int) (self m : Nat) (b : Bool) : runM code most now self (m + 1) b s = (3, 0, s) := by unfold runM; rw [h]
theorem run_stop {code : List Ix} {s : Ms} {x : Ix} (h : fetchM code s.f.pc = some x) (hx : isAccess x.op = true) (most now : Int) (self m : Nat) : runM code most now self (m + 1) true s = (0, 0, s) := by
  unfold runM; rw [h]; simp [hx]
theorem run_next {code : List Ix} {s : Ms} {x : Ix} {b : Bool} (h : fetchM code s.f.pc = some x) (hx : (b && isAccess x.op) = false) {most now : Int} {self : Nat} (hd : (doM most now self x s).1 = 0) (m : Nat) :
    runM code most now self (m + 1) b s = runM code most now self m true (doM most now self x s).2 := by
  rw [runM, h]; simp [hx, hd]
theorem run_done {code : List Ix} {s : Ms} {x : Ix} {b : Bool} (h : fetchM code s.f.pc = some x) (hx : (b && isAccess x.op) = false) {most now : Int} {self : Nat} (hd : (doM most now self x s).1 = 2) (m : Nat) :
    runM code most now self (m + 1) b s = (2, (doM most now self x s).2.reg x.a, (doM most now self x s).2) := by
  rw [runM, h]; simp [hx, hd]
theorem run_else {code : List Ix} {s : Ms} {x : Ix} {b : Bool} (h : fetchM code s.f.pc = some x) (hx : (b && isAccess x.op) = false) {most now : Int} {self : Nat} (h0 : (doM most now self x s).1 ≠ 0) (h2 : (doM most now self x s).1 ≠ 2) (m : Nat) :
    runM code most now self (m + 1) b s = ((doM most now self x s).1, 0, (doM most now self x s).2) := by
  rw [runM, h]; simp [hx, h0, h2]

theorem do_bs (most now : Int) (self : Nat) (x : Ix) {s : Ms} (h : s.bs.length ≤ 15) : (doM most now self x s).2.bs.length ≤ 15 := by
  unfold doM
  by_cases hj : 8 ≤ x.op ∧ x.op ≤ 11
  · rw [if_pos hj]
    unfold jumpM
    split <;> exact h
  rw [if_neg hj]
  by_cases h12 : x.op = 12
  · rw [if_pos h12]
    unfold enterM
    split
    · exact h
    · show (s.bs ++ [_]).length ≤ 15
      rw [List.length_append]
      simp
      omega
  rw [if_neg h12]
  by_cases h13 : x.op = 13
  · rw [if_pos h13]
    unfold leaveM
    split
    · exact h
    · show s.bs.dropLast.length ≤ 15
      rw [List.length_dropLast]
      omega
  rw [if_neg h13]
  have e := (act_keeps most now self x s).2
  split
  · rw [e]; exact h
  · show (actM most now self x s).2.bs.length ≤ 15
    rw [e]; exact h

/-- A scope that begins with its label. -/
theorem wp_scope_head {P : Program} {rest : Code} {a : Act} {w : World} {Q : Exit → Act → World → Prop} (l : Nat) (J : Act → World → Prop) (μ : Act → World → Nat) (hf : findLabel ((Code.label l).seq rest) l = some (Code.skip.seq rest)) (h0 : J a w)
    (pass : ∀ a w, J a w → rest.wp P (Exit.jump l (fun a' w' => J a' w' ∧ μ a' w' < μ a w) Q) a w) : (Code.scope ((Code.label l).seq rest)).wp P Q a w :=
  wp_scope_jumps l J μ hf (wp_seq (wp_label (wp_mono (pass a w h0) (by intro e a w hq; cases e <;> first | exact hq | exact ⟨hq.1, hq.2.1⟩)))) (fun a w hJ => wp_seq (wp_skip (pass a w hJ)))
/-- The frame of run at its label. -/
def frR (sb : Nat) (u : Nat → Value) : Act := { tmps := #[.pointer (some ⟨sb, 0, none⟩), u 1, .int .i64 0, .int .i64 0, u 4, u 5, u 6, u 7, u 8, u 9, u 10, u 11, u 12, u 13, u 14, u 15, u 16, u 17, u 18, u 19, u 20, u 21, u 22, u 23, u 24, u 25, u 26, u 27, u 28, u 29, u 30, u 31, u 32, u 33, u 34, u 35, u 36, u 37, u 38, u 39, u 40, u 41, u 42, u 43, u 44, u 45, u 46, u 47, u 48, u 49, u 50, u 51, u 52, u 53, u 54], defers := [] }
theorem frR_of {sb : Nat} {a : Act} (h : a = frR sb (fun k => a.tmps.getD k undef)) : ∃ u, a = frR sb u := ⟨_, h⟩
/-- What holds at run's label. -/
def AtNext (L : Sp) (col : Nat → Nat) (w : World) (R : Int × Int × Ms) (a : Act) (w' : World) : Prop :=
  ∃ (u : Nat → Value) (d : Nat) (s : Ms) (col' : Nat → Nat) (k' : Kp), a = frR L.sb u ∧ On L col' k' d s w' ∧ Goes col w col' w' ∧ Fine L d s ∧ runM L.code L.most L.now L.self (200 - d) (decide (0 < d)) s = R
theorem AtNext.of {L : Sp} {col col' : Nat → Nat} {w w' : World} {R : Int × Int × Ms} {a : Act} {d : Nat} {s : Ms} {k' : Kp} (ha : a = frR L.sb (fun k => a.tmps.getD k undef)) (ho : On L col' k' d s w') (hg : Goes col w col' w') (hF : Fine L d s)
    (hr : runM L.code L.most L.now L.self (200 - d) (decide (0 < d)) s = R) : AtNext L col w R a w' := ⟨_, _, _, _, _, ha, ho, hg, hF, hr⟩
/-- How many instructions may yet be done. -/
def leftN (sb : Nat) (w : World) : Nat := match w.cell? ⟨sb, 6, none⟩ with
  | some (.int _ d) => 200 - d.toNat
  | _ => 0
theorem leftN_on {L : Sp} {col : Nat → Nat} {k : Kp} {d : Nat} {s : Ms} {w : World} (h : On L col k d s w) : leftN L.sb w = 200 - d := by
  unfold leftN
  rw [h.cells.1.2.2.2.2.2.2]
  rfl

section
variable {L : Sp} {col : Nat → Nat} {k : Kp} {d : Nat} {s : Ms} {w : World}
set_option maxHeartbeats 4000000 in
set_option maxRecDepth 100000 in
theorem run_any (h : On L col k 0 s w) (hF : Fine L 0 s) (hcw : ∀ x ∈ L.code, x.wide) :
    Calls Tryd.prog 25 #[.pointer (some ⟨L.sb, 0, none⟩)] w (RunTo L col w (stepM L.code L.most L.now L.self s)) := by
  have hR : runM L.code L.most L.now L.self (200 - 0) (decide (0 < 0)) s = stepM L.code L.most L.now L.self s := rfl
  generalize stepM L.code L.most L.now L.self s = R at *
  have HR0 : Hid (∀ u, AtNext L col w R (frR L.sb u) w) := Lib.hid (fun u => ⟨u, 0, s, col, k, rfl, h, Goes.refl _ _, hF, hR⟩)
  clear hR hF h
  go_enter Tryd.func25, Tryd.ntmps25
  go_wp2
  refine wp_scope_head 0 (AtNext L col w R) (fun _ w' => leftN L.sb w') rfl (HR0.out (fun _ => undef)) ?pass
  case pass =>
    clear HR0
    rintro a' w' ⟨u, d, s, col', k', rfl, ho, hg, hF, hR⟩
    have HFE := Lib.hid (fetch_any ho hF hcw)
    have HO := Lib.hid ho
    have HG := Lib.hid hg
    have HF := Lib.hid hF
    have HR := Lib.hid hR
    clear ho hg hF hR
    have HM : Hid (∀ W, Kept (fun _ => False) w' W → ∃ d', OnMo L col d' w s W) := Lib.hid (fun W hk => ⟨d, col', k', HO.out.kept0 hk, HG.out.trans (Goes.of0 hk)⟩)
    have hd := HF.out.d
    unfold frR
    rcases hf : fetchM L.code s.f.pc with _ | x
    · have HFN : Hid (Calls Tryd.prog 29 #[.pointer (some ⟨L.sb, 0, none⟩)] w' fun e w1 => e = .returned (.tuple #[.agg #[.int .i64 0, .int .i64 0, .int .i64 0, .int .i64 0, .int .i64 0], .bool false]) ∧ Kept (fun _ => False) w' w1) := Lib.hid (by
        have := HFE.out; rw [hf] at this; exact this)
      have HRN : Hid (R = (3, 0, s)) := Lib.hid (by
        rw [← HR.out]
        rcases hm : 200 - d with _ | m
        · exact run_0 ..
        · exact run_none hf ..)
      clear HFE HR HF HO HG hf hd
      go_wp2_with fail
      refine HFN.out.mono ?_
      rintro e w1 ⟨rfl, hk1⟩
      have HX := Lib.hid (HM.out _ (hk1.alloc (.cells #[.int .i64 0, .int .i64 0, .int .i64 0, .int .i64 0, .int .i64 0] 46)))
      clear hk1 HM HFN
      go_wp2_with fail
      simp only [Exit.jump]
      go_ret2
      exact ⟨by rw [HRN.out] <;> rfl, by rw [HRN.out]; exact HX.out⟩
    · obtain ⟨op, a, b, c, n⟩ := x
      have hfs := fetch_some hf
      have hcl := HF.out.code
      have hra := (may_of hfs.1).2.1
      obtain ⟨a, rfl⟩ : ∃ a' : Nat, a = a' := ⟨a.toNat, by have := hra; dsimp only at this; omega⟩
      have ha : a < 16 := by have := hra; dsimp only at this; omega
      clear hra
      have HFN : Hid (Calls Tryd.prog 29 #[.pointer (some ⟨L.sb, 0, none⟩)] w' fun e w1 => e = .returned (.tuple #[.agg #[.int .i64 op, .int .i64 a, .int .i64 b, .int .i64 c, .int .i64 n], .bool true]) ∧ Kept (fun _ => False) w' w1) := Lib.hid (by
        have := HFE.out; rw [hf] at this; exact this)
      clear HFE
      by_cases hd2 : d = 200
      · subst hd2
        have HRN : Hid (R = (3, 0, s)) := Lib.hid (by rw [← HR.out]; exact run_0 ..)
        clear HR HF HG hf hd hfs hcl
        go_wp2_with fail
        refine HFN.out.mono ?_
        rintro e w1 ⟨rfl, hk1⟩
        have HX := Lib.hid (HM.out _ (hk1.alloc (.cells #[.int .i64 op, .int .i64 a, .int .i64 b, .int .i64 c, .int .i64 n] 46)))
        obtain ⟨⟨_, _, _, _, _, _, c6⟩, _⟩ := ((HO.out.kept0 hk1).alloc (.cells #[.int .i64 op, .int .i64 a, .int .i64 b, .int .i64 c, .int .i64 n] 46)).cells
        clear hk1 HM HFN HO
        go_wp2_with fail
        simp only [Exit.jump]
        go_ret2
        exact ⟨by rw [HRN.out] <;> rfl, by rw [HRN.out]; exact HX.out⟩
      obtain ⟨m, hm⟩ : ∃ m, 200 - d = m + 1 := ⟨199 - d, by omega⟩
      rw [hm] at HR
      have HH := Lib.hid HO.out
      by_cases hd0 : d = 0
      · have hx : (decide (0 < d) && isAccess op) = false := by rw [hd0]; rfl
        have hdp : ¬ ((0 : Int) < (d : Int)) := by omega
        have hdq : ((d : Int) == 200) = false := by rw [beq_eq_false_iff_ne]; omega
        clear hd0
        go_wp2_with fail
        refine HFN.out.mono ?_
        rintro e w1 ⟨rfl, hk1⟩
        have HC0 := Lib.hid ((HO.out.kept0 hk1).new w1.heap.size (Nat.le_refl _))
        have HK := Lib.hid (hk1.alloc (.cells #[.int .i64 op, .int .i64 a, .int .i64 b, .int .i64 c, .int .i64 n] 46))
        have HO1 := Lib.hid (HO.out.kept0 HK.out)
        have HB := Lib.hid (heap_new1 w1 (.cells #[.int .i64 op, .int .i64 a, .int .i64 b, .int .i64 c, .int .i64 n] 46))
        obtain ⟨b0, b1, b2, b3, b4, _⟩ := cells5 HB.out
        obtain ⟨⟨_, _, _, _, _, _, c6⟩, _⟩ := HO1.out.cells
        clear hk1 HFN
        have HQ : Hid (((doM L.most L.now L.self ⟨op, a, b, c, n⟩ s).1 = 0 → Fine L (d + 1) (doM L.most L.now L.self ⟨op, a, b, c, n⟩ s).2 ∧ runM L.code L.most L.now L.self m true (doM L.most L.now L.self ⟨op, a, b, c, n⟩ s).2 = R) ∧ ((doM L.most L.now L.self ⟨op, a, b, c, n⟩ s).1 = 2 → R = (2, (doM L.most L.now L.self ⟨op, a, b, c, n⟩ s).2.reg a, (doM L.most L.now L.self ⟨op, a, b, c, n⟩ s).2)) ∧ ((doM L.most L.now L.self ⟨op, a, b, c, n⟩ s).1 ≠ 0 → (doM L.most L.now L.self ⟨op, a, b, c, n⟩ s).1 ≠ 2 → R = ((doM L.most L.now L.self ⟨op, a, b, c, n⟩ s).1, 0, (doM L.most L.now L.self ⟨op, a, b, c, n⟩ s).2)) ∧ (doM L.most L.now L.self ⟨op, a, b, c, n⟩ s).2.bs.length ≤ 15) :=
          Lib.hid ⟨fun h => ⟨fine_next HF.out (by omega) _ h, by rw [← run_next hf hx h]; exact HR.out⟩, fun h => by rw [← HR.out]; exact run_done hf hx h m, fun h h2 => by rw [← HR.out]; exact run_else hf hx h h2 m, do_bs _ _ _ _ HF.out.bs⟩
        have HD := Lib.hid (do_any HO1.out HF.out ⟨op, a, b, c, n⟩ hfs.1 hfs.2.1 (by omega))
        clear HR hx hfs hcl hf HF
        generalize doM L.most L.now L.self ⟨op, a, b, c, n⟩ s = r at HQ HD
        obtain ⟨how, s'⟩ := r
        dsimp only at HQ HD
        go_wp2_with fail
        refine HD.out.mono ?_
        rintro e w4 ⟨rfl, col4, k4, ho4, hg4⟩
        have HO4 := Lib.hid ho4
        have HG4 := Lib.hid ((HG.out.trans (Goes.of0 HK.out)).trans hg4)
        have HB4 := Lib.hid (hg4.at_ HB.out HC0.out)
        clear ho4 hg4 HD HB HC0 HO1 HG HK HO HM b0 b1 b2 b3 b4 c6
        obtain ⟨⟨_, _, _, _, _, _, c6⟩, f6⟩ := HO4.out.cells
        have f6 := f6 6
        by_cases h0 : how = 0
        · subst h0
          obtain ⟨hfi, hru⟩ := HQ.out.1 rfl
          have HS : Hid (On L col4 k4 (d + 1) s' (w4.setCell ⟨L.sb, 6, none⟩ (.int .i64 ((d : Int) + 1))) ∧ Goes col4 w4 col4 (w4.setCell ⟨L.sb, 6, none⟩ (.int .i64 ((d : Int) + 1)))) := Lib.hid (HO4.out.setD (d + 1))
          have HFI := Lib.hid hfi
          have HRU := Lib.hid hru
          clear hfi hru HQ
          have hw : IntKind.i64.wrap ((d : Int) + 1) = (d : Int) + 1 := IntWalk.i64_in _ (by omega)
          go_wp2_with fail
          go_step3
          refine ⟨rfl, AtNext.of rfl HS.out.1 (HG4.out.trans HS.out.2) HFI.out (by rw [show 200 - (d + 1) = m by omega, decide_eq_true (by omega)]; exact HRU.out), ?_⟩
          rw [leftN_on HS.out.1, leftN_on HH.out]
          omega
        · by_cases h2 : how = 2
          · subst h2
            have HRQ := Lib.hid (HQ.out.2.1 rfl)
            have HBL := Lib.hid HQ.out.2.2.2
            clear HQ h0
            have z0 : ((a : Nat) : Int) < 16 := by omega
            have HLA := Lib.hid (last_any HO4.out.drew HBL.out)
            have SF : Hid (∀ w2, Kept (fun _ => False) w4.drew w2 → w2.cell? ⟨w1.heap.size, 1, none⟩ = some (.int .i64 a) ∧ w2.cell? ⟨k4.fg, s'.bs.length * 17 + 1 + a, none⟩ = some (.int .i64 (s'.f.r a)) ∧ ∃ d', OnMo L col d' w s' w2) := Lib.hid (fun w2 hk => by
              have h2 := HO4.out.drew.kept0 hk
              obtain ⟨_, b1, _, _, _, _⟩ := cells5 (hk.at0 (((Kept.refl (fun _ => False) w4).drew).at0 HB4.out))
              exact ⟨b1, h2.regAt ha, d, col4, k4, h2, (HG4.out.trans (Goes.of0 (Kept.refl _ w4).drew)).trans (Goes.of0 hk)⟩)
            have e1 := (cells5 (((Kept.refl (fun _ => False) w4).drew).at0 HB4.out)).2.1
            clear HB4 HG4 HO4 c6 f6 HH HBL
            go_wp2_with fail
            go_region_with (go_at_call 32; refine HLA.out.mono ?_; rintro e w2 ⟨rfl, hk2⟩; obtain ⟨x0, x1, hx⟩ := SF.out _ hk2; have HX := Lib.hid hx; clear hk2 hx)
            all_goals
              go_wp2_with fail
              simp only [Exit.jump]
              go_ret2
              exact ⟨by rw [HRQ.out] <;> rfl, by rw [HRQ.out]; exact HX.out⟩
          · have HRQ := Lib.hid (HQ.out.2.2.1 h0 h2)
            have q0 : (how == 0) = false := by rw [beq_eq_false_iff_ne]; exact h0
            have q2 : (how == 2) = false := by rw [beq_eq_false_iff_ne]; exact h2
            clear HQ
            go_wp2_with fail
            simp only [Exit.jump]
            go_ret2
            exact ⟨by rw [HRQ.out] <;> rfl, by rw [HRQ.out]; exact ⟨d, col4, k4, HO4.out, HG4.out⟩⟩
      · have hdp : (0 : Int) < (d : Int) := by omega
        have hdq : ((d : Int) == 200) = false := by rw [beq_eq_false_iff_ne]; omega
        go_wp2_with fail
        refine HFN.out.mono ?_
        rintro e w1 ⟨rfl, hk1⟩
        have HC0 := Lib.hid ((HO.out.kept0 hk1).new w1.heap.size (Nat.le_refl _))
        have HK := Lib.hid (hk1.alloc (.cells #[.int .i64 op, .int .i64 a, .int .i64 b, .int .i64 c, .int .i64 n] 46))
        have HO1 := Lib.hid (HO.out.kept0 HK.out)
        have HB := Lib.hid (heap_new1 w1 (.cells #[.int .i64 op, .int .i64 a, .int .i64 b, .int .i64 c, .int .i64 n] 46))
        obtain ⟨b0, b1, b2, b3, b4, _⟩ := cells5 HB.out
        obtain ⟨⟨_, _, _, _, _, _, c6⟩, _⟩ := HO1.out.cells
        clear hk1 HFN
        go_wp2_with fail
        refine (access_any op a b c n _).mono ?_
        rintro e w3 ⟨rfl, hk3⟩
        have HK3 := Lib.hid (HK.out.trans hk3 (fun _ _ f => f))
        have HO3 := Lib.hid (HO.out.kept0 HK3.out)
        have HB3 := Lib.hid (hk3.at0 HB.out)
        clear hk3 HK HO1 HB b0 b1 b2 b3 b4 c6
        have HK := HK3
        have HO1 := HO3
        have HB := HB3
        clear HK3 HO3 HB3
        obtain ⟨b0, b1, b2, b3, b4, _⟩ := cells5 HB.out
        obtain ⟨⟨_, _, _, _, _, _, c6⟩, _⟩ := HO1.out.cells
        rcases hac : isAccess op with _ | _
        · have hx : (decide (0 < d) && isAccess op) = false := by rw [hac, Bool.and_false]
          clear hac
          have HQ : Hid (((doM L.most L.now L.self ⟨op, a, b, c, n⟩ s).1 = 0 → Fine L (d + 1) (doM L.most L.now L.self ⟨op, a, b, c, n⟩ s).2 ∧ runM L.code L.most L.now L.self m true (doM L.most L.now L.self ⟨op, a, b, c, n⟩ s).2 = R) ∧ ((doM L.most L.now L.self ⟨op, a, b, c, n⟩ s).1 = 2 → R = (2, (doM L.most L.now L.self ⟨op, a, b, c, n⟩ s).2.reg a, (doM L.most L.now L.self ⟨op, a, b, c, n⟩ s).2)) ∧ ((doM L.most L.now L.self ⟨op, a, b, c, n⟩ s).1 ≠ 0 → (doM L.most L.now L.self ⟨op, a, b, c, n⟩ s).1 ≠ 2 → R = ((doM L.most L.now L.self ⟨op, a, b, c, n⟩ s).1, 0, (doM L.most L.now L.self ⟨op, a, b, c, n⟩ s).2)) ∧ (doM L.most L.now L.self ⟨op, a, b, c, n⟩ s).2.bs.length ≤ 15) :=
            Lib.hid ⟨fun h => ⟨fine_next HF.out (by omega) _ h, by rw [← run_next hf hx h]; exact HR.out⟩, fun h => by rw [← HR.out]; exact run_done hf hx h m, fun h h2 => by rw [← HR.out]; exact run_else hf hx h h2 m, do_bs _ _ _ _ HF.out.bs⟩
          have HD := Lib.hid (do_any HO1.out HF.out ⟨op, a, b, c, n⟩ hfs.1 hfs.2.1 (by omega))
          clear HR hx hfs hcl hf HF
          generalize doM L.most L.now L.self ⟨op, a, b, c, n⟩ s = r at HQ HD
          obtain ⟨how, s'⟩ := r
          dsimp only at HQ HD
          go_wp2_with fail
          refine HD.out.mono ?_
          rintro e w4 ⟨rfl, col4, k4, ho4, hg4⟩
          have HO4 := Lib.hid ho4
          have HG4 := Lib.hid ((HG.out.trans (Goes.of0 HK.out)).trans hg4)
          have HB4 := Lib.hid (hg4.at_ HB.out HC0.out)
          clear ho4 hg4 HD HB HC0 HO1 HG HK HO HM b0 b1 b2 b3 b4 c6
          obtain ⟨⟨_, _, _, _, _, _, c6⟩, f6⟩ := HO4.out.cells
          have f6 := f6 6
          by_cases h0 : how = 0
          · subst h0
            obtain ⟨hfi, hru⟩ := HQ.out.1 rfl
            have HS : Hid (On L col4 k4 (d + 1) s' (w4.setCell ⟨L.sb, 6, none⟩ (.int .i64 ((d : Int) + 1))) ∧ Goes col4 w4 col4 (w4.setCell ⟨L.sb, 6, none⟩ (.int .i64 ((d : Int) + 1)))) := Lib.hid (HO4.out.setD (d + 1))
            have HFI := Lib.hid hfi
            have HRU := Lib.hid hru
            clear hfi hru HQ
            have hw : IntKind.i64.wrap ((d : Int) + 1) = (d : Int) + 1 := IntWalk.i64_in _ (by omega)
            go_wp2_with fail
            go_step3
            refine ⟨rfl, AtNext.of rfl HS.out.1 (HG4.out.trans HS.out.2) HFI.out (by rw [show 200 - (d + 1) = m by omega, decide_eq_true (by omega)]; exact HRU.out), ?_⟩
            rw [leftN_on HS.out.1, leftN_on HH.out]
            omega
          · by_cases h2 : how = 2
            · subst h2
              have HRQ := Lib.hid (HQ.out.2.1 rfl)
              have HBL := Lib.hid HQ.out.2.2.2
              clear HQ h0
              have z0 : ((a : Nat) : Int) < 16 := by omega
              have HLA := Lib.hid (last_any HO4.out.drew HBL.out)
              have SF : Hid (∀ w2, Kept (fun _ => False) w4.drew w2 → w2.cell? ⟨w1.heap.size, 1, none⟩ = some (.int .i64 a) ∧ w2.cell? ⟨k4.fg, s'.bs.length * 17 + 1 + a, none⟩ = some (.int .i64 (s'.f.r a)) ∧ ∃ d', OnMo L col d' w s' w2) := Lib.hid (fun w2 hk => by
                have h2 := HO4.out.drew.kept0 hk
                obtain ⟨_, b1, _, _, _, _⟩ := cells5 (hk.at0 (((Kept.refl (fun _ => False) w4).drew).at0 HB4.out))
                exact ⟨b1, h2.regAt ha, d, col4, k4, h2, (HG4.out.trans (Goes.of0 (Kept.refl _ w4).drew)).trans (Goes.of0 hk)⟩)
              have e1 := (cells5 (((Kept.refl (fun _ => False) w4).drew).at0 HB4.out)).2.1
              clear HB4 HG4 HO4 c6 f6 HH HBL
              go_wp2_with fail
              go_region_with (go_at_call 32; refine HLA.out.mono ?_; rintro e w2 ⟨rfl, hk2⟩; obtain ⟨x0, x1, hx⟩ := SF.out _ hk2; have HX := Lib.hid hx; clear hk2 hx)
              all_goals
                go_wp2_with fail
                simp only [Exit.jump]
                go_ret2
                exact ⟨by rw [HRQ.out] <;> rfl, by rw [HRQ.out]; exact HX.out⟩
            · have HRQ := Lib.hid (HQ.out.2.2.1 h0 h2)
              have q0 : (how == 0) = false := by rw [beq_eq_false_iff_ne]; exact h0
              have q2 : (how == 2) = false := by rw [beq_eq_false_iff_ne]; exact h2
              clear HQ
              go_wp2_with fail
              simp only [Exit.jump]
              go_ret2
              exact ⟨by rw [HRQ.out] <;> rfl, by rw [HRQ.out]; exact ⟨d, col4, k4, HO4.out, HG4.out⟩⟩
        · have HRQ : Hid (R = (0, 0, s)) := Lib.hid (by
            rw [← HR.out, decide_eq_true (show 0 < d by omega)]
            exact run_stop hf hac ..)
          have HX := Lib.hid (HM.out _ HK.out)
          clear HR hfs hcl hf HF HO HG HM HK HO1 HB HC0
          go_wp2_with fail
          simp only [Exit.jump]
          go_ret2
          exact ⟨by rw [HRQ.out] <;> rfl, by rw [HRQ.out]; exact HX.out⟩
end

end Go.Proofs.YtdkableaooaebaaDoor
