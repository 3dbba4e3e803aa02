/-
  The statements' own helper of layer 5: Same: two scripts that don't read alike are not the same.
  Conditions: both lie in blocks that were there, and don't read alike.
-/
import Derived.Test.YtkicpbnphbcdaaaSame
import Derived.Test.YtkicpbnphbcdaaaPutTop
namespace Go.Proofs.Ytkicpbnphbcdaaa
open Go.RowKit
set_option linter.unusedVariables false

theorem ne_object (w : World) (x y : Ob) (h : x ≠ y) : (Op.equalIn 10000 48 (.agg #[.int .i64 x.kind, .bool x.fair, .int .i64 x.n]) (.agg #[.int .i64 y.kind, .bool y.fair, .int .i64 y.n])).run Try.prog w = .ok false w := by
  obtain ⟨a, b, c⟩ := x
  obtain ⟨a', b', c'⟩ := y
  have h2 : ¬ (a = a' ∧ b = b' ∧ c = c') := fun ⟨h1, h2, h3⟩ => h (by rw [h1, h2, h3])
  clear h
  have u4 := Try.underlying4
  have u3 := Try.underlying3
  have a4 := Try.isAgg4
  have z4 := Try.sizeOf4
  have a3 := Try.isAgg3
  have z3 := Try.sizeOf3
  have hS : Try.prog.underlying 48 = some (.struct (Try.prog.fieldsOf 48)) := by kernel_rfl
  have hp : Try.prog.stoodInHeld 48 = false := by kernel_rfl
  rw [show (10000 : Nat) = 9999 + 1 from rfl, run_equalIn_agg w 9999 48 _ _ hS hp]
  simp only [Program.fieldsOf, Try.underlying48]
  go_simp
  by_cases h0 : a = a' <;> by_cases h1 : b = b' <;> by_cases h3 : c = c' <;> simp_all
theorem ne_op (w : World) (x y : Cl) (h : x ≠ y) : (Op.equalIn 10000 62 (.agg #[.int .i64 x.kind, .int .i64 x.obj, .int .i64 x.n, .int .i64 x.wait, .bool x.breaks]) (.agg #[.int .i64 y.kind, .int .i64 y.obj, .int .i64 y.n, .int .i64 y.wait, .bool y.breaks])).run Try.prog w = .ok false w := by
  obtain ⟨a, b, c, d, e⟩ := x
  obtain ⟨a', b', c', d', e'⟩ := y
  have h2 : ¬ (a = a' ∧ b = b' ∧ c = c' ∧ d = d' ∧ e = e') := fun ⟨h1, h2, h3, h4, h5⟩ => h (by rw [h1, h2, h3, h4, h5])
  clear h
  have u4 := Try.underlying4
  have u3 := Try.underlying3
  have u2 := Try.underlying2
  have a4 := Try.isAgg4
  have z4 := Try.sizeOf4
  have a3 := Try.isAgg3
  have z3 := Try.sizeOf3
  have a2 := Try.isAgg2
  have z2 := Try.sizeOf2
  have hS : Try.prog.underlying 62 = some (.struct (Try.prog.fieldsOf 62)) := by kernel_rfl
  have hp : Try.prog.stoodInHeld 62 = false := by kernel_rfl
  rw [show (10000 : Nat) = 9999 + 1 from rfl, run_equalIn_agg w 9999 62 _ _ hS hp]
  simp only [Program.fieldsOf, Try.underlying62]
  go_simp
  by_cases h0 : a = a' <;> by_cases h1 : b = b' <;> by_cases h3 : c = c' <;> by_cases h4 : d = d' <;> by_cases h5 : e = e' <;> simp_all
theorem ne_pick (w : World) (x y : Pi) (h : x ≠ y) : (Op.equalIn 10000 57 (.agg #[.int .i64 x.kind, .int .i64 x.n]) (.agg #[.int .i64 y.kind, .int .i64 y.n])).run Try.prog w = .ok false w := by
  obtain ⟨a, b⟩ := x
  obtain ⟨a', b'⟩ := y
  have h2 : ¬ (a = a' ∧ b = b') := fun ⟨h1, h2⟩ => h (by rw [h1, h2])
  clear h
  have u3 := Try.underlying3
  have u2 := Try.underlying2
  have a3 := Try.isAgg3
  have z3 := Try.sizeOf3
  have a2 := Try.isAgg2
  have z2 := Try.sizeOf2
  have hS : Try.prog.underlying 57 = some (.struct (Try.prog.fieldsOf 57)) := by kernel_rfl
  have hp : Try.prog.stoodInHeld 57 = false := by kernel_rfl
  rw [show (10000 : Nat) = 9999 + 1 from rfl, run_equalIn_agg w 9999 57 _ _ hS hp]
  simp only [Program.fieldsOf, Try.underlying57]
  go_simp
  by_cases h0 : a = a' <;> by_cases h1 : b = b' <;> simp_all

theorem take_grow {α : Type} {xs ys : List α} {k : Nat} {x : α} (h : xs.take k = ys.take k) (hx : xs[k]? = some x) (hy : ys[k]? = some x) : xs.take (k + 1) = ys.take (k + 1) := by
  obtain ⟨h1, e1⟩ := List.getElem?_eq_some_iff.1 hx
  obtain ⟨h2, e2⟩ := List.getElem?_eq_some_iff.1 hy
  rw [List.take_succ_eq_append_getElem h1, List.take_succ_eq_append_getElem h2, e1, e2, h]
theorem take_all {α : Type} {xs ys : List α} {k : Nat} (hl : xs.length = ys.length) (h : xs.take k = ys.take k) (hk : ¬ k < ys.length) : xs = ys := by
  rwa [List.take_of_length_le (by omega), List.take_of_length_le (by omega)] at h

/-- Lengths that differ. -/
theorem same_short {w : World} {B : Nat} {x y : Sc} (hx : Lies w B x) (hy : Lies w B y) (hB : B ≤ w.heap.size) (h : y.obs.length ≠ x.obs.length ∨ y.prs.length ≠ x.prs.length ∨ y.pis.length ≠ x.pis.length) :
    Calls Try.prog 16 #[y.agg, x.agg] w fun e w' => e = .returned (.bool false) ∧ Kept (fun _ => False) w w' := by
  obtain ⟨os, oc, obs, ps, pc, prs, ks, kc, pis⟩ := x
  obtain ⟨os', oc', obs', ps', pc', prs', ks', kc', pis'⟩ := y
  unfold Sc.agg
  replace h : obs'.length ≠ obs.length ∨ prs'.length ≠ prs.length ∨ pis'.length ≠ pis.length := h
  clear hx hy hB
  by_cases h1 : obs'.length = obs.length
  · by_cases h2 : prs'.length = prs.length
    · have h3 : ((pis'.length : Int) == (pis.length : Int)) = false := by rw [beq_eq_false_iff_ne]; omega
      have h1' : ((obs'.length : Int) == (obs.length : Int)) = true := by rw [beq_iff_eq]; omega
      have h2' : ((prs'.length : Int) == (prs.length : Int)) = true := by rw [beq_iff_eq]; omega
      have h3n : ((pis'.length : Int) != (pis.length : Int)) = true := by rw [bne_iff_ne]; omega
      have h1n : ((obs'.length : Int) != (obs.length : Int)) = false := by rw [h1]; simp
      have h2n : ((prs'.length : Int) != (prs.length : Int)) = false := by rw [h2]; simp
      clear h h1 h2
      go_enter Try.func16, Try.ntmps16
      go_wp2_with fail
      go_ret
      exact ⟨rfl, ((Kept.refl _ w).alloc _).alloc _⟩
    · have h1' : ((obs'.length : Int) == (obs.length : Int)) = true := by rw [beq_iff_eq]; omega
      have h2' : ((prs'.length : Int) == (prs.length : Int)) = false := by rw [beq_eq_false_iff_ne]; omega
      have h1n : ((obs'.length : Int) != (obs.length : Int)) = false := by rw [h1]; simp
      have h2n : ((prs'.length : Int) != (prs.length : Int)) = true := by rw [bne_iff_ne]; omega
      clear h h1 h2
      go_enter Try.func16, Try.ntmps16
      go_wp2_with fail
      go_ret
      exact ⟨rfl, ((Kept.refl _ w).alloc _).alloc _⟩
  · have h1' : ((obs'.length : Int) == (obs.length : Int)) = false := by rw [beq_eq_false_iff_ne]; omega
    have h1n : ((obs'.length : Int) != (obs.length : Int)) = true := by rw [bne_iff_ne]; omega
    clear h h1
    go_enter Try.func16, Try.ntmps16
    go_wp2_with fail
    go_ret
    exact ⟨rfl, ((Kept.refl _ w).alloc _).alloc _⟩

set_option maxHeartbeats 4000000 in
set_option maxRecDepth 100000 in
theorem same_unlike {w : World} {B : Nat} {x y : Sc} (hx : Lies w B x) (hy : Lies w B y) (hB : B ≤ w.heap.size) (h1 : y.obs.length = x.obs.length) (hlen : y.prs.length = x.prs.length) (h2 : y.pis.length = x.pis.length) (hne : ¬ (y.obs = x.obs ∧ y.prs.map Pr.ops = x.prs.map Pr.ops ∧ y.pis = x.pis)) :
    Calls Try.prog 16 #[y.agg, x.agg] w fun e w' => e = .returned (.bool false) ∧ Kept (fun _ => False) w w' := by
  obtain ⟨os, oc, obs, ps, pc, prs, ks, kc, pis⟩ := x
  obtain ⟨os', oc', obs', ps', pc', prs', ks', kc', pis'⟩ := y
  obtain ⟨n1, hn1⟩ : ∃ n, obs.length = n := ⟨_, rfl⟩
  obtain ⟨n2, hn2⟩ : ∃ n, prs.length = n := ⟨_, rfl⟩
  obtain ⟨n3, hn3⟩ : ∃ n, pis.length = n := ⟨_, rfl⟩
  have hn1' : obs'.length = n1 := by rw [← hn1]; exact h1
  have hn2' : prs'.length = n2 := by rw [← hn2]; exact hlen
  have hn3' : pis'.length = n3 := by rw [← hn3]; exact h2
  clear h1 hlen h2
  have hmo : n1 ≤ 9223372036854775807 := by have := hx.obs.1; unfold maxLen at this; rw [← hn1]; exact this
  have hmp : n2 ≤ 9223372036854775807 := by have := hx.prs.row.1; unfold maxLen at this; rw [← hn2]; exact this
  have hmi : n3 ≤ 9223372036854775807 := by have := hx.pis.1; unfold maxLen at this; rw [← hn3]; exact this
  have HOPS : RowKit.Hid (∀ p ∈ prs, p.ops.length ≤ 9223372036854775807) := Lib.hid (fun p hp => by have := (hx.prs.ops p hp).1; unfold maxLen at this; exact this)
  unfold Sc.agg
  dsimp only
  rw [hn1, hn2, hn3, hn1', hn2', hn3']
  obtain ⟨W2, hW2⟩ : ∃ W2, (w.alloc (.cells #[.slice os' n1 oc', .slice ps' n2 pc', .slice ks' n3 kc'] 26)).alloc (.cells #[.slice os n1 oc, .slice ps n2 pc, .slice ks n3 kc] 26) = W2 := ⟨_, rfl⟩
  have hk1 : Kept (fun _ => False) (w.alloc (.cells #[.slice os' n1 oc', .slice ps' n2 pc', .slice ks' n3 kc'] 26)) W2 := by rw [← hW2]; exact (Kept.refl _ _).alloc _
  have hkW : Kept (fun _ => False) w W2 := ((Kept.refl _ w).alloc _).trans hk1 (fun _ _ f => f)
  have HX := Lib.hid (fun (w' : World) (hk : Kept (fun _ => False) W2 w') => hx.kept (hkW.trans hk (fun _ _ f => f)) hB (fun _ _ f => f))
  have HY := Lib.hid (fun (w' : World) (hk : Kept (fun _ => False) W2 w') => hy.kept (hkW.trans hk (fun _ _ f => f)) hB (fun _ _ f => f))
  have HP := Lib.hid (fun (w' : World) (hk : Kept (fun _ => False) W2 w') => box3 (hk1.trans hk (fun _ _ f => f)))
  have hk2 : ∀ w' : World, Kept (fun _ => False) W2 w' → w'.cell? ⟨w.heap.size + 1, 0, none⟩ = some (.slice os n1 oc) ∧ w'.cell? ⟨w.heap.size + 1, 1, none⟩ = some (.slice ps n2 pc) ∧ w'.cell? ⟨w.heap.size + 1, 2, none⟩ = some (.slice ks n3 kc) := by
    intro w' hk
    have := box3 (w := w.alloc (.cells #[.slice os' n1 oc', .slice ps' n2 pc', .slice ks' n3 kc'] 26)) (w' := w') (by rw [hW2]; exact hk)
    rwa [World.size_alloc] at this
  have HQ := Lib.hid hk2
  have HKW := Lib.hid hkW
  have HNE := Lib.hid hne
  have HN1 := Lib.hid hn1
  have HN2 := Lib.hid hn2
  have HN3 := Lib.hid hn3
  have HN1' := Lib.hid hn1'
  have HN2' := Lib.hid hn2'
  have HN3' := Lib.hid hn3'
  clear hk1 hkW hk2 hx hy hne hn1 hn2 hn3 hn1' hn2' hn3'
  have e1 := eq_object
  have e2 := eq_op
  have e3 := eq_pick
  have g1 := guard_object
  have g2 := guard_op
  have g3 := guard_pick
  obtain ⟨p0, p1, p2⟩ := HP.out W2 (Kept.refl _ _)
  obtain ⟨q0, q1, q2⟩ := HQ.out W2 (Kept.refl _ _)
  go_enter Try.func16, Try.ntmps16
  go_wp2_with fail
  clear p0 p1 p2 q0 q1 q2
  clear hW2
  go_loopw [5] (fun i wr => ∃ k : Nat, i = .int .i64 k ∧ k ≤ n1 ∧ obs'.take k = obs.take k ∧ Kept (fun _ => False) W2 wr) (fun i _ => n1 - (intOf i).toNat)
  case atStart => exact ⟨0, rfl, by omega, rfl, Kept.refl _ _⟩
  case round =>
    obtain ⟨k, rfl, hk1, htk, hk⟩ := hrel
    obtain ⟨p0, p1, p2⟩ := HP.out _ hk
    obtain ⟨q0, q1, q2⟩ := HQ.out _ hk
    have HK := Lib.hid hk
    have HT := Lib.hid htk
    clear hk htk
    by_cases hkk : k < n1
    · obtain ⟨z, hz⟩ : ∃ z, obs[k]? = some z := ⟨_, List.getElem?_eq_getElem (by have := HN1.out; omega)⟩
      obtain ⟨z', hz'⟩ : ∃ z, obs'[k]? = some z := ⟨_, List.getElem?_eq_getElem (by have := HN1'.out; omega)⟩
      obtain ⟨g, off, hg1, hg, c0, c1, c2⟩ := ob_at (HX.out _ HK.out).obs hz
      obtain ⟨g', off', hg1', hg', d0, d1, d2⟩ := ob_at (HY.out _ HK.out).obs hz'
      obtain rfl : os = some ⟨g, off, none⟩ := hg1
      obtain rfl : os' = some ⟨g', off', none⟩ := hg1'
      have HZ := Lib.hid hz
      have HZ' := Lib.hid hz'
      clear hz hz'
      have k0 : (0 : Int) ≤ (k : Int) := by omega
      have k1 : (k : Int) < (n1 : Int) := by omega
      by_cases he : z' = z
      · subst he
        go_wp2_with fail
        go_quiet (fail)
        go_wp2_with fail
        go_roundw
        case rel => exact ⟨k + 1, by go_num, by omega, take_grow HT.out HZ'.out HZ.out, HK.out.drewN _⟩
        case measure => simp [intOf]; omega
      · have e4 := fun w => ne_object w z' z he
        clear he e1
        go_wp2_with fail
        go_quiet (fail)
        go_wp2_with fail
        go_ret
        exact ⟨rfl, HKW.out.trans (HK.out.drewN _) (fun _ _ f => f)⟩
    have HOBS := Lib.hid (take_all (by rw [HN1.out, HN1'.out]) HT.out (by rw [HN1.out]; exact hkk))
    go_wp2_with fail
    clear p0 p1 p2 q0 q1 q2 hkk hk1
    go_loopw [6] (fun i wr => ∃ k : Nat, i = .int .i64 k ∧ k ≤ n2 ∧ (prs'.map Pr.ops).take k = (prs.map Pr.ops).take k ∧ Kept (fun _ => False) W2 wr) (fun i _ => n2 - (intOf i).toNat)
    case atStart => exact ⟨0, rfl, by omega, rfl, HK.out⟩
    case round =>
      clear HK
      obtain ⟨k, rfl, hk1, htk, hk⟩ := hrel
      obtain ⟨p0, p1, p2⟩ := HP.out _ hk
      obtain ⟨q0, q1, q2⟩ := HQ.out _ hk
      have HK := Lib.hid hk
      have HT2 := Lib.hid htk
      clear hk htk
      by_cases hkk : k < n2
      · obtain ⟨x, hx⟩ : ∃ x, prs[k]? = some x := ⟨_, List.getElem?_eq_getElem (by have := HN2.out; omega)⟩
        obtain ⟨y, hy⟩ : ∃ y, prs'[k]? = some y := ⟨_, List.getElem?_eq_getElem (by have := HN2'.out; omega)⟩
        have HXM := Lib.hid (List.mem_of_getElem? hx)
        have HYM := Lib.hid (List.mem_of_getElem? hy)
        have HXG := Lib.hid hx
        have HYG := Lib.hid hy
        obtain ⟨g, off, hg1, hg, c0⟩ := pr_at (HX.out _ HK.out).prs.row hx
        obtain ⟨g', off', hg1', hg', d0⟩ := pr_at (HY.out _ HK.out).prs.row hy
        obtain rfl : ps = some ⟨g, off, none⟩ := hg1
        obtain rfl : ps' = some ⟨g', off', none⟩ := hg1'
        have hml := HOPS.out x HXM.out
        obtain ⟨xs, xc, xops⟩ := x
        obtain ⟨ys, yc, yops⟩ := y
        have HXO : Hid ((prs.map Pr.ops)[k]? = some xops) := Lib.hid (by rw [List.getElem?_map, hx]; rfl)
        have HYO : Hid ((prs'.map Pr.ops)[k]? = some yops) := Lib.hid (by rw [List.getElem?_map, hy]; rfl)
        replace c0 : wr.cell? ⟨g, off + k, none⟩ = some (.slice xs xops.length xc) := c0
        replace d0 : wr.cell? ⟨g', off' + k, none⟩ = some (.slice ys yops.length yc) := d0
        replace hml : xops.length ≤ 9223372036854775807 := hml
        clear hx hy
        have k0 : (0 : Int) ≤ (k : Int) := by omega
        have k1 : (k : Int) < (n2 : Int) := by omega
        by_cases hle : yops.length = xops.length
        case neg =>
          have l1 : ((yops.length : Int) == (xops.length : Int)) = false := by rw [beq_eq_false_iff_ne]; omega
          have l2 : ((yops.length : Int) != (xops.length : Int)) = true := by rw [bne_iff_ne]; omega
          clear hle
          go_wp2_with fail
          go_quiet (fail)
          go_wp2_with fail
          go_ret
          exact ⟨rfl, HKW.out.trans (HK.out.drewN _) (fun _ _ f => f)⟩
        obtain ⟨m, hm⟩ : ∃ m, xops.length = m := ⟨_, rfl⟩
        rw [hm] at c0 hml
        rw [hle, hm] at d0
        have HM : Hid (xops.length = m) := Lib.hid hm
        have HM' : Hid (yops.length = m) := Lib.hid (by rw [hle, hm])
        clear hle hm
        go_wp2_with fail
        go_quiet (fail)
        go_wp2_with fail
        clear c0 d0 p0 p1 p2 q0 q1 q2 k0 k1
        go_loopw [7] (fun i wr => ∃ j : Nat, i = .int .i64 j ∧ j ≤ m ∧ yops.take j = xops.take j ∧ Kept (fun _ => False) W2 wr) (fun i _ => m - (intOf i).toNat)
        case atStart => exact ⟨0, rfl, by omega, rfl, HK.out.drewN _⟩
        case round =>
          clear HK
          obtain ⟨j, rfl, hj1, htj, hk⟩ := hrel
          obtain ⟨p0, p1, p2⟩ := HP.out _ hk
          obtain ⟨q0, q1, q2⟩ := HQ.out _ hk
          have HK := Lib.hid hk
          have HT3 := Lib.hid htj
          clear hk htj
          obtain ⟨g1, off1, hg1, _, c0⟩ := pr_at (HX.out _ HK.out).prs.row HXG.out
          obtain ⟨g1', off1', hg1', _, d0⟩ := pr_at (HY.out _ HK.out).prs.row HYG.out
          obtain ⟨rfl, rfl⟩ : g = g1 ∧ off = off1 := by simpa using hg1
          obtain ⟨rfl, rfl⟩ : g' = g1' ∧ off' = off1' := by simpa using hg1'
          replace c0 : wr.cell? ⟨g, off + k, none⟩ = some (.slice xs xops.length xc) := c0
          replace d0 : wr.cell? ⟨g', off' + k, none⟩ = some (.slice ys yops.length yc) := d0
          rw [HM.out] at c0
          rw [HM'.out] at d0
          clear hg1 hg1'
          have k0 : (0 : Int) ≤ (k : Int) := by omega
          have k1 : (k : Int) < (n2 : Int) := by omega
          by_cases hjj : j < m
          · obtain ⟨z, hz⟩ : ∃ z, xops[j]? = some z := ⟨_, List.getElem?_eq_getElem (by have := HM.out; omega)⟩
            obtain ⟨z', hz'⟩ : ∃ z, yops[j]? = some z := ⟨_, List.getElem?_eq_getElem (by have := HM'.out; omega)⟩
            obtain ⟨g2, off2, hg2, _, c1, c2, c3, c4, c5⟩ := cl_at ((HX.out _ HK.out).prs.ops _ HXM.out) hz
            obtain ⟨g2', off2', hg2', _, d1, d2, d3, d4, d5⟩ := cl_at ((HY.out _ HK.out).prs.ops _ HYM.out) hz'
            obtain rfl : xs = some ⟨g2, off2, none⟩ := hg2
            obtain rfl : ys = some ⟨g2', off2', none⟩ := hg2'
            have HZ := Lib.hid hz
            have HZ' := Lib.hid hz'
            clear hz hz'
            have j0 : (0 : Int) ≤ (j : Int) := by omega
            have j1 : (j : Int) < (m : Int) := by omega
            by_cases he : z' = z
            · subst he
              go_wp2_with fail
              go_quiet (fail)
              go_wp2_with fail
              go_roundw
              case rel => exact ⟨j + 1, by go_num, by omega, take_grow HT3.out HZ'.out HZ.out, HK.out.drewN _⟩
              case measure => simp [intOf]; omega
            · have e4 := fun w => ne_op w z' z he
              clear he e2
              go_wp2_with fail
              go_quiet (fail)
              go_wp2_with fail
              go_ret
              exact ⟨rfl, HKW.out.trans (HK.out.drewN _) (fun _ _ f => f)⟩
          · have HYX := Lib.hid (take_all (by rw [HM.out, HM'.out]) HT3.out (by rw [HM.out]; exact hjj))
            have HYO2 : Hid ((prs'.map Pr.ops)[k]? = some xops) := Lib.hid (by rw [HYO.out, HYX.out])
            go_wp2_with fail
            go_roundw
            case rel =>
              have hrel2 : ∃ k' : Nat, Value.int .i64 ((k : Int) + 1) = .int .i64 k' ∧ k' ≤ n2 ∧ (prs'.map Pr.ops).take k' = (prs.map Pr.ops).take k' ∧ Kept (fun _ => False) W2 wr := ⟨k + 1, by go_num, by omega, take_grow HT2.out HYO2.out HXO.out, HK.out⟩
              first | exact hrel2 | ((repeat apply Exists.intro); exact ⟨hrel2, rfl⟩)
            case measure => simp [intOf]; omega
      have HPRS := Lib.hid (take_all (by rw [List.length_map, List.length_map, HN2.out, HN2'.out]) HT2.out (by rw [List.length_map, HN2.out]; exact hkk))
      go_wp2_with fail
      clear p0 p1 p2 q0 q1 q2 hkk hk1
      go_loopw [8] (fun i wr => ∃ k : Nat, i = .int .i64 k ∧ k ≤ n3 ∧ pis'.take k = pis.take k ∧ Kept (fun _ => False) W2 wr) (fun i _ => n3 - (intOf i).toNat)
      case atStart => exact ⟨0, rfl, by omega, rfl, HK.out⟩
      case round =>
        clear HK
        obtain ⟨k, rfl, hk1, htk, hk⟩ := hrel
        obtain ⟨p0, p1, p2⟩ := HP.out _ hk
        obtain ⟨q0, q1, q2⟩ := HQ.out _ hk
        have HK := Lib.hid hk
        have HT4 := Lib.hid htk
        clear hk htk
        by_cases hkk : k < n3
        · obtain ⟨z, hz⟩ : ∃ z, pis[k]? = some z := ⟨_, List.getElem?_eq_getElem (by have := HN3.out; omega)⟩
          obtain ⟨z', hz'⟩ : ∃ z, pis'[k]? = some z := ⟨_, List.getElem?_eq_getElem (by have := HN3'.out; omega)⟩
          obtain ⟨g, off, hg1, hg, c0, c1⟩ := pi_at (HX.out _ HK.out).pis hz
          obtain ⟨g', off', hg1', hg', d0, d1⟩ := pi_at (HY.out _ HK.out).pis hz'
          obtain rfl : ks = some ⟨g, off, none⟩ := hg1
          obtain rfl : ks' = some ⟨g', off', none⟩ := hg1'
          have HZ := Lib.hid hz
          have HZ' := Lib.hid hz'
          clear hz hz'
          have k0 : (0 : Int) ≤ (k : Int) := by omega
          have k1 : (k : Int) < (n3 : Int) := by omega
          by_cases he : z' = z
          · subst he
            go_wp2_with fail
            go_quiet (fail)
            go_wp2_with fail
            go_roundw
            case rel => exact ⟨k + 1, by go_num, by omega, take_grow HT4.out HZ'.out HZ.out, HK.out.drewN _⟩
            case measure => simp [intOf]; omega
          · have e4 := fun w => ne_pick w z' z he
            clear he e3
            go_wp2_with fail
            go_quiet (fail)
            go_wp2_with fail
            go_ret
            exact ⟨rfl, HKW.out.trans (HK.out.drewN _) (fun _ _ f => f)⟩
        · exact absurd ⟨HOBS.out, HPRS.out, take_all (by rw [HN3.out, HN3'.out]) HT4.out (by rw [HN3.out]; exact hkk)⟩ HNE.out

/-- Same, of any two. -/
theorem same_not {w : World} {B : Nat} {x y : Sc} (hx : Lies w B x) (hy : Lies w B y) (hB : B ≤ w.heap.size) (hne : partsOf y ≠ partsOf x) :
    Calls Try.prog 16 #[y.agg, x.agg] w fun e w' => e = .returned (.bool false) ∧ Kept (fun _ => False) w w' := by
  by_cases h : y.obs.length ≠ x.obs.length ∨ y.prs.length ≠ x.prs.length ∨ y.pis.length ≠ x.pis.length
  · exact same_short hx hy hB h
  · refine same_unlike hx hy hB (by omega) (by omega) (by omega) (fun ⟨h1, h2, h3⟩ => hne ?_)
    unfold partsOf
    rw [h1, h2, h3]
theorem same_is {w : World} {B : Nat} {x y : Sc} (hx : Lies w B x) (hy : Lies w B y) (hB : B ≤ w.heap.size) (he : partsOf y = partsOf x) :
    Calls Try.prog 16 #[y.agg, x.agg] w fun e w' => e = .returned (.bool true) ∧ Kept (fun _ => False) w w' := by
  have h1 : y.obs = x.obs := congrArg Parts.obs he
  have h2 : y.prs.map Pr.ops = x.prs.map Pr.ops := congrArg Parts.prs he
  have h3 : y.pis = x.pis := congrArg Parts.pis he
  exact same_any hx hy hB h1 h3 h2

end Go.Proofs.Ytkicpbnphbcdaaa
