/-
  The statements' own helper of layer 5: Same: two scripts that read alike are the same.
  Conditions: both lie in blocks that were there, and read alike.
-/
import Derived.Test.YtkicpbnphbcdaaaCheck
import Derived.LoopTactic
import Derived.Deep.QuietTactic
import Derived.BigQuiet
import Derived.Outline
namespace Go.Proofs.Ytkicpbnphbcdaaa
open Go.RowKit
set_option linter.unusedVariables false

theorem eq_object (w : World) (a : Int) (b : Bool) (c : Int) : (Op.equalIn 10000 48 (.agg #[.int .i64 a, .bool b, .int .i64 c]) (.agg #[.int .i64 a, .bool b, .int .i64 c])).run Try.prog w = .ok true w := by
  have u4 := Try.underlying4
  have u3 := Try.underlying3
  have a4 := Try.isAgg4
  have z4 := Try.sizeOf4
  have a3 := Try.isAgg3
  have z3 := Try.sizeOf3
  have hS : Try.prog.underlying 48 = some (.struct (Try.prog.fieldsOf 48)) := by kernel_rfl
  have hp : Try.prog.stoodInHeld 48 = false := by kernel_rfl
  rw [show (10000 : Nat) = 9999 + 1 from rfl, run_equalIn_agg w 9999 48 _ _ hS hp]
  simp only [Program.fieldsOf, Try.underlying48]
  go_simp
theorem eq_op (w : World) (a b c d : Int) (f : Bool) : (Op.equalIn 10000 62 (.agg #[.int .i64 a, .int .i64 b, .int .i64 c, .int .i64 d, .bool f]) (.agg #[.int .i64 a, .int .i64 b, .int .i64 c, .int .i64 d, .bool f])).run Try.prog w = .ok true w := by
  have u4 := Try.underlying4
  have u3 := Try.underlying3
  have u2 := Try.underlying2
  have a4 := Try.isAgg4
  have z4 := Try.sizeOf4
  have a3 := Try.isAgg3
  have z3 := Try.sizeOf3
  have a2 := Try.isAgg2
  have z2 := Try.sizeOf2
  have hS : Try.prog.underlying 62 = some (.struct (Try.prog.fieldsOf 62)) := by kernel_rfl
  have hp : Try.prog.stoodInHeld 62 = false := by kernel_rfl
  rw [show (10000 : Nat) = 9999 + 1 from rfl, run_equalIn_agg w 9999 62 _ _ hS hp]
  simp only [Program.fieldsOf, Try.underlying62]
  go_simp
theorem eq_pick (w : World) (a b : Int) : (Op.equalIn 10000 57 (.agg #[.int .i64 a, .int .i64 b]) (.agg #[.int .i64 a, .int .i64 b])).run Try.prog w = .ok true w := by
  have u3 := Try.underlying3
  have u2 := Try.underlying2
  have a3 := Try.isAgg3
  have z3 := Try.sizeOf3
  have a2 := Try.isAgg2
  have z2 := Try.sizeOf2
  have hS : Try.prog.underlying 57 = some (.struct (Try.prog.fieldsOf 57)) := by kernel_rfl
  have hp : Try.prog.stoodInHeld 57 = false := by kernel_rfl
  rw [show (10000 : Nat) = 9999 + 1 from rfl, run_equalIn_agg w 9999 57 _ _ hS hp]
  simp only [Program.fieldsOf, Try.underlying57]
  go_simp
theorem guard_object : Try.prog.eqGuardType Try.prog.depth 48 = false := by kernel_rfl
theorem guard_op : Try.prog.eqGuardType Try.prog.depth 62 = false := by kernel_rfl
theorem guard_pick : Try.prog.eqGuardType Try.prog.depth 57 = false := by kernel_rfl

set_option maxHeartbeats 4000000 in
set_option maxRecDepth 100000 in
theorem same_any {w : World} {B : Nat} {x y : Sc} (hx : Lies w B x) (hy : Lies w B y) (hB : B ≤ w.heap.size) (h1 : y.obs = x.obs) (h2 : y.pis = x.pis) (h3 : y.prs.map Pr.ops = x.prs.map Pr.ops) :
    Calls Try.prog 16 #[y.agg, x.agg] w fun e w' => e = .returned (.bool true) ∧ Kept (fun _ => False) w w' := by
  obtain ⟨os, oc, obs, ps, pc, prs, ks, kc, pis⟩ := x
  obtain ⟨os', oc', obs', ps', pc', prs', ks', kc', pis'⟩ := y
  obtain rfl : obs' = obs := h1
  obtain rfl : pis' = pis := h2
  replace h3 : prs'.map Pr.ops = prs.map Pr.ops := h3
  have hlen : prs'.length = prs.length := by have := congrArg List.length h3; simpa using this
  unfold Sc.agg
  obtain ⟨W2, hW2⟩ : ∃ W2, (w.alloc (.cells #[.slice os' obs'.length oc', .slice ps' prs'.length pc', .slice ks' pis'.length kc'] 26)).alloc (.cells #[.slice os obs'.length oc, .slice ps prs.length pc, .slice ks pis'.length kc] 26) = W2 := ⟨_, rfl⟩
  have hk1 : Kept (fun _ => False) (w.alloc (.cells #[.slice os' obs'.length oc', .slice ps' prs'.length pc', .slice ks' pis'.length kc'] 26)) W2 := by rw [← hW2]; exact (Kept.refl _ _).alloc _
  have hkW : Kept (fun _ => False) w W2 := ((Kept.refl _ w).alloc _).trans hk1 (fun _ _ f => f)
  have HX := Lib.hid (fun (w' : World) (hk : Kept (fun _ => False) W2 w') => hx.kept (hkW.trans hk (fun _ _ f => f)) hB (fun _ _ f => f))
  have HY := Lib.hid (fun (w' : World) (hk : Kept (fun _ => False) W2 w') => hy.kept (hkW.trans hk (fun _ _ f => f)) hB (fun _ _ f => f))
  have HP := Lib.hid (fun (w' : World) (hk : Kept (fun _ => False) W2 w') => box3 (hk1.trans hk (fun _ _ f => f)))
  have hk2 : ∀ w' : World, Kept (fun _ => False) W2 w' → w'.cell? ⟨w.heap.size + 1, 0, none⟩ = some (.slice os obs'.length oc) ∧ w'.cell? ⟨w.heap.size + 1, 1, none⟩ = some (.slice ps prs.length pc) ∧ w'.cell? ⟨w.heap.size + 1, 2, none⟩ = some (.slice ks pis'.length kc) := by
    intro w' hk
    have := box3 (w := w.alloc (.cells #[.slice os' obs'.length oc', .slice ps' prs'.length pc', .slice ks' pis'.length kc'] 26)) (w' := w') (by rw [hW2]; exact hk)
    rwa [World.size_alloc] at this
  have HQ := Lib.hid hk2
  have HKW := Lib.hid hkW
  have hmo : obs'.length ≤ 9223372036854775807 := by have := hx.obs.1; unfold maxLen at this; exact this
  have hmp : prs.length ≤ 9223372036854775807 := by have := hx.prs.row.1; unfold maxLen at this; exact this
  have hmi : pis'.length ≤ 9223372036854775807 := by have := hx.pis.1; unfold maxLen at this; exact this
  have HOPS : RowKit.Hid (∀ p ∈ prs, p.ops.length ≤ 9223372036854775807) := Lib.hid (fun p hp => by have := (hx.prs.ops p hp).1; unfold maxLen at this; exact this)
  have H3 := Lib.hid h3
  rw [hlen] at *
  clear hk1 hkW hk2 hx hy h3
  have e1 := eq_object
  have e2 := eq_op
  have e3 := eq_pick
  have g1 := guard_object
  have g2 := guard_op
  have g3 := guard_pick
  obtain ⟨p0, p1, p2⟩ := HP.out W2 (Kept.refl _ _)
  obtain ⟨q0, q1, q2⟩ := HQ.out W2 (Kept.refl _ _)
  go_enter Try.func16, Try.ntmps16
  go_wp2_with fail
  clear p0 p1 p2 q0 q1 q2
  clear hW2 hlen
  go_loopw [5] (fun i wr => ∃ k : Nat, i = .int .i64 k ∧ k ≤ obs'.length ∧ Kept (fun _ => False) W2 wr) (fun i _ => obs'.length - (intOf i).toNat)
  case atStart => exact ⟨0, rfl, by omega, Kept.refl _ _⟩
  case round =>
    obtain ⟨k, rfl, hk1, hk⟩ := hrel
    obtain ⟨p0, p1, p2⟩ := HP.out _ hk
    obtain ⟨q0, q1, q2⟩ := HQ.out _ hk
    have HK := Lib.hid hk; clear hk
    by_cases hkk : k < obs'.length
    · obtain ⟨z, hz⟩ : ∃ z, obs'[k]? = some z := ⟨_, List.getElem?_eq_getElem hkk⟩
      obtain ⟨g, off, hg1, hg, c0, c1, c2⟩ := ob_at (HX.out _ HK.out).obs hz
      obtain ⟨g', off', hg1', hg', d0, d1, d2⟩ := ob_at (HY.out _ HK.out).obs hz
      obtain rfl : os = some ⟨g, off, none⟩ := hg1
      obtain rfl : os' = some ⟨g', off', none⟩ := hg1'
      clear hz
      have k0 : (0 : Int) ≤ (k : Int) := by omega
      have k1 : (k : Int) < (obs'.length : Int) := by omega
      go_wp2_with fail
      go_quiet (fail)
      go_wp2_with fail
      go_roundw
      case rel => exact ⟨k + 1, by go_num, by omega, HK.out.drewN _⟩
      case measure => simp [intOf]; omega
    go_wp2_with fail
    clear p0 p1 p2 q0 q1 q2 hkk hk1
    go_loopw [6] (fun i wr => ∃ k : Nat, i = .int .i64 k ∧ k ≤ prs.length ∧ Kept (fun _ => False) W2 wr) (fun i _ => prs.length - (intOf i).toNat)
    case atStart => exact ⟨0, rfl, by omega, HK.out⟩
    case round =>
      clear HK
      obtain ⟨k, rfl, hk1, hk⟩ := hrel
      obtain ⟨p0, p1, p2⟩ := HP.out _ hk
      obtain ⟨q0, q1, q2⟩ := HQ.out _ hk
      have HK := Lib.hid hk; clear hk
      by_cases hkk : k < prs.length
      · obtain ⟨x, hx⟩ : ∃ x, prs[k]? = some x := ⟨_, List.getElem?_eq_getElem hkk⟩
        obtain ⟨y, hy⟩ : ∃ y, prs'[k]? = some y := ⟨_, List.getElem?_eq_getElem (by have := congrArg List.length H3.out; simp only [List.length_map] at this; omega)⟩
        have hxy : y.ops = x.ops := by
          have h := congrArg (fun l => l[k]?) H3.out
          simp only [List.getElem?_map, hx, hy, Option.map_some, Option.some.injEq] at h
          exact h
        have HXM := Lib.hid (List.mem_of_getElem? hx)
        have HYM := Lib.hid (List.mem_of_getElem? hy)
        have HXG := Lib.hid hx
        have HYG := Lib.hid hy
        obtain ⟨g, off, hg1, hg, c0⟩ := pr_at (HX.out _ HK.out).prs.row hx
        obtain ⟨g', off', hg1', hg', d0⟩ := pr_at (HY.out _ HK.out).prs.row hy
        obtain rfl : ps = some ⟨g, off, none⟩ := hg1
        obtain rfl : ps' = some ⟨g', off', none⟩ := hg1'
        have hml := HOPS.out x HXM.out
        obtain ⟨xs, xc, xops⟩ := x
        obtain ⟨ys, yc, yops⟩ := y
        obtain rfl : yops = xops := hxy
        replace c0 : wr.cell? ⟨g, off + k, none⟩ = some (.slice xs yops.length xc) := c0
        replace d0 : wr.cell? ⟨g', off' + k, none⟩ = some (.slice ys yops.length yc) := d0
        replace hml : yops.length ≤ 9223372036854775807 := hml
        clear hx hy
        have k0 : (0 : Int) ≤ (k : Int) := by omega
        have k1 : (k : Int) < (prs.length : Int) := by omega
        go_wp2_with fail
        go_quiet (fail)
        go_wp2_with fail
        clear c0 d0 p0 p1 p2 q0 q1 q2 k0 k1
        go_loopw [7] (fun i wr => ∃ j : Nat, i = .int .i64 j ∧ j ≤ yops.length ∧ Kept (fun _ => False) W2 wr) (fun i _ => yops.length - (intOf i).toNat)
        case atStart => exact ⟨0, rfl, by omega, HK.out.drewN _⟩
        case round =>
          clear HK
          obtain ⟨j, rfl, hj1, hk⟩ := hrel
          obtain ⟨p0, p1, p2⟩ := HP.out _ hk
          obtain ⟨q0, q1, q2⟩ := HQ.out _ hk
          have HK := Lib.hid hk; clear hk
          obtain ⟨g1, off1, hg1, _, c0⟩ := pr_at (HX.out _ HK.out).prs.row HXG.out
          obtain ⟨g1', off1', hg1', _, d0⟩ := pr_at (HY.out _ HK.out).prs.row HYG.out
          obtain ⟨rfl, rfl⟩ : g = g1 ∧ off = off1 := by simpa using hg1
          obtain ⟨rfl, rfl⟩ : g' = g1' ∧ off' = off1' := by simpa using hg1'
          replace c0 : wr.cell? ⟨g, off + k, none⟩ = some (.slice xs yops.length xc) := c0
          replace d0 : wr.cell? ⟨g', off' + k, none⟩ = some (.slice ys yops.length yc) := d0
          clear hg1 hg1'
          have k0 : (0 : Int) ≤ (k : Int) := by omega
          have k1 : (k : Int) < (prs.length : Int) := by omega
          by_cases hjj : j < yops.length
          · obtain ⟨z, hz⟩ : ∃ z, yops[j]? = some z := ⟨_, List.getElem?_eq_getElem hjj⟩
            obtain ⟨g2, off2, hg2, _, c1, c2, c3, c4, c5⟩ := cl_at ((HX.out _ HK.out).prs.ops _ HXM.out) hz
            obtain ⟨g2', off2', hg2', _, d1, d2, d3, d4, d5⟩ := cl_at ((HY.out _ HK.out).prs.ops _ HYM.out) hz
            obtain rfl : xs = some ⟨g2, off2, none⟩ := hg2
            obtain rfl : ys = some ⟨g2', off2', none⟩ := hg2'
            clear hz
            have j0 : (0 : Int) ≤ (j : Int) := by omega
            have j1 : (j : Int) < (yops.length : Int) := by omega
            go_wp2_with fail
            go_quiet (fail)
            go_wp2_with fail
            go_roundw
            case rel => exact ⟨j + 1, by go_num, by omega, HK.out.drewN _⟩
            case measure => simp [intOf]; omega
          · go_wp2_with fail
            go_roundw
            case rel =>
              have hrel2 : ∃ k' : Nat, Value.int .i64 ((k : Int) + 1) = .int .i64 k' ∧ k' ≤ prs.length ∧ Kept (fun _ => False) W2 wr := ⟨k + 1, by go_num, by omega, HK.out⟩
              first | exact hrel2 | ((repeat apply Exists.intro); exact ⟨hrel2, rfl⟩)
            case measure => simp [intOf]; omega
      go_wp2_with fail
      clear p0 p1 p2 q0 q1 q2 hkk hk1
      go_loopw [8] (fun i wr => ∃ k : Nat, i = .int .i64 k ∧ k ≤ pis'.length ∧ Kept (fun _ => False) W2 wr) (fun i _ => pis'.length - (intOf i).toNat)
      case atStart => exact ⟨0, rfl, by omega, HK.out⟩
      case round =>
        clear HK
        obtain ⟨k, rfl, hk1, hk⟩ := hrel
        obtain ⟨p0, p1, p2⟩ := HP.out _ hk
        obtain ⟨q0, q1, q2⟩ := HQ.out _ hk
        have HK := Lib.hid hk; clear hk
        by_cases hkk : k < pis'.length
        · obtain ⟨z, hz⟩ : ∃ z, pis'[k]? = some z := ⟨_, List.getElem?_eq_getElem hkk⟩
          obtain ⟨g, off, hg1, hg, c0, c1⟩ := pi_at (HX.out _ HK.out).pis hz
          obtain ⟨g', off', hg1', hg', d0, d1⟩ := pi_at (HY.out _ HK.out).pis hz
          obtain rfl : ks = some ⟨g, off, none⟩ := hg1
          obtain rfl : ks' = some ⟨g', off', none⟩ := hg1'
          clear hz
          have k0 : (0 : Int) ≤ (k : Int) := by omega
          have k1 : (k : Int) < (pis'.length : Int) := by omega
          go_wp2_with fail
          go_quiet (fail)
          go_wp2_with fail
          go_roundw
          case rel => exact ⟨k + 1, by go_num, by omega, HK.out.drewN _⟩
          case measure => simp [intOf]; omega
        go_wp2_with fail
        go_ret
        exact ⟨rfl, HKW.out.trans HK.out (fun _ _ f => f)⟩

end Go.Proofs.Ytkicpbnphbcdaaa
