/-
  The document's answer of layer 5: Check of a script that isn't too large.
  Conditions: the script lies in blocks that were there.
-/
import Derived.Test.YtkicpbnphbcdaaaCheckRef
namespace Go.Proofs.Ytkicpbnphbcdaaa
open Go.RowKit

@[reducible] def boxSc (w : World) (o p k : Value) : World := w.alloc (.cells #[o, p, k] 26)

set_option maxHeartbeats 4000000 in
set_option maxRecDepth 100000 in
theorem ref_small {w : World} {B : Nat} {x : Sc} (h : Lies w B x) (hB : B ≤ w.heap.size) (hl : largeF x = false) (r : Bool) (hr : goodF x = r) :
    Calls Try.prog 11 #[x.agg] w fun e w' => e = .returned (.int .i64 (if r then 0 else 1)) ∧ Kept (fun _ => False) w w' := by
  obtain ⟨os, oc, obs, ps, pc, prs, ks, kc, pis⟩ := x
  have h0 : Lies (boxSc w (.slice os obs.length oc) (.slice ps prs.length pc) (.slice ks pis.length kc)) B ⟨os, oc, obs, ps, pc, prs, ks, kc, pis⟩ := h.kept ((Kept.refl (fun _ => False) w).alloc _) hB (fun _ _ f => f)
  have hobs : Elems (boxSc w (.slice os obs.length oc) (.slice ps prs.length pc) (.slice ks pis.length kc)) B os 3 Ob.cells obs := h0.obs
  have hprs : Prs (boxSc w (.slice os obs.length oc) (.slice ps prs.length pc) (.slice ks pis.length kc)) B ps prs := h0.prs
  have hpis : Elems (boxSc w (.slice os obs.length oc) (.slice ps prs.length pc) (.slice ks pis.length kc)) B ks 2 Pi.cells pis := h0.pis
  have hBB : B ≤ (boxSc w (.slice os obs.length oc) (.slice ps prs.length pc) (.slice ks pis.length kc)).heap.size := by simp; omega
  have hm1 := hobs.1
  have hm2 := hprs.row.1
  have hm3 := hpis.1
  unfold maxLen at hm1 hm2 hm3
  have HO := Lib.hid hobs; clear hobs
  have HP := Lib.hid hprs; clear hprs
  have HI := Lib.hid hpis; clear hpis
  have HB := Lib.hid hBB; clear hBB h h0
  replace hl : (!(decide (obs.length ≤ 6) && decide (prs.length ≤ 8) && decide (pis.length ≤ 4000) && prs.all smallF)) = false := hl
  simp only [Bool.not_eq_false', Bool.and_eq_true, decide_eq_true_eq] at hl
  obtain ⟨⟨⟨l1, l2⟩, l3⟩, l4⟩ := hl
  replace hr : (obs.length != 0 && prs.length != 0 && obs.all obF && prs.all (progF obs.length) && pis.all piF) = r := hr
  have HR := Lib.hid hr; clear hr
  have HL4 := Lib.hid l4; clear l4
  have l1' : ¬ ((6 : Int) < (obs.length : Int)) := by omega
  have l2' : ¬ ((8 : Int) < (prs.length : Int)) := by omega
  have l3' : ¬ ((4000 : Int) < (pis.length : Int)) := by omega
  clear l1 l2 l3
  unfold Sc.agg
  go_enter Try.func11, Try.ntmps11
  go_wp2_with fail
  clear l1' l2' l3'
  go_loopw [3] (fun i wr => ∃ k : Nat, i = .int .i64 k ∧ k ≤ prs.length ∧ wr = boxSc w (.slice os obs.length oc) (.slice ps prs.length pc) (.slice ks pis.length kc)) (fun i _ => prs.length - (intOf i).toNat)
  case atStart => exact ⟨0, rfl, by omega, rfl⟩
  case round =>
    obtain ⟨k, rfl, hk1, rfl⟩ := hrel
    by_cases hkk : k < prs.length
    · obtain ⟨p, hp⟩ : ∃ p, prs[k]? = some p := ⟨_, List.getElem?_eq_getElem hkk⟩
      obtain ⟨g, off, rfl, hg, c0⟩ := pr_at HP.out.row hp
      have hf : p.ops.length ≤ 16 := of_decide_eq_true (List.all_eq_true.1 HL4.out p (List.mem_of_getElem? hp))
      have hf' : ¬ ((16 : Int) < (p.ops.length : Int)) := by omega
      clear hf hp
      go_wp2_with fail
      go_roundw
      case rel => exact ⟨k + 1, by go_num, by omega, by first | rfl | trivial⟩
      case measure => simp [intOf]; omega
    clear hk1 HL4
    by_cases n1 : obs.length = 0
    · have n1' : (obs.length : Int) = 0 := by omega
      have e : r = false := by rw [← HR.out, n1]; rfl
      subst e
      clear n1
      go_wp2_with fail
      go_ret
      exact ⟨rfl, (Kept.refl _ w).alloc _⟩
    have n1' : ((obs.length : Int) == 0) = false := by rw [beq_eq_false_iff_ne]; omega
    by_cases n2 : prs.length = 0
    · have n2' : (prs.length : Int) = 0 := by omega
      have e : r = false := by rw [← HR.out, n2]; simp
      subst e
      clear n2
      go_wp2_with fail
      go_ret
      exact ⟨rfl, (Kept.refl _ w).alloc _⟩
    have n2' : ((prs.length : Int) == 0) = false := by rw [beq_eq_false_iff_ne]; omega
    have hr2 : (obs.all obF && prs.all (progF obs.length) && pis.all piF) = r := by rw [← HR.out, bne_iff_ne.2 n1, bne_iff_ne.2 n2]; rfl
    have HR2 := Lib.hid hr2
    clear hr2 HR n1 n2
    go_wp2_with fail
    clear n1' n2'
    go_loopw [4, 5] (fun ok i wr => ∃ k : Nat, i = .int .i64 k ∧ k ≤ obs.length ∧ ok = .bool ((obs.take k).all obF) ∧ Kept (fun _ => False) (boxSc w (.slice os obs.length oc) (.slice ps prs.length pc) (.slice ks pis.length kc)) wr) (fun _ i _ => obs.length - (intOf i).toNat)
    case atStart => exact ⟨0, rfl, by omega, rfl, Kept.refl _ _⟩
    case round =>
      obtain ⟨k, rfl, hk1, rfl, hk⟩ := hrel
      obtain ⟨p0, p1, p2⟩ := box3 hk
      by_cases hkk : k < obs.length
      · obtain ⟨y, hy⟩ : ∃ y, obs[k]? = some y := ⟨_, List.getElem?_eq_getElem hkk⟩
        obtain ⟨g, off, rfl, hg, c0, c1, c2⟩ := ob_at (HO.out.kept hk HB.out (fun _ _ f => f)) hy
        have HK := Lib.hid hk; clear hk
        have hn := all_next obF hy
        clear hy
        cases hb : (obs.take k).all obF
        · rw [hb] at hn
          have HN := Lib.hid hn; clear hn
          go_wp2_with fail
          go_roundw
          case rel => exact ⟨k + 1, by go_num, by omega, by rw [HN.out]; rfl, HK.out⟩
          case measure => simp [intOf]; omega
        · rw [hb] at hn
          have HN := Lib.hid hn; clear hn
          go_wp2_with fail
          refine (object_ref y _ _ rfl).mono ?_
          rintro e w2 ⟨rfl, hk2⟩
          have HK2 := Lib.hid (HK.out.trans hk2 (fun _ _ f => f)); clear hk2
          go_wp2_with fail
          go_roundw
          case rel => exact ⟨k + 1, by go_num, by omega, by rw [HN.out]; rfl, HK2.out⟩
          case measure => simp [intOf]; omega
      have hbt : (obs.take k).all obF = obs.all obF := by rw [List.take_of_length_le (by omega)]
      rw [hbt]
      clear hbt hk1
      generalize obs.all obF = b1 at *
      have HK := Lib.hid hk; clear hk
      go_wp2_with fail
      clear p0 p1 p2 hkk
      go_loopw [4, 6] (fun ok i wr => ∃ k : Nat, i = .int .i64 k ∧ k ≤ prs.length ∧ ok = .bool (b1 && (prs.take k).all (progF obs.length)) ∧ Kept (fun _ => False) (boxSc w (.slice os obs.length oc) (.slice ps prs.length pc) (.slice ks pis.length kc)) wr) (fun _ i _ => prs.length - (intOf i).toNat)
      case atStart => exact ⟨0, rfl, by omega, by rw [List.take_zero, List.all_nil, Bool.and_true], HK.out⟩
      case round =>
        clear HK
        obtain ⟨k, rfl, hk1, rfl, hk⟩ := hrel
        obtain ⟨p0, p1, p2⟩ := box3 hk
        by_cases hkk : k < prs.length
        · obtain ⟨p, hp⟩ : ∃ p, prs[k]? = some p := ⟨_, List.getElem?_eq_getElem hkk⟩
          obtain ⟨g, off, rfl, hg, c0⟩ := pr_at (HP.out.row.kept hk HB.out (fun _ _ f => f)) hp
          have HOPS := Lib.hid (HP.out.ops p (List.mem_of_getElem? hp))
          have hpm := HOPS.out.1
          unfold maxLen at hpm
          have hn := all_next (progF obs.length) hp
          have HPP := Lib.hid hp; clear hp
          have HN := Lib.hid hn; clear hn
          have HK := Lib.hid hk; clear hk
          generalize hb2 : (b1 && (prs.take k).all (progF obs.length)) = b2
          have HB2 := Lib.hid hb2; clear hb2
          go_wp2_with fail
          clear c0 p0 p1 p2
          go_loopw [4, 7] (fun ok i wr => ∃ j : Nat, i = .int .i64 j ∧ j ≤ p.ops.length ∧ ok = .bool (b2 && (p.ops.take j).all (clF obs.length)) ∧ Kept (fun _ => False) (boxSc w (.slice os obs.length oc) (.slice (some ⟨g, off, none⟩) prs.length pc) (.slice ks pis.length kc)) wr) (fun _ i _ => p.ops.length - (intOf i).toNat)
          case atStart => exact ⟨0, rfl, by omega, by rw [List.take_zero, List.all_nil, Bool.and_true], HK.out⟩
          case round =>
            clear HK
            obtain ⟨j, rfl, hj1, rfl, hk⟩ := hrel
            obtain ⟨p0, p1, p2⟩ := box3 hk
            obtain ⟨g', off', hg', hgB, c0⟩ := pr_at (HP.out.row.kept hk HB.out (fun _ _ f => f)) HPP.out
            obtain ⟨rfl, rfl⟩ : g = g' ∧ off = off' := by simpa using hg'
            clear hg'
            by_cases hjj : j < p.ops.length
            · obtain ⟨y, hy⟩ : ∃ y, p.ops[j]? = some y := ⟨_, List.getElem?_eq_getElem hjj⟩
              obtain ⟨g2, off2, hps, hg2, d0, d1, d2, d3, d4⟩ := cl_at (HOPS.out.kept hk HB.out (fun _ _ f => f)) hy
              obtain ⟨ps, pcap, pops⟩ := p
              obtain rfl : ps = some ⟨g2, off2, none⟩ := hps
              have hjj2 : j < pops.length := hjj
              have hpm2 : pops.length ≤ 9223372036854775807 := hpm
              have hn2 := all_next (clF obs.length) hy
              have HK := Lib.hid hk; clear hk
              have HN2 := Lib.hid hn2; clear hn2 hy
              generalize hokb : (b2 && (pops.take j).all (clF obs.length)) = okb
              have HOK := Lib.hid hokb; clear hokb
              cases okb
              · go_wp2_with fail
                go_quiet (fail)
                go_wp2_with fail
                go_roundw
                case rel =>
                  have hv : Value.bool false = .bool (b2 && (pops.take (j + 1)).all (clF obs.length)) := by rw [HN2.out, ← Bool.and_assoc, HOK.out]; rfl
                  exact ⟨j + 1, by go_num, by omega, hv, HK.out.drewN _⟩
                case measure => simp [intOf]; omega
              · go_wp2_with fail
                go_still_tail 13, (by kernel_rfl)
                change wpList _ _ _ _ _ wr.drew
                go_wp2_with fail
                refine (call_ref y obs.length _ _ rfl).mono ?_
                rintro e w2 ⟨rfl, hk2⟩
                have HK2 := Lib.hid (HK.out.drew.trans hk2 (fun _ _ f => f)); clear hk2
                go_wp2_with fail
                go_roundw
                case rel =>
                  exact ⟨j + 1, by go_num, by omega, by rw [HN2.out, ← Bool.and_assoc, HOK.out, Bool.true_and], HK2.out⟩
                case measure => simp [intOf]; omega
            · have HK := Lib.hid hk; clear hk
              have hpf : (p.ops.take j).all (clF obs.length) = progF obs.length p := by rw [List.take_of_length_le (by omega)]; rfl
              have HPF := Lib.hid hpf; clear hpf
              go_wp2_with fail
              go_roundw
              case rel =>
                have hv : Value.bool (b2 && (p.ops.take j).all (clF obs.length)) = .bool (b1 && (prs.take (k + 1)).all (progF obs.length)) := by rw [HN.out, HPF.out, ← Bool.and_assoc, HB2.out]
                have hrel2 : ∃ k' : Nat, Value.int .i64 ((k : Int) + 1) = .int .i64 k' ∧ k' ≤ prs.length ∧ Value.bool (b2 && (p.ops.take j).all (clF obs.length)) = .bool (b1 && (prs.take k').all (progF obs.length)) ∧ Kept (fun _ => False) (boxSc w (.slice os obs.length oc) (.slice (some ⟨g, off, none⟩) prs.length pc) (.slice ks pis.length kc)) wr := ⟨k + 1, by go_num, by omega, hv, HK.out⟩
                first | exact hrel2 | ((repeat apply Exists.intro); exact ⟨hrel2, rfl⟩)
              case measure => simp [intOf]; omega
        have hbt : (prs.take k).all (progF obs.length) = prs.all (progF obs.length) := by rw [List.take_of_length_le (by omega)]
        rw [hbt]
        clear hbt hk1
        have HK := Lib.hid hk; clear hk
        have hr3 := HR2.out
        clear HR2
        generalize (b1 && prs.all (progF obs.length)) = b2 at *
        have HR3 := Lib.hid hr3
        clear hr3
        go_wp2_with fail
        clear p0 p1 p2 hkk
        go_loopw [4, 8] (fun ok i wr => ∃ k : Nat, i = .int .i64 k ∧ k ≤ pis.length ∧ ok = .bool (b2 && (pis.take k).all piF) ∧ Kept (fun _ => False) (boxSc w (.slice os obs.length oc) (.slice ps prs.length pc) (.slice ks pis.length kc)) wr) (fun _ i _ => pis.length - (intOf i).toNat)
        case atStart => exact ⟨0, rfl, by omega, by rw [List.take_zero, List.all_nil, Bool.and_true], HK.out⟩
        case round =>
          clear HK
          obtain ⟨k, rfl, hk1, rfl, hk⟩ := hrel
          obtain ⟨p0, p1, p2⟩ := box3 hk
          by_cases hkk : k < pis.length
          · obtain ⟨y, hy⟩ : ∃ y, pis[k]? = some y := ⟨_, List.getElem?_eq_getElem hkk⟩
            obtain ⟨g, off, rfl, hg, c0, c1⟩ := pi_at (HI.out.kept hk HB.out (fun _ _ f => f)) hy
            have HK := Lib.hid hk; clear hk
            have hn := all_next piF hy
            have HN := Lib.hid hn; clear hn hy
            generalize hokb : (b2 && (pis.take k).all piF) = okb
            have HOK := Lib.hid hokb; clear hokb
            cases okb
            · go_wp2_with fail
              go_roundw
              case rel => exact ⟨k + 1, by go_num, by omega, by rw [HN.out, ← Bool.and_assoc, HOK.out]; rfl, HK.out⟩
              case measure => simp [intOf]; omega
            · go_wp2_with fail
              refine (pick_ref y _ _ rfl).mono ?_
              rintro e w2 ⟨rfl, hk2⟩
              have HK2 := Lib.hid (HK.out.trans hk2 (fun _ _ f => f)); clear hk2
              go_wp2_with fail
              go_roundw
              case rel => exact ⟨k + 1, by go_num, by omega, by rw [HN.out, ← Bool.and_assoc, HOK.out, Bool.true_and], HK2.out⟩
              case measure => simp [intOf]; omega
          have hbt : (b2 && (pis.take k).all piF) = r := by rw [List.take_of_length_le (by omega)]; exact HR3.out
          rw [hbt]
          clear hbt hk1
          have HK := Lib.hid hk; clear hk
          cases r
          · go_wp2_with fail
            go_ret
            exact ⟨rfl, ((Kept.refl _ w).alloc _).trans HK.out (fun _ _ f => f)⟩
          · go_wp2_with fail
            go_ret
            exact ⟨rfl, ((Kept.refl _ w).alloc _).trans HK.out (fun _ _ f => f)⟩

end Go.Proofs.Ytkicpbnphbcdaaa
