/-
  The document's answer of layer 10, its small calls: Reads, place, freed.
  Conditions: no count is beyond two millions; the waiters lie in memory.
-/
import Derived.Test.YthjblniabnjfhaaModDo
import Derived.Test.YthjblniabnjfhaaModStep
namespace Go.Proofs.Ythjblniabnjfhaa
open Go.RowKit
set_option linter.unusedSimpArgs false
set_option linter.unusedVariables false

set_option maxHeartbeats 1000000 in
theorem readsR_any (x : Th) (s : Option Addr) (c : Nat) (w : World) (hF : Fit x) :
    Calls Try.prog 39 #[x.agg s c] w fun e w' => e = .returned (.int .i64 x.sum) ∧ Kept (fun _ => False) w w' := by
  obtain ⟨W1, hW1⟩ : ∃ W1, w.alloc (.cells (x.box s c) 27) = W1 := ⟨_, rfl⟩
  have hT := BoxT.new w x s c
  have hk : Kept (fun _ => False) w (w.alloc (.cells (x.box s c) 27)) := (Kept.refl _ w).alloc _
  rw [hW1] at hT hk
  have HT := Lib.hid hT
  have HK := Lib.hid hk
  have HS : Hid (sumTo x.r 8 = x.sum) := Lib.hid (sum_to x)
  have HR := Lib.hid hF.r0
  have HR1 := Lib.hid hF.r1
  clear hT hk hF
  go_enter Try.func39, Try.ntmps39
  go_wp2_with fail
  go_loopw [3, 4] (fun a i wr => ∃ k : Nat, a = .int .i64 (sumTo x.r k) ∧ i = .int .i64 k ∧ k ≤ 8 ∧ -(2000000 * (k : Int)) ≤ sumTo x.r k ∧ sumTo x.r k ≤ 2000000 * (k : Int) ∧ wr = W1) (fun _ i _ => 8 - (intOf i).toNat)
  case atStart => exact ⟨0, rfl, rfl, by omega, by simp [sumTo], by simp [sumTo], rfl⟩
  case round =>
    obtain ⟨k, rfl, rfl, hk, h0, h1, hwr⟩ := hrel
    subst hwr
    by_cases hkk : k < 8
    · have y0 := HT.out.read hkk
      have e0 := HR.out k hkk
      have e1 := HR1.out k hkk
      have s0 : -16000000 ≤ sumTo x.r k + x.r k := by omega
      have s1 : sumTo x.r k + x.r k ≤ 16000000 := by omega
      have k1 : (k : Int) < 8 := by omega
      have k2 : (k : Int) + 1 ≤ 8 := by omega
      have HB : Hid (-(2000000 * ((k : Int) + 1)) ≤ sumTo x.r k + x.r k ∧ sumTo x.r k + x.r k ≤ 2000000 * ((k : Int) + 1)) := Lib.hid (by omega)
      clear h0 h1 e0 e1
      go_wp2_with fail
      go_roundw
      case rel => exact ⟨k + 1, rfl, by go_num, by omega, by show _ ≤ sumTo x.r k + x.r k; push_cast; exact HB.out.1, by show sumTo x.r k + x.r k ≤ _; push_cast; exact HB.out.2, by first | rfl | trivial⟩
      case measure => simp [intOf]; omega
    · obtain rfl : k = 8 := by omega
      go_wp2_with fail
      go_ret
      exact ⟨by rw [← HS.out]; rfl, HK.out⟩

set_option maxHeartbeats 1000000 in
theorem place_any (x : Th) (t : Int) (s : Option Addr) (c : Nat) (w : World) (hl : x.ws.length ≤ 300) (hE : InW w x s) (v : Int) (hv : atI (firstAt t x.ws) = v) :
    Calls Try.prog 36 #[x.agg s c, .int .i64 t] w fun e w' => e = .returned (.int .i64 v) ∧ Kept (fun _ => False) w w' := by
  obtain ⟨W1, hW1⟩ : ∃ W1, w.alloc (.cells (x.box s c) 27) = W1 := ⟨_, rfl⟩
  have hT := BoxT.new w x s c
  have hk : Kept (fun _ => False) w (w.alloc (.cells (x.box s c) 27)) := (Kept.refl _ w).alloc _
  rw [hW1] at hT hk
  have hE1 := hE.kept0 hk
  obtain ⟨_, _, _, _, _, _, _, _, _, _, _, _, c12, _, _⟩ := hT.cells
  have HK := Lib.hid hk
  have HV := Lib.hid hv
  have HP : Hid (∀ i q, x.ws[i]? = some q → ∃ g off, s = some ⟨g, off, none⟩ ∧ W1.cell? ⟨g, off + i * 2, none⟩ = some (.int .i64 q.thread)) := Lib.hid (fun i q hi => by
    obtain ⟨g, off, e, _, h⟩ := hE1.2 i q hi
    exact ⟨g, off, e, h 0 _ rfl⟩)
  clear hT hk hE hE1 hv
  go_enter Try.func36, Try.ntmps36
  go_wp2_with fail
  go_loopw [5] (fun i wr => ∃ k : Nat, i = .int .i64 k ∧ k ≤ x.ws.length ∧ wr = W1 ∧ ∀ j q, j < k → x.ws[j]? = some q → q.thread ≠ t) (fun i _ => x.ws.length - (intOf i).toNat)
  case atStart => exact ⟨0, rfl, Nat.zero_le _, rfl, fun j q hj => absurd hj (Nat.not_lt_zero _)⟩
  case round =>
    obtain ⟨k, rfl, hk, hwr, hne⟩ := hrel
    subst hwr
    have HNE := Lib.hid hne
    clear hne
    by_cases hkk : k < x.ws.length
    · obtain ⟨q, hq⟩ : ∃ q, x.ws[k]? = some q := ⟨_, List.getElem?_eq_getElem hkk⟩
      obtain ⟨g, off, rfl, y0⟩ := HP.out k q hq
      have HQ := Lib.hid hq
      have k1 : (k : Int) < (x.ws.length : Int) := by omega
      have k2 : (k : Int) + 1 ≤ 301 := by omega
      clear hq hkk
      cases he : (q.thread == t) with
      | true =>
        go_wp2_with fail
        go_ret
        exact ⟨by rw [← HV.out, firstAt_some HQ.out (beq_iff_eq.1 he) HNE.out]; rfl, HK.out⟩
      | false =>
        go_wp2_with fail
        go_roundw
        case rel =>
          refine ⟨k + 1, by go_num, by omega, by first | rfl | trivial, fun j q' hj hq' => ?_⟩
          by_cases e : j = k
          · subst e
            have := HQ.out.symm.trans hq'
            simp only [Option.some.injEq] at this
            subst this
            exact beq_eq_false_iff_ne.1 he
          · exact HNE.out j q' (by omega) hq'
        case measure => simp [intOf]; omega
    · have k1 : ¬ ((k : Int) < (x.ws.length : Int)) := by omega
      go_wp2_with fail
      go_ret
      exact ⟨by rw [← HV.out, firstAt_none (fun j q hj => HNE.out j q (by omega))]; rfl, HK.out⟩

/-- What a call of the document's tells: a thing whose waiters lie in memory. -/
def Said (w : World) (y : Th) (e : Ending) (w' : World) : Prop := ∃ s' c', e = .returned (y.agg s' c') ∧ InW w' y s' ∧ Kept (fun _ => False) w w'

theorem ref_box (x : Th) (s : Option Addr) (c : Nat) (w : World) (hE : InW w x s) : ∃ W1 W2, w.alloc (.cells (x.box s c) 27) = W1 ∧
    W1.alloc (.cells #[.int .i64 0, .int .i64 0, .int .i64 0, .int .i64 0, .int .i64 0, .int .i64 0, .int .i64 0, .int .i64 0, .int .i64 0, .int .i64 0, .int .i64 0, .int .i64 0, .slice none 0 0, .int .i64 0, .int .i64 0] 27) = W2 ∧
    W1.heap.size = w.heap.size + 1 ∧ W2.heap.size = w.heap.size + 1 + 1 ∧ BoxT W2 w.heap.size x s c ∧ BoxT W2 (w.heap.size + 1) zeroTh none 0 ∧ Kept (fun _ => False) w W2 ∧ ElB w.heap.size W2 s x.ws := by
  have k1 : Kept (fun _ => False) w (w.alloc (.cells (x.box s c) 27)) := (Kept.refl _ w).alloc _
  obtain ⟨W1, hW1⟩ : ∃ W1, w.alloc (.cells (x.box s c) 27) = W1 := ⟨_, rfl⟩
  have s1 : W1.heap.size = w.heap.size + 1 := by rw [← hW1]; simp
  have b1 := BoxT.new w x s c
  rw [hW1] at k1 b1
  have b2 := BoxT.fresh W1
  have k2 : Kept (fun _ => False) W1 (W1.alloc (.cells #[.int .i64 0, .int .i64 0, .int .i64 0, .int .i64 0, .int .i64 0, .int .i64 0, .int .i64 0, .int .i64 0, .int .i64 0, .int .i64 0, .int .i64 0, .int .i64 0, .slice none 0 0, .int .i64 0, .int .i64 0] 27)) := (Kept.refl _ _).alloc _
  rw [s1] at b2
  exact ⟨W1, _, hW1, rfl, s1, by simp [s1], b1.kept0 k2, b2, k1.tr0 k2, (show ElB w.heap.size w s x.ws from ⟨Nat.le_refl _, hE⟩).kept0 (k1.tr0 k2)⟩

set_option maxHeartbeats 1000000 in
theorem freed_any (x : Th) (s : Option Addr) (c : Nat) (w : World) (hF : Fit x) (hE : InW w x s) :
    Calls Try.prog 37 #[x.agg s c] w fun e w' => e = .returned ((freeM x).agg s c) ∧ Kept (fun _ => False) w w' := by
  obtain ⟨W1, W2, hW1, hW2, s1, s2, hT, hZ, hk, hEl⟩ := ref_box x s c w hE
  obtain ⟨_, _, c2, c3, _, _, _, _, _, _, _, _, _, _, _⟩ := hT.cells
  have f2 := hT.free 2
  have f3 := hT.free 3
  have b0 : -2000001 ≤ x.holds - 1 := by have := hF.h0; omega
  have b1 : x.holds - 1 ≤ 2000000 := by have := hF.h1; omega
  have hT1 := hT.setHolds (x.holds - 1)
  have hZ1 : BoxT (W2.setCell ⟨w.heap.size, 3, none⟩ (.int .i64 (x.holds - 1))) (w.heap.size + 1) zeroTh none 0 := hZ.kept ((Kept.one w.heap.size W2).sB _ _) (by omega)
  have hT2 := hT1.setOwner (-1)
  have hZ2 : BoxT ((W2.setCell ⟨w.heap.size, 3, none⟩ (.int .i64 (x.holds - 1))).setCell ⟨w.heap.size, 2, none⟩ (.int .i64 (-1))) (w.heap.size + 1) zeroTh none 0 := hZ.kept (((Kept.one w.heap.size W2).sB _ _).sB _ _) (by omega)
  have HKE : Hid (∀ Wa W, Kept (fun k => k = w.heap.size) W2 Wa → Kept (fun k => k = w.heap.size + 1) Wa W → Kept (fun _ => False) w W) := Lib.hid (fun Wa W h1 h2 => by
    have h3 : Kept (fun k => w.heap.size ≤ k) w W := ((hk.mono (T := fun k => w.heap.size ≤ k) (fun _ _ f => f.elim)).trans (h1.mono (T := fun k => w.heap.size ≤ k) (fun _ _ e => by omega)) (fun _ _ e => e)).trans h2 (fun _ _ e => by omega)
    exact ⟨h3.os, h3.tape, h3.output, h3.size, fun k hk2 _ => h3.block k hk2 (by omega)⟩)
  clear hk hEl hZ hT hF hE
  cases q : (x.holds - 1 == 0) with
  | false =>
    have HY : Hid (freeM x = { x with holds := x.holds - 1 }) := Lib.hid (by unfold freeM; rw [q]; rfl)
    rw [HY.out]
    clear hT2 hZ2
    go_enter Try.func37, Try.ntmps37
    go_wp2_with (first | refine wpList_loadT (by rfl) (by rfl) (by rfl) (by assumption) ?_ | (refine wpList_storeT (by rfl) (by rfl) (by rfl) (by rfl) (by assumption) ?_; intro W5 hB5 hk5; obtain ⟨e0, e1, e2, e3, e4, e5, e6, e7, e8, e9, e10, e11, e12, e13, e14⟩ := hB5.cells))
    exact bodyPost_ret (v := Th.agg { x with holds := x.holds - 1 } s c) (by simp [results, Try.results37, go_sem, e0, e1, e2, e3, e4, e5, e6, e7, e8, e9, e10, e11, e12, e13, e14]) rfl ⟨rfl, HKE.out _ _ ((Kept.one w.heap.size W2).sB _ _) hk5⟩
  | true =>
    have HY : Hid (freeM x = { x with holds := x.holds - 1, owner := -1 }) := Lib.hid (by unfold freeM; rw [q]; rfl)
    rw [HY.out]
    clear hT1 hZ1
    go_enter Try.func37, Try.ntmps37
    go_wp2_with (first | refine wpList_loadT (by rfl) (by rfl) (by rfl) (by assumption) ?_ | (refine wpList_storeT (by rfl) (by rfl) (by rfl) (by rfl) (by assumption) ?_; intro W5 hB5 hk5; obtain ⟨e0, e1, e2, e3, e4, e5, e6, e7, e8, e9, e10, e11, e12, e13, e14⟩ := hB5.cells))
    exact bodyPost_ret (v := Th.agg { x with holds := x.holds - 1, owner := -1 } s c) (by simp [results, Try.results37, go_sem, e0, e1, e2, e3, e4, e5, e6, e7, e8, e9, e10, e11, e12, e13, e14]) rfl ⟨rfl, HKE.out _ _ (((Kept.one w.heap.size W2).sB _ _).sB _ _) hk5⟩

end Go.Proofs.Ythjblniabnjfhaa
