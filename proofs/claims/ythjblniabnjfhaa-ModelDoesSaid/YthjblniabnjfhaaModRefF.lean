/-
  The document's answer of layer 10: Can, by what it calls.
  Conditions: no count is beyond two millions; the waiters lie in memory.
-/
import Derived.Test.YthjblniabnjfhaaModRefK
import Derived.Test.YthjblniabnjfhaaModCan
namespace Go.Proofs.Ythjblniabnjfhaa
open Go.RowKit
set_option linter.unusedSimpArgs false
set_option linter.unusedVariables false

theorem rcan_box (x : Th) (s : Option Addr) (c : Nat) (k o n wt : Int) (br : Bool) (w : World) (hE : InW w x s) : ∃ W1 W2, w.alloc (.cells (x.box s c) 27) = W1 ∧ W1.alloc (.cells #[.int .i64 k, .int .i64 o, .int .i64 n, .int .i64 wt, .bool br] 31) = W2 ∧
    W1.heap.size = w.heap.size + 1 ∧ W2.heap.size = w.heap.size + 2 ∧ BoxT W2 w.heap.size x s c ∧ W2.heap[w.heap.size + 1]? = some (.cells #[.int .i64 k, .int .i64 o, .int .i64 n, .int .i64 wt, .bool br] 31 (0, 0)) ∧ Kept (fun _ => False) w W2 ∧ InW W2 x s := by
  have k1 : Kept (fun _ => False) w (w.alloc (.cells (x.box s c) 27)) := (Kept.refl _ w).alloc _
  obtain ⟨W1, hW1⟩ : ∃ W1, w.alloc (.cells (x.box s c) 27) = W1 := ⟨_, rfl⟩
  have s1 : W1.heap.size = w.heap.size + 1 := by rw [← hW1]; simp
  have b1 := BoxT.new w x s c
  rw [hW1] at k1 b1
  have k2 : Kept (fun _ => False) W1 (W1.alloc (.cells #[.int .i64 k, .int .i64 o, .int .i64 n, .int .i64 wt, .bool br] 31)) := (Kept.refl _ W1).alloc _
  have b2 := heap_new1 W1 (.cells #[.int .i64 k, .int .i64 o, .int .i64 n, .int .i64 wt, .bool br] 31)
  rw [s1] at b2
  exact ⟨W1, _, hW1, rfl, s1, by simp [s1], b1.kept0 k2, b2, k1.tr0 k2, (hE.kept0 k1).kept0 k2⟩

theorem belF0 {w w4 WS : World} {o : Obj} (h : Kept (fun _ => False) w w4) (hk : Kept (fun k => k = w4.heap.size) (w4.alloc o) WS) : Kept (fun _ => False) w WS := by
  have h1 : Kept (fun k => w.heap.size ≤ k) w WS := ((h.alloc o).mono (T := fun k => w.heap.size ≤ k) (fun _ _ f => f.elim)).trans hk (fun k _ e => by have := h.size; omega)
  exact ⟨h1.os, h1.tape, h1.output, h1.size, fun k hk2 _ => h1.block k hk2 (by omega)⟩

set_option maxHeartbeats 4000000 in
set_option maxRecDepth 100000 in
theorem rcan_1 (x : Th) (t o n wt : Int) (br : Bool) (s : Option Addr) (c : Nat) (w : World) (hE : InW w x s) (h0 : ¬ t < 0) (h7 : ¬ 7 < t) (y : Th) (ok r : Bool) (hr : (x.kind == 1 && ok) = r) (HC : Hid (∀ w', InW w' x s → Calls Try.prog 15 #[x.agg s c, .int .i64 t, .agg #[.int .i64 1, .int .i64 1]] w' (SaidB w' s x.ws y ok))) :
    Calls Try.prog 18 #[x.agg s c, .int .i64 t, opAgg 1 o n wt br] w fun e w' => e = .returned (.bool r) ∧ Kept (fun _ => False) w w' := by
  obtain ⟨W1, W2, hW1, hW2, s1, s2, hT, hO, hk, hi⟩ := rcan_box x s c 1 o n wt br w hE
  obtain ⟨c0, c1, c2, c3, c4, c5, c6, c7, c8, c9, c10, c11, c12, c13, c14⟩ := hT.cells
  obtain ⟨o0, o1, o2, o3, o4⟩ := op_cells hO
  have HT := Lib.hid hT
  have HI := Lib.hid hi
  have HK := Lib.hid hk
  clear hk hi hE hO
  have HR := Lib.hid hr
  clear hr
  have hTn := HT.out
  cases hkd : (x.kind == 1) with
  | false =>
      go_enter Try.func18, Try.ntmps18
      go_wp2_with (first | refine wpList_loadT (by rfl) (by rfl) (by rfl) (by first | assumption | exact BoxT.past (by assumption) _) ?_)
      refine (HC.out _ (HI.out.kept0 ((Kept.refl _ _).alloc _))).mono ?_
      rintro e w4 ⟨s', c', rfl, -, hk4⟩
      have HT4 := Lib.hid ((hTn.kept0 ((Kept.refl _ _).alloc _)).kept0 hk4)
      have HK4 := Lib.hid ((HK.out.alloc _).tr0 hk4)
      clear hk4 hTn c0
      go_wp2_with (first | (refine wpList_storeT (by rfl) (by rfl) (by rfl) (by rfl) (BoxT.fresh _) ?_; intro WS hBS hKS; have c0 := (HT4.out.stepF hKS).cells.c0; have HKS := Lib.hid (belF0 HK4.out hKS); clear hKS hBS))
      go_ret
      exact ⟨by rw [← HR.out, hkd]; rfl, HKS.out⟩
  | true =>
      go_enter Try.func18, Try.ntmps18
      go_wp2_with (first | refine wpList_loadT (by rfl) (by rfl) (by rfl) (by first | assumption | exact BoxT.past (by assumption) _) ?_)
      refine (HC.out _ (HI.out.kept0 ((Kept.refl _ _).alloc _))).mono ?_
      rintro e w4 ⟨s', c', rfl, -, hk4⟩
      have HT4 := Lib.hid ((hTn.kept0 ((Kept.refl _ _).alloc _)).kept0 hk4)
      have HK4 := Lib.hid ((HK.out.alloc _).tr0 hk4)
      clear hk4 hTn c0
      go_wp2_with (first | (refine wpList_storeT (by rfl) (by rfl) (by rfl) (by rfl) (BoxT.fresh _) ?_; intro WS hBS hKS; have c0 := (HT4.out.stepF hKS).cells.c0; have HKS := Lib.hid (belF0 HK4.out hKS); clear hKS hBS))
      go_ret
      exact ⟨by rw [← HR.out, hkd]; rfl, HKS.out⟩

set_option maxHeartbeats 4000000 in
set_option maxRecDepth 100000 in
theorem rcan_4 (x : Th) (t o n wt : Int) (br : Bool) (s : Option Addr) (c : Nat) (w : World) (hE : InW w x s) (h0 : ¬ t < 0) (h7 : ¬ 7 < t) (y : Th) (ok r : Bool) (hr : (x.kind == 2 && ok) = r) (HC : Hid (∀ w', InW w' x s → Calls Try.prog 15 #[x.agg s c, .int .i64 t, .agg #[.int .i64 1, .int .i64 n]] w' (SaidB w' s x.ws y ok))) :
    Calls Try.prog 18 #[x.agg s c, .int .i64 t, opAgg 4 o n wt br] w fun e w' => e = .returned (.bool r) ∧ Kept (fun _ => False) w w' := by
  obtain ⟨W1, W2, hW1, hW2, s1, s2, hT, hO, hk, hi⟩ := rcan_box x s c 4 o n wt br w hE
  obtain ⟨c0, c1, c2, c3, c4, c5, c6, c7, c8, c9, c10, c11, c12, c13, c14⟩ := hT.cells
  obtain ⟨o0, o1, o2, o3, o4⟩ := op_cells hO
  have HT := Lib.hid hT
  have HI := Lib.hid hi
  have HK := Lib.hid hk
  clear hk hi hE hO
  have HR := Lib.hid hr
  clear hr
  have hTn := HT.out
  cases hkd : (x.kind == 2) with
  | false =>
      go_enter Try.func18, Try.ntmps18
      go_wp2_with (first | refine wpList_loadT (by rfl) (by rfl) (by rfl) (by first | assumption | exact BoxT.past (by assumption) _) ?_)
      refine (HC.out _ (HI.out.kept0 ((Kept.refl _ _).alloc _))).mono ?_
      rintro e w4 ⟨s', c', rfl, -, hk4⟩
      have HT4 := Lib.hid ((hTn.kept0 ((Kept.refl _ _).alloc _)).kept0 hk4)
      have HK4 := Lib.hid ((HK.out.alloc _).tr0 hk4)
      clear hk4 hTn c0
      go_wp2_with (first | (refine wpList_storeT (by rfl) (by rfl) (by rfl) (by rfl) (BoxT.fresh _) ?_; intro WS hBS hKS; have c0 := (HT4.out.stepF hKS).cells.c0; have HKS := Lib.hid (belF0 HK4.out hKS); clear hKS hBS))
      go_ret
      exact ⟨by rw [← HR.out, hkd]; rfl, HKS.out⟩
  | true =>
      go_enter Try.func18, Try.ntmps18
      go_wp2_with (first | refine wpList_loadT (by rfl) (by rfl) (by rfl) (by first | assumption | exact BoxT.past (by assumption) _) ?_)
      refine (HC.out _ (HI.out.kept0 ((Kept.refl _ _).alloc _))).mono ?_
      rintro e w4 ⟨s', c', rfl, -, hk4⟩
      have HT4 := Lib.hid ((hTn.kept0 ((Kept.refl _ _).alloc _)).kept0 hk4)
      have HK4 := Lib.hid ((HK.out.alloc _).tr0 hk4)
      clear hk4 hTn c0
      go_wp2_with (first | (refine wpList_storeT (by rfl) (by rfl) (by rfl) (by rfl) (BoxT.fresh _) ?_; intro WS hBS hKS; have c0 := (HT4.out.stepF hKS).cells.c0; have HKS := Lib.hid (belF0 HK4.out hKS); clear hKS hBS))
      go_ret
      exact ⟨by rw [← HR.out, hkd]; rfl, HKS.out⟩

set_option maxHeartbeats 4000000 in
set_option maxRecDepth 100000 in
theorem rcan_8 (x : Th) (t o n wt : Int) (br : Bool) (s : Option Addr) (c : Nat) (w : World) (hE : InW w x s) (h0 : ¬ t < 0) (h7 : ¬ 7 < t) (y : Th) (ok r : Bool) (hr : (x.kind == 3 && ok) = r) (HC : Hid (∀ w', InW w' x s → Calls Try.prog 15 #[x.agg s c, .int .i64 t, .agg #[.int .i64 1, .int .i64 0]] w' (SaidB w' s x.ws y ok))) :
    Calls Try.prog 18 #[x.agg s c, .int .i64 t, opAgg 8 o n wt br] w fun e w' => e = .returned (.bool r) ∧ Kept (fun _ => False) w w' := by
  obtain ⟨W1, W2, hW1, hW2, s1, s2, hT, hO, hk, hi⟩ := rcan_box x s c 8 o n wt br w hE
  obtain ⟨c0, c1, c2, c3, c4, c5, c6, c7, c8, c9, c10, c11, c12, c13, c14⟩ := hT.cells
  obtain ⟨o0, o1, o2, o3, o4⟩ := op_cells hO
  have HT := Lib.hid hT
  have HI := Lib.hid hi
  have HK := Lib.hid hk
  clear hk hi hE hO
  have HR := Lib.hid hr
  clear hr
  have hTn := HT.out
  cases hkd : (x.kind == 3) with
  | false =>
      go_enter Try.func18, Try.ntmps18
      go_wp2_with (first | refine wpList_loadT (by rfl) (by rfl) (by rfl) (by first | assumption | exact BoxT.past (by assumption) _) ?_)
      refine (HC.out _ (HI.out.kept0 ((Kept.refl _ _).alloc _))).mono ?_
      rintro e w4 ⟨s', c', rfl, -, hk4⟩
      have HT4 := Lib.hid ((hTn.kept0 ((Kept.refl _ _).alloc _)).kept0 hk4)
      have HK4 := Lib.hid ((HK.out.alloc _).tr0 hk4)
      clear hk4 hTn c0
      go_wp2_with (first | (refine wpList_storeT (by rfl) (by rfl) (by rfl) (by rfl) (BoxT.fresh _) ?_; intro WS hBS hKS; have c0 := (HT4.out.stepF hKS).cells.c0; have HKS := Lib.hid (belF0 HK4.out hKS); clear hKS hBS))
      go_ret
      exact ⟨by rw [← HR.out, hkd]; rfl, HKS.out⟩
  | true =>
      go_enter Try.func18, Try.ntmps18
      go_wp2_with (first | refine wpList_loadT (by rfl) (by rfl) (by rfl) (by first | assumption | exact BoxT.past (by assumption) _) ?_)
      refine (HC.out _ (HI.out.kept0 ((Kept.refl _ _).alloc _))).mono ?_
      rintro e w4 ⟨s', c', rfl, -, hk4⟩
      have HT4 := Lib.hid ((hTn.kept0 ((Kept.refl _ _).alloc _)).kept0 hk4)
      have HK4 := Lib.hid ((HK.out.alloc _).tr0 hk4)
      clear hk4 hTn c0
      go_wp2_with (first | (refine wpList_storeT (by rfl) (by rfl) (by rfl) (by rfl) (BoxT.fresh _) ?_; intro WS hBS hKS; have c0 := (HT4.out.stepF hKS).cells.c0; have HKS := Lib.hid (belF0 HK4.out hKS); clear hKS hBS))
      go_ret
      exact ⟨by rw [← HR.out, hkd]; rfl, HKS.out⟩

set_option maxHeartbeats 4000000 in
set_option maxRecDepth 100000 in
theorem rcan_10 (x : Th) (t o n wt : Int) (br : Bool) (s : Option Addr) (c : Nat) (w : World) (hE : InW w x s) (h0 : ¬ t < 0) (h7 : ¬ 7 < t) (y : Th) (ok r : Bool) (hr : (x.kind == 4 && ok) = r) (HC : Hid (∀ w', InW w' x s → Calls Try.prog 15 #[x.agg s c, .int .i64 t, .agg #[.int .i64 2, .int .i64 0]] w' (SaidB w' s x.ws y ok))) :
    Calls Try.prog 18 #[x.agg s c, .int .i64 t, opAgg 10 o n wt br] w fun e w' => e = .returned (.bool r) ∧ Kept (fun _ => False) w w' := by
  obtain ⟨W1, W2, hW1, hW2, s1, s2, hT, hO, hk, hi⟩ := rcan_box x s c 10 o n wt br w hE
  obtain ⟨c0, c1, c2, c3, c4, c5, c6, c7, c8, c9, c10, c11, c12, c13, c14⟩ := hT.cells
  obtain ⟨o0, o1, o2, o3, o4⟩ := op_cells hO
  have HT := Lib.hid hT
  have HI := Lib.hid hi
  have HK := Lib.hid hk
  clear hk hi hE hO
  have HR := Lib.hid hr
  clear hr
  have hTn := HT.out
  cases hkd : (x.kind == 4) with
  | false =>
      go_enter Try.func18, Try.ntmps18
      go_wp2_with (first | refine wpList_loadT (by rfl) (by rfl) (by rfl) (by first | assumption | exact BoxT.past (by assumption) _) ?_)
      refine (HC.out _ (HI.out.kept0 ((Kept.refl _ _).alloc _))).mono ?_
      rintro e w4 ⟨s', c', rfl, -, hk4⟩
      have HT4 := Lib.hid ((hTn.kept0 ((Kept.refl _ _).alloc _)).kept0 hk4)
      have HK4 := Lib.hid ((HK.out.alloc _).tr0 hk4)
      clear hk4 hTn c0
      go_wp2_with (first | (refine wpList_storeT (by rfl) (by rfl) (by rfl) (by rfl) (BoxT.fresh _) ?_; intro WS hBS hKS; have c0 := (HT4.out.stepF hKS).cells.c0; have HKS := Lib.hid (belF0 HK4.out hKS); clear hKS hBS))
      go_ret
      exact ⟨by rw [← HR.out, hkd]; rfl, HKS.out⟩
  | true =>
      go_enter Try.func18, Try.ntmps18
      go_wp2_with (first | refine wpList_loadT (by rfl) (by rfl) (by rfl) (by first | assumption | exact BoxT.past (by assumption) _) ?_)
      refine (HC.out _ (HI.out.kept0 ((Kept.refl _ _).alloc _))).mono ?_
      rintro e w4 ⟨s', c', rfl, -, hk4⟩
      have HT4 := Lib.hid ((hTn.kept0 ((Kept.refl _ _).alloc _)).kept0 hk4)
      have HK4 := Lib.hid ((HK.out.alloc _).tr0 hk4)
      clear hk4 hTn c0
      go_wp2_with (first | (refine wpList_storeT (by rfl) (by rfl) (by rfl) (by rfl) (BoxT.fresh _) ?_; intro WS hBS hKS; have c0 := (HT4.out.stepF hKS).cells.c0; have HKS := Lib.hid (belF0 HK4.out hKS); clear hKS hBS))
      go_ret
      exact ⟨by rw [← HR.out, hkd]; rfl, HKS.out⟩

set_option maxHeartbeats 4000000 in
set_option maxRecDepth 100000 in
theorem rcan_13 (x : Th) (t o n wt : Int) (br : Bool) (s : Option Addr) (c : Nat) (w : World) (hE : InW w x s) (h0 : ¬ t < 0) (h7 : ¬ 7 < t) (y : Th) (ok r : Bool) (hr : (x.kind == 4 && ok) = r) (HC : Hid (∀ w', InW w' x s → Calls Try.prog 15 #[x.agg s c, .int .i64 t, .agg #[.int .i64 1, .int .i64 1]] w' (SaidB w' s x.ws y ok))) :
    Calls Try.prog 18 #[x.agg s c, .int .i64 t, opAgg 13 o n wt br] w fun e w' => e = .returned (.bool r) ∧ Kept (fun _ => False) w w' := by
  obtain ⟨W1, W2, hW1, hW2, s1, s2, hT, hO, hk, hi⟩ := rcan_box x s c 13 o n wt br w hE
  obtain ⟨c0, c1, c2, c3, c4, c5, c6, c7, c8, c9, c10, c11, c12, c13, c14⟩ := hT.cells
  obtain ⟨o0, o1, o2, o3, o4⟩ := op_cells hO
  have HT := Lib.hid hT
  have HI := Lib.hid hi
  have HK := Lib.hid hk
  clear hk hi hE hO
  have HR := Lib.hid hr
  clear hr
  have hTn := HT.out
  cases hkd : (x.kind == 4) with
  | false =>
      go_enter Try.func18, Try.ntmps18
      go_wp2_with (first | refine wpList_loadT (by rfl) (by rfl) (by rfl) (by first | assumption | exact BoxT.past (by assumption) _) ?_)
      refine (HC.out _ (HI.out.kept0 ((Kept.refl _ _).alloc _))).mono ?_
      rintro e w4 ⟨s', c', rfl, -, hk4⟩
      have HT4 := Lib.hid ((hTn.kept0 ((Kept.refl _ _).alloc _)).kept0 hk4)
      have HK4 := Lib.hid ((HK.out.alloc _).tr0 hk4)
      clear hk4 hTn c0
      go_wp2_with (first | (refine wpList_storeT (by rfl) (by rfl) (by rfl) (by rfl) (BoxT.fresh _) ?_; intro WS hBS hKS; have c0 := (HT4.out.stepF hKS).cells.c0; have HKS := Lib.hid (belF0 HK4.out hKS); clear hKS hBS))
      go_ret
      exact ⟨by rw [← HR.out, hkd]; rfl, HKS.out⟩
  | true =>
      go_enter Try.func18, Try.ntmps18
      go_wp2_with (first | refine wpList_loadT (by rfl) (by rfl) (by rfl) (by first | assumption | exact BoxT.past (by assumption) _) ?_)
      refine (HC.out _ (HI.out.kept0 ((Kept.refl _ _).alloc _))).mono ?_
      rintro e w4 ⟨s', c', rfl, -, hk4⟩
      have HT4 := Lib.hid ((hTn.kept0 ((Kept.refl _ _).alloc _)).kept0 hk4)
      have HK4 := Lib.hid ((HK.out.alloc _).tr0 hk4)
      clear hk4 hTn c0
      go_wp2_with (first | (refine wpList_storeT (by rfl) (by rfl) (by rfl) (by rfl) (BoxT.fresh _) ?_; intro WS hBS hKS; have c0 := (HT4.out.stepF hKS).cells.c0; have HKS := Lib.hid (belF0 HK4.out hKS); clear hKS hBS))
      go_ret
      exact ⟨by rw [← HR.out, hkd]; rfl, HKS.out⟩

set_option maxHeartbeats 4000000 in
set_option maxRecDepth 100000 in
theorem rcan_no (x : Th) (t k o n wt : Int) (br : Bool) (s : Option Addr) (c : Nat) (w : World) (hE : InW w x s) (h0 : ¬ t < 0) (h7 : ¬ 7 < t) (q1 : (k == 1) = false) (q4 : (k == 4) = false) (q8 : (k == 8) = false) (q10 : (k == 10) = false) (q13 : (k == 13) = false) (q19 : (k == 19) = false) (y : Th) (ok r : Bool) (hr : (x.kind == 0 && ok) = r) (HC : Hid (∀ w', InW w' x s → Calls Try.prog 15 #[x.agg s c, .int .i64 t, .agg #[.int .i64 1, .int .i64 0]] w' (SaidB w' s x.ws y ok))) :
    Calls Try.prog 18 #[x.agg s c, .int .i64 t, opAgg k o n wt br] w fun e w' => e = .returned (.bool r) ∧ Kept (fun _ => False) w w' := by
  obtain ⟨W1, W2, hW1, hW2, s1, s2, hT, hO, hk, hi⟩ := rcan_box x s c k o n wt br w hE
  obtain ⟨c0, c1, c2, c3, c4, c5, c6, c7, c8, c9, c10, c11, c12, c13, c14⟩ := hT.cells
  obtain ⟨o0, o1, o2, o3, o4⟩ := op_cells hO
  have HT := Lib.hid hT
  have HI := Lib.hid hi
  have HK := Lib.hid hk
  clear hk hi hE hO
  have HR := Lib.hid hr
  clear hr
  have hTn := HT.out
  cases hkd : (x.kind == 0) with
  | false =>
      go_enter Try.func18, Try.ntmps18
      go_wp2_with (first | refine wpList_loadT (by rfl) (by rfl) (by rfl) (by first | assumption | exact BoxT.past (by assumption) _) ?_)
      refine (HC.out _ (HI.out.kept0 ((Kept.refl _ _).alloc _))).mono ?_
      rintro e w4 ⟨s', c', rfl, -, hk4⟩
      have HT4 := Lib.hid ((hTn.kept0 ((Kept.refl _ _).alloc _)).kept0 hk4)
      have HK4 := Lib.hid ((HK.out.alloc _).tr0 hk4)
      clear hk4 hTn c0
      go_wp2_with (first | (refine wpList_storeT (by rfl) (by rfl) (by rfl) (by rfl) (BoxT.fresh _) ?_; intro WS hBS hKS; have c0 := (HT4.out.stepF hKS).cells.c0; have HKS := Lib.hid (belF0 HK4.out hKS); clear hKS hBS))
      go_ret
      exact ⟨by rw [← HR.out, hkd]; rfl, HKS.out⟩
  | true =>
      go_enter Try.func18, Try.ntmps18
      go_wp2_with (first | refine wpList_loadT (by rfl) (by rfl) (by rfl) (by first | assumption | exact BoxT.past (by assumption) _) ?_)
      refine (HC.out _ (HI.out.kept0 ((Kept.refl _ _).alloc _))).mono ?_
      rintro e w4 ⟨s', c', rfl, -, hk4⟩
      have HT4 := Lib.hid ((hTn.kept0 ((Kept.refl _ _).alloc _)).kept0 hk4)
      have HK4 := Lib.hid ((HK.out.alloc _).tr0 hk4)
      clear hk4 hTn c0
      go_wp2_with (first | (refine wpList_storeT (by rfl) (by rfl) (by rfl) (by rfl) (BoxT.fresh _) ?_; intro WS hBS hKS; have c0 := (HT4.out.stepF hKS).cells.c0; have HKS := Lib.hid (belF0 HK4.out hKS); clear hKS hBS))
      go_ret
      exact ⟨by rw [← HR.out, hkd]; rfl, HKS.out⟩

set_option maxHeartbeats 4000000 in
set_option maxRecDepth 100000 in
theorem rcan_19 (x : Th) (t o n wt : Int) (br : Bool) (s : Option Addr) (c : Nat) (w : World) (hE : InW w x s) (h0 : ¬ t < 0) (h7 : ¬ 7 < t) (r : Bool) (hr : (x.kind == 5 && x.offer != -1 && x.offer != t) = r) :
    Calls Try.prog 18 #[x.agg s c, .int .i64 t, opAgg 19 o n wt br] w fun e w' => e = .returned (.bool r) ∧ Kept (fun _ => False) w w' := by
  obtain ⟨W1, W2, hW1, hW2, s1, s2, hT, hO, hk, hi⟩ := rcan_box x s c 19 o n wt br w hE
  obtain ⟨c0, c1, c2, c3, c4, c5, c6, c7, c8, c9, c10, c11, c12, c13, c14⟩ := hT.cells
  obtain ⟨o0, o1, o2, o3, o4⟩ := op_cells hO
  have HT := Lib.hid hT
  have HI := Lib.hid hi
  have HK := Lib.hid hk
  clear hk hi hE hO
  cases h1 : (x.kind == 5) with
  | false =>
    obtain rfl : r = false := by rw [← hr]; simp only [h1, Bool.and_true, Bool.true_and, Bool.false_and, Bool.and_false, Bool.or_true, Bool.true_or, Bool.false_or, Bool.or_false, Bool.not_true, Bool.not_false]
    clear hr
    go_enter Try.func18, Try.ntmps18
    go_wp2_with fail
    go_ret
    exact ⟨rfl, HK.out⟩
  | true =>
    cases h2 : (x.offer != -1) with
    | false =>
      obtain rfl : r = false := by rw [← hr]; simp only [h1, h2, Bool.and_true, Bool.true_and, Bool.false_and, Bool.and_false, Bool.or_true, Bool.true_or, Bool.false_or, Bool.or_false, Bool.not_true, Bool.not_false]
      clear hr
      go_enter Try.func18, Try.ntmps18
      go_wp2_with fail
      go_ret
      exact ⟨rfl, HK.out⟩
    | true =>
      cases h3 : (x.offer != t) with
      | false =>
        obtain rfl : r = false := by rw [← hr]; simp only [h1, h2, h3, Bool.and_true, Bool.true_and, Bool.false_and, Bool.and_false, Bool.or_true, Bool.true_or, Bool.false_or, Bool.or_false, Bool.not_true, Bool.not_false]
        clear hr
        go_enter Try.func18, Try.ntmps18
        go_wp2_with fail
        go_ret
        exact ⟨rfl, HK.out⟩
      | true =>
        obtain rfl : r = true := by rw [← hr]; simp only [h1, h2, h3, Bool.and_true, Bool.true_and, Bool.false_and, Bool.and_false, Bool.or_true, Bool.true_or, Bool.false_or, Bool.or_false, Bool.not_true, Bool.not_false]
        clear hr
        go_enter Try.func18, Try.ntmps18
        go_wp2_with fail
        go_ret
        exact ⟨rfl, HK.out⟩

set_option maxHeartbeats 4000000 in
set_option maxRecDepth 100000 in
theorem rcan_t0 (x : Th) (t k o n wt : Int) (br : Bool) (s : Option Addr) (c : Nat) (w : World) (hE : InW w x s) (h0 : t < 0) :
    Calls Try.prog 18 #[x.agg s c, .int .i64 t, opAgg k o n wt br] w fun e w' => e = .returned (.bool false) ∧ Kept (fun _ => False) w w' := by
  obtain ⟨W1, W2, hW1, hW2, s1, s2, hT, hO, hk, hi⟩ := rcan_box x s c k o n wt br w hE
  obtain ⟨c0, c1, c2, c3, c4, c5, c6, c7, c8, c9, c10, c11, c12, c13, c14⟩ := hT.cells
  obtain ⟨o0, o1, o2, o3, o4⟩ := op_cells hO
  have HT := Lib.hid hT
  have HI := Lib.hid hi
  have HK := Lib.hid hk
  clear hk hi hE hO
  go_enter Try.func18, Try.ntmps18
  go_wp2_with fail
  go_ret
  exact ⟨rfl, HK.out⟩

set_option maxHeartbeats 4000000 in
set_option maxRecDepth 100000 in
theorem rcan_t7 (x : Th) (t k o n wt : Int) (br : Bool) (s : Option Addr) (c : Nat) (w : World) (hE : InW w x s) (h0 : ¬ t < 0) (h7 : 7 < t) :
    Calls Try.prog 18 #[x.agg s c, .int .i64 t, opAgg k o n wt br] w fun e w' => e = .returned (.bool false) ∧ Kept (fun _ => False) w w' := by
  obtain ⟨W1, W2, hW1, hW2, s1, s2, hT, hO, hk, hi⟩ := rcan_box x s c k o n wt br w hE
  obtain ⟨c0, c1, c2, c3, c4, c5, c6, c7, c8, c9, c10, c11, c12, c13, c14⟩ := hT.cells
  obtain ⟨o0, o1, o2, o3, o4⟩ := op_cells hO
  have HT := Lib.hid hT
  have HI := Lib.hid hi
  have HK := Lib.hid hk
  clear hk hi hE hO
  go_enter Try.func18, Try.ntmps18
  go_wp2_with fail
  go_ret
  exact ⟨rfl, HK.out⟩

end Go.Proofs.Ythjblniabnjfhaa
