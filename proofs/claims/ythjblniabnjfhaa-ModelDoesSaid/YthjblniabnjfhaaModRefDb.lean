/-
  The document's answer of layer 10: Do, where it calls.
  Conditions: no count is beyond two millions; the waiters lie in memory.
-/
import Derived.Test.YthjblniabnjfhaaModRefD
import Derived.Deep.RegionHeld3
import Derived.Deep.Cut
import Derived.Deep.CutRange
import Derived.Deep.DeepCutAuto
import Derived.LoopTactic
namespace Go.Proofs.Ythjblniabnjfhaa
open Go.RowKit
set_option linter.unusedSimpArgs false
set_option linter.unusedVariables false

set_option maxHeartbeats 4000000 in
set_option maxRecDepth 100000 in
theorem rdo_1 (x : Th) (t k v : Int) (s : Option Addr) (c : Nat) (w : World) (hE : InW w x s) (h0 : ¬ t < 0) (h7 : ¬ 7 < t) (k1 : ¬ x.kind < 1) (k5 : ¬ 5 < x.kind) (h17 : (k == 17) = false) (e1 : (x.kind == 1) = true) (e2 : (x.kind == 2) = false) (e3 : (x.kind == 3) = false) (e4 : (x.kind == 4) = false) (y : Th) (r : Bool) (HC : Hid (∀ w', InW w' x s → Calls Try.prog 22 #[x.agg s c, .int .i64 t, .int .i64 k, .int .i64 v] w' (SaidB w' s x.ws y r))) :
    Calls Try.prog 15 #[x.agg s c, .int .i64 t, .agg #[.int .i64 k, .int .i64 v]] w (SaidB w s x.ws y r) := by
  obtain ⟨W1, W2, W3, hW1, hW2, hW3, s1, s2, s3, hT, hN, hZ, hk, hi⟩ := rdo_box x s c k v w hE
  obtain ⟨c0, c1, c2, c3, c4, c5, c6, c7, c8, c9, c10, c11, c12, c13, c14⟩ := hT.cells
  obtain ⟨d0, d1⟩ := hN.cells
  have f1 := hT.free 1
  have HT := Lib.hid hT
  have HZ := Lib.hid hZ
  have HN := Lib.hid hN
  have HI := Lib.hid hi
  have HSZ : Hid (W3.heap.size = w.heap.size + 3) := Lib.hid s3
  have HK : Hid (Kept (fun k => w.heap.size ≤ k) w W3) := Lib.hid (hk.mono (fun _ _ f => f.elim))
  clear hT hN hZ hk hi hE s3
  have hTn := HT.out
  go_enter Try.func15, Try.ntmps15
  go_wp2_with (first | refine wpList_loadT (by rfl) (by rfl) (by rfl) (by assumption) ?_)
  refine (HC.out _ HI.out).mono ?_
  rintro e w4 ⟨s', c', rfl, hsrc, hk4⟩
  have hZn := HZ.out.kept0 hk4
  have HSRC : Hid ((s' = s ∧ y.ws = x.ws) ∨ NewW (w.heap.size + 3) w4 s' c' y.ws) := Lib.hid (by rw [← HSZ.out]; exact hsrc)
  have HK4 : Hid (Kept (fun k => w.heap.size ≤ k) w w4) := Lib.hid (HK.out.trans (hk4.mono (fun _ _ f => f.elim)) (fun _ _ e => e))
  clear hsrc hk4
  go_wp2_with (first | (refine wpList_storeT (by rfl) (by rfl) (by rfl) (by rfl) (by assumption) ?_; intro W5 hB5 hk5; obtain ⟨e0, e1, e2, e3, e4, e5, e6, e7, e8, e9, e10, e11, e12, e13, e14⟩ := hB5.cells))
  exact bodyPost_ret (v := .tuple #[Th.agg y s' c', .bool r]) (by simp [results, Try.results15, go_sem, e0, e1, e2, e3, e4, e5, e6, e7, e8, e9, e10, e11, e12, e13, e14]) rfl (fin_do HK4.out HSRC.out hk5)

set_option maxHeartbeats 4000000 in
set_option maxRecDepth 100000 in
theorem rdo_2 (x : Th) (t k v : Int) (s : Option Addr) (c : Nat) (w : World) (hE : InW w x s) (h0 : ¬ t < 0) (h7 : ¬ 7 < t) (k1 : ¬ x.kind < 1) (k5 : ¬ 5 < x.kind) (h17 : (k == 17) = false) (e1 : (x.kind == 1) = false) (e2 : (x.kind == 2) = true) (e3 : (x.kind == 3) = false) (e4 : (x.kind == 4) = false) (y : Th) (r : Bool) (HC : Hid (∀ w', InW w' x s → Calls Try.prog 23 #[x.agg s c, .int .i64 k, .int .i64 v] w' (SaidB w' s x.ws y r))) :
    Calls Try.prog 15 #[x.agg s c, .int .i64 t, .agg #[.int .i64 k, .int .i64 v]] w (SaidB w s x.ws y r) := by
  obtain ⟨W1, W2, W3, hW1, hW2, hW3, s1, s2, s3, hT, hN, hZ, hk, hi⟩ := rdo_box x s c k v w hE
  obtain ⟨c0, c1, c2, c3, c4, c5, c6, c7, c8, c9, c10, c11, c12, c13, c14⟩ := hT.cells
  obtain ⟨d0, d1⟩ := hN.cells
  have f1 := hT.free 1
  have HT := Lib.hid hT
  have HZ := Lib.hid hZ
  have HN := Lib.hid hN
  have HI := Lib.hid hi
  have HSZ : Hid (W3.heap.size = w.heap.size + 3) := Lib.hid s3
  have HK : Hid (Kept (fun k => w.heap.size ≤ k) w W3) := Lib.hid (hk.mono (fun _ _ f => f.elim))
  clear hT hN hZ hk hi hE s3
  have hTn := HT.out
  go_enter Try.func15, Try.ntmps15
  go_wp2_with (first | refine wpList_loadT (by rfl) (by rfl) (by rfl) (by assumption) ?_)
  refine (HC.out _ HI.out).mono ?_
  rintro e w4 ⟨s', c', rfl, hsrc, hk4⟩
  have hZn := HZ.out.kept0 hk4
  have HSRC : Hid ((s' = s ∧ y.ws = x.ws) ∨ NewW (w.heap.size + 3) w4 s' c' y.ws) := Lib.hid (by rw [← HSZ.out]; exact hsrc)
  have HK4 : Hid (Kept (fun k => w.heap.size ≤ k) w w4) := Lib.hid (HK.out.trans (hk4.mono (fun _ _ f => f.elim)) (fun _ _ e => e))
  clear hsrc hk4
  go_wp2_with (first | (refine wpList_storeT (by rfl) (by rfl) (by rfl) (by rfl) (by assumption) ?_; intro W5 hB5 hk5; obtain ⟨e0, e1, e2, e3, e4, e5, e6, e7, e8, e9, e10, e11, e12, e13, e14⟩ := hB5.cells))
  exact bodyPost_ret (v := .tuple #[Th.agg y s' c', .bool r]) (by simp [results, Try.results15, go_sem, e0, e1, e2, e3, e4, e5, e6, e7, e8, e9, e10, e11, e12, e13, e14]) rfl (fin_do HK4.out HSRC.out hk5)

set_option maxHeartbeats 4000000 in
set_option maxRecDepth 100000 in
theorem rdo_4 (x : Th) (t k v : Int) (s : Option Addr) (c : Nat) (w : World) (hE : InW w x s) (h0 : ¬ t < 0) (h7 : ¬ 7 < t) (k1 : ¬ x.kind < 1) (k5 : ¬ 5 < x.kind) (h17 : (k == 17) = false) (e1 : (x.kind == 1) = false) (e2 : (x.kind == 2) = false) (e3 : (x.kind == 3) = false) (e4 : (x.kind == 4) = true) (y : Th) (r : Bool) (HC : Hid (∀ w', InW w' x s → Calls Try.prog 24 #[x.agg s c, .int .i64 t, .int .i64 k, .int .i64 v] w' (SaidB w' s x.ws y r))) :
    Calls Try.prog 15 #[x.agg s c, .int .i64 t, .agg #[.int .i64 k, .int .i64 v]] w (SaidB w s x.ws y r) := by
  obtain ⟨W1, W2, W3, hW1, hW2, hW3, s1, s2, s3, hT, hN, hZ, hk, hi⟩ := rdo_box x s c k v w hE
  obtain ⟨c0, c1, c2, c3, c4, c5, c6, c7, c8, c9, c10, c11, c12, c13, c14⟩ := hT.cells
  obtain ⟨d0, d1⟩ := hN.cells
  have f1 := hT.free 1
  have HT := Lib.hid hT
  have HZ := Lib.hid hZ
  have HN := Lib.hid hN
  have HI := Lib.hid hi
  have HSZ : Hid (W3.heap.size = w.heap.size + 3) := Lib.hid s3
  have HK : Hid (Kept (fun k => w.heap.size ≤ k) w W3) := Lib.hid (hk.mono (fun _ _ f => f.elim))
  clear hT hN hZ hk hi hE s3
  have hTn := HT.out
  go_enter Try.func15, Try.ntmps15
  go_wp2_with (first | refine wpList_loadT (by rfl) (by rfl) (by rfl) (by assumption) ?_)
  refine (HC.out _ HI.out).mono ?_
  rintro e w4 ⟨s', c', rfl, hsrc, hk4⟩
  have hZn := HZ.out.kept0 hk4
  have HSRC : Hid ((s' = s ∧ y.ws = x.ws) ∨ NewW (w.heap.size + 3) w4 s' c' y.ws) := Lib.hid (by rw [← HSZ.out]; exact hsrc)
  have HK4 : Hid (Kept (fun k => w.heap.size ≤ k) w w4) := Lib.hid (HK.out.trans (hk4.mono (fun _ _ f => f.elim)) (fun _ _ e => e))
  clear hsrc hk4
  go_wp2_with (first | (refine wpList_storeT (by rfl) (by rfl) (by rfl) (by rfl) (by assumption) ?_; intro W5 hB5 hk5; obtain ⟨e0, e1, e2, e3, e4, e5, e6, e7, e8, e9, e10, e11, e12, e13, e14⟩ := hB5.cells))
  exact bodyPost_ret (v := .tuple #[Th.agg y s' c', .bool r]) (by simp [results, Try.results15, go_sem, e0, e1, e2, e3, e4, e5, e6, e7, e8, e9, e10, e11, e12, e13, e14]) rfl (fin_do HK4.out HSRC.out hk5)

set_option maxHeartbeats 4000000 in
set_option maxRecDepth 100000 in
theorem rdo_5 (x : Th) (t k v : Int) (s : Option Addr) (c : Nat) (w : World) (hE : InW w x s) (h0 : ¬ t < 0) (h7 : ¬ 7 < t) (k1 : ¬ x.kind < 1) (k5 : ¬ 5 < x.kind) (h17 : (k == 17) = false) (e1 : (x.kind == 1) = false) (e2 : (x.kind == 2) = false) (e3 : (x.kind == 3) = false) (e4 : (x.kind == 4) = false) (y : Th) (r : Bool) (HC : Hid (∀ w', InW w' x s → Calls Try.prog 25 #[x.agg s c, .int .i64 t, .int .i64 k, .int .i64 v] w' (SaidB w' s x.ws y r))) :
    Calls Try.prog 15 #[x.agg s c, .int .i64 t, .agg #[.int .i64 k, .int .i64 v]] w (SaidB w s x.ws y r) := by
  obtain ⟨W1, W2, W3, hW1, hW2, hW3, s1, s2, s3, hT, hN, hZ, hk, hi⟩ := rdo_box x s c k v w hE
  obtain ⟨c0, c1, c2, c3, c4, c5, c6, c7, c8, c9, c10, c11, c12, c13, c14⟩ := hT.cells
  obtain ⟨d0, d1⟩ := hN.cells
  have f1 := hT.free 1
  have HT := Lib.hid hT
  have HZ := Lib.hid hZ
  have HN := Lib.hid hN
  have HI := Lib.hid hi
  have HSZ : Hid (W3.heap.size = w.heap.size + 3) := Lib.hid s3
  have HK : Hid (Kept (fun k => w.heap.size ≤ k) w W3) := Lib.hid (hk.mono (fun _ _ f => f.elim))
  clear hT hN hZ hk hi hE s3
  have hTn := HT.out
  go_enter Try.func15, Try.ntmps15
  go_wp2_with (first | refine wpList_loadT (by rfl) (by rfl) (by rfl) (by assumption) ?_)
  refine (HC.out _ HI.out).mono ?_
  rintro e w4 ⟨s', c', rfl, hsrc, hk4⟩
  have hZn := HZ.out.kept0 hk4
  have HSRC : Hid ((s' = s ∧ y.ws = x.ws) ∨ NewW (w.heap.size + 3) w4 s' c' y.ws) := Lib.hid (by rw [← HSZ.out]; exact hsrc)
  have HK4 : Hid (Kept (fun k => w.heap.size ≤ k) w w4) := Lib.hid (HK.out.trans (hk4.mono (fun _ _ f => f.elim)) (fun _ _ e => e))
  clear hsrc hk4
  go_wp2_with (first | (refine wpList_storeT (by rfl) (by rfl) (by rfl) (by rfl) (by assumption) ?_; intro W5 hB5 hk5; obtain ⟨e0, e1, e2, e3, e4, e5, e6, e7, e8, e9, e10, e11, e12, e13, e14⟩ := hB5.cells))
  exact bodyPost_ret (v := .tuple #[Th.agg y s' c', .bool r]) (by simp [results, Try.results15, go_sem, e0, e1, e2, e3, e4, e5, e6, e7, e8, e9, e10, e11, e12, e13, e14]) rfl (fin_do HK4.out HSRC.out hk5)

end Go.Proofs.Ythjblniabnjfhaa
