/-
  The document's answer of layer 10: Do, where it is refused.
  Conditions: no count is beyond two millions; the waiters lie in memory.
-/
import Derived.Test.YthjblniabnjfhaaModRefD
import Derived.Deep.RegionHeld3
import Derived.Deep.Cut
import Derived.Deep.CutRange
import Derived.Deep.DeepCutAuto
import Derived.LoopTactic
namespace Go.Proofs.Ythjblniabnjfhaa
open Go.RowKit
set_option linter.unusedSimpArgs false
set_option linter.unusedVariables false

set_option maxHeartbeats 4000000 in
set_option maxRecDepth 100000 in
theorem rdo_t0 (x : Th) (t k v : Int) (s : Option Addr) (c : Nat) (w : World) (hE : InW w x s) (h0 : t < 0) :
    Calls Try.prog 15 #[x.agg s c, .int .i64 t, .agg #[.int .i64 k, .int .i64 v]] w (SaidB w s x.ws x false) := by
  obtain ⟨W1, W2, W3, hW1, hW2, hW3, s1, s2, s3, hT, hN, hZ, hk, hi⟩ := rdo_box x s c k v w hE
  obtain ⟨c0, c1, c2, c3, c4, c5, c6, c7, c8, c9, c10, c11, c12, c13, c14⟩ := hT.cells
  obtain ⟨d0, d1⟩ := hN.cells
  have f1 := hT.free 1
  have HT := Lib.hid hT
  have HZ := Lib.hid hZ
  have HN := Lib.hid hN
  have HI := Lib.hid hi
  have HSZ : Hid (W3.heap.size = w.heap.size + 3) := Lib.hid s3
  have HK : Hid (Kept (fun k => w.heap.size ≤ k) w W3) := Lib.hid (hk.mono (fun _ _ f => f.elim))
  clear hT hN hZ hk hi hE s3
  have hTn := HT.out
  have hZn := HZ.out
  go_enter Try.func15, Try.ntmps15
  go_wp2_with (first | refine wpList_loadT (by rfl) (by rfl) (by rfl) (by assumption) ?_ | (refine wpList_storeT (by rfl) (by rfl) (by rfl) (by rfl) (by assumption) ?_; intro W5 hB5 hk5; obtain ⟨e0, e1, e2, e3, e4, e5, e6, e7, e8, e9, e10, e11, e12, e13, e14⟩ := hB5.cells))
  exact bodyPost_ret (v := .tuple #[Th.agg x s c, .bool false]) (by simp [results, Try.results15, go_sem, e0, e1, e2, e3, e4, e5, e6, e7, e8, e9, e10, e11, e12, e13, e14]) rfl (fin_do (y := x) HK.out (.inl ⟨rfl, rfl⟩) hk5)

set_option maxHeartbeats 4000000 in
set_option maxRecDepth 100000 in
theorem rdo_t7 (x : Th) (t k v : Int) (s : Option Addr) (c : Nat) (w : World) (hE : InW w x s) (h0 : ¬ t < 0) (h7 : 7 < t) :
    Calls Try.prog 15 #[x.agg s c, .int .i64 t, .agg #[.int .i64 k, .int .i64 v]] w (SaidB w s x.ws x false) := by
  obtain ⟨W1, W2, W3, hW1, hW2, hW3, s1, s2, s3, hT, hN, hZ, hk, hi⟩ := rdo_box x s c k v w hE
  obtain ⟨c0, c1, c2, c3, c4, c5, c6, c7, c8, c9, c10, c11, c12, c13, c14⟩ := hT.cells
  obtain ⟨d0, d1⟩ := hN.cells
  have f1 := hT.free 1
  have HT := Lib.hid hT
  have HZ := Lib.hid hZ
  have HN := Lib.hid hN
  have HI := Lib.hid hi
  have HSZ : Hid (W3.heap.size = w.heap.size + 3) := Lib.hid s3
  have HK : Hid (Kept (fun k => w.heap.size ≤ k) w W3) := Lib.hid (hk.mono (fun _ _ f => f.elim))
  clear hT hN hZ hk hi hE s3
  have hTn := HT.out
  have hZn := HZ.out
  go_enter Try.func15, Try.ntmps15
  go_wp2_with (first | refine wpList_loadT (by rfl) (by rfl) (by rfl) (by assumption) ?_ | (refine wpList_storeT (by rfl) (by rfl) (by rfl) (by rfl) (by assumption) ?_; intro W5 hB5 hk5; obtain ⟨e0, e1, e2, e3, e4, e5, e6, e7, e8, e9, e10, e11, e12, e13, e14⟩ := hB5.cells))
  exact bodyPost_ret (v := .tuple #[Th.agg x s c, .bool false]) (by simp [results, Try.results15, go_sem, e0, e1, e2, e3, e4, e5, e6, e7, e8, e9, e10, e11, e12, e13, e14]) rfl (fin_do (y := x) HK.out (.inl ⟨rfl, rfl⟩) hk5)

set_option maxHeartbeats 4000000 in
set_option maxRecDepth 100000 in
theorem rdo_k1 (x : Th) (t k v : Int) (s : Option Addr) (c : Nat) (w : World) (hE : InW w x s) (h0 : ¬ t < 0) (h7 : ¬ 7 < t) (k1 : x.kind < 1) :
    Calls Try.prog 15 #[x.agg s c, .int .i64 t, .agg #[.int .i64 k, .int .i64 v]] w (SaidB w s x.ws x false) := by
  obtain ⟨W1, W2, W3, hW1, hW2, hW3, s1, s2, s3, hT, hN, hZ, hk, hi⟩ := rdo_box x s c k v w hE
  obtain ⟨c0, c1, c2, c3, c4, c5, c6, c7, c8, c9, c10, c11, c12, c13, c14⟩ := hT.cells
  obtain ⟨d0, d1⟩ := hN.cells
  have f1 := hT.free 1
  have HT := Lib.hid hT
  have HZ := Lib.hid hZ
  have HN := Lib.hid hN
  have HI := Lib.hid hi
  have HSZ : Hid (W3.heap.size = w.heap.size + 3) := Lib.hid s3
  have HK : Hid (Kept (fun k => w.heap.size ≤ k) w W3) := Lib.hid (hk.mono (fun _ _ f => f.elim))
  clear hT hN hZ hk hi hE s3
  have hTn := HT.out
  have hZn := HZ.out
  go_enter Try.func15, Try.ntmps15
  go_wp2_with (first | refine wpList_loadT (by rfl) (by rfl) (by rfl) (by assumption) ?_ | (refine wpList_storeT (by rfl) (by rfl) (by rfl) (by rfl) (by assumption) ?_; intro W5 hB5 hk5; obtain ⟨e0, e1, e2, e3, e4, e5, e6, e7, e8, e9, e10, e11, e12, e13, e14⟩ := hB5.cells))
  exact bodyPost_ret (v := .tuple #[Th.agg x s c, .bool false]) (by simp [results, Try.results15, go_sem, e0, e1, e2, e3, e4, e5, e6, e7, e8, e9, e10, e11, e12, e13, e14]) rfl (fin_do (y := x) HK.out (.inl ⟨rfl, rfl⟩) hk5)

set_option maxHeartbeats 4000000 in
set_option maxRecDepth 100000 in
theorem rdo_k5 (x : Th) (t k v : Int) (s : Option Addr) (c : Nat) (w : World) (hE : InW w x s) (h0 : ¬ t < 0) (h7 : ¬ 7 < t) (k1 : ¬ x.kind < 1) (k5 : 5 < x.kind) :
    Calls Try.prog 15 #[x.agg s c, .int .i64 t, .agg #[.int .i64 k, .int .i64 v]] w (SaidB w s x.ws x false) := by
  obtain ⟨W1, W2, W3, hW1, hW2, hW3, s1, s2, s3, hT, hN, hZ, hk, hi⟩ := rdo_box x s c k v w hE
  obtain ⟨c0, c1, c2, c3, c4, c5, c6, c7, c8, c9, c10, c11, c12, c13, c14⟩ := hT.cells
  obtain ⟨d0, d1⟩ := hN.cells
  have f1 := hT.free 1
  have HT := Lib.hid hT
  have HZ := Lib.hid hZ
  have HN := Lib.hid hN
  have HI := Lib.hid hi
  have HSZ : Hid (W3.heap.size = w.heap.size + 3) := Lib.hid s3
  have HK : Hid (Kept (fun k => w.heap.size ≤ k) w W3) := Lib.hid (hk.mono (fun _ _ f => f.elim))
  clear hT hN hZ hk hi hE s3
  have hTn := HT.out
  have hZn := HZ.out
  go_enter Try.func15, Try.ntmps15
  go_wp2_with (first | refine wpList_loadT (by rfl) (by rfl) (by rfl) (by assumption) ?_ | (refine wpList_storeT (by rfl) (by rfl) (by rfl) (by rfl) (by assumption) ?_; intro W5 hB5 hk5; obtain ⟨e0, e1, e2, e3, e4, e5, e6, e7, e8, e9, e10, e11, e12, e13, e14⟩ := hB5.cells))
  exact bodyPost_ret (v := .tuple #[Th.agg x s c, .bool false]) (by simp [results, Try.results15, go_sem, e0, e1, e2, e3, e4, e5, e6, e7, e8, e9, e10, e11, e12, e13, e14]) rfl (fin_do (y := x) HK.out (.inl ⟨rfl, rfl⟩) hk5)

end Go.Proofs.Ythjblniabnjfhaa
