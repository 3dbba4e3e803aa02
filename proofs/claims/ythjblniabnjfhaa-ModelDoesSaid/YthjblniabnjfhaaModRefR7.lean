/-
  The document's answer of layer 10: rw's mark 7.
  Conditions: no count is beyond two millions; the waiters lie in memory.
-/
import Derived.Test.YthjblniabnjfhaaModRefK
import Derived.Deep.RegionHeld3
import Derived.Deep.Cut
import Derived.Deep.CutRange
import Derived.Deep.DeepCutAuto
import Derived.LoopTactic
namespace Go.Proofs.Ythjblniabnjfhaa
open Go.RowKit
set_option linter.unusedSimpArgs false
set_option linter.unusedVariables false

set_option maxHeartbeats 16000000 in
set_option maxRecDepth 100000 in
theorem rrw_7_1 (x : Th) (t : Nat) (htl : t < 8) (v : Int) (s : Option Addr) (c : Nat) (w : World) (hF : Fit x) (hE : InW w x s) (h1 : (v == 0) = false) (h2 : (v == 1) = false) :
    Calls Try.prog 24 #[x.agg s c, .int .i64 (t : Int), .int .i64 7, .int .i64 v] w (SaidB w s x.ws x false) := by
  have b0 : -2000001 ≤ x.holds + 1 := by have := hF.h0; omega
  have b1 : x.holds + 1 ≤ 2000001 := by have := hF.h1; omega
  have z2 : (t : Int) < 8 := by omega
  have p0 := hF.r0 t htl
  have p1 := hF.r1 t htl
  have b2 : -2000001 ≤ x.r t + 1 := by omega
  have b3 : x.r t + 1 ≤ 2000001 := by omega
  have b4 : -2000001 ≤ x.r t - 1 := by omega
  have b5 : x.r t - 1 ≤ 2000001 := by omega
  clear p0 p1
  obtain ⟨W1, W2, hW1, hW2, s1, s2, hT, hZ, hk, hEl⟩ := ref_box x s c w hE
  obtain ⟨c0, c1, c2, c3, c4, c5, c6, c7, c8, c9, c10, c11, c12, c13, c14⟩ := hT.cells
  have HFIN : Hid (∀ Wa W5 (y : Th) r, Kept (fun k => k = w.heap.size) W2 Wa → Kept (fun k => k = w.heap.size + 1) Wa W5 → y.ws = x.ws → SaidB w s x.ws y r (.returned (.tuple #[y.agg s c, .bool r])) W5) := Lib.hid (fun Wa W5 y r hA h5 hws => fin_said hk hA h5 hws)
  have HT := Lib.hid hT
  have HZ := Lib.hid hZ
  have HEl := Lib.hid hEl
  clear hk hEl hE hT hZ
  go_enter Try.func24, Try.ntmps24
  go_wp2_with (first | refine wpList_loadT (by rfl) (by rfl) (by rfl) (by assumption) ?_ | (refine wpList_storeT (by rfl) (by rfl) (by rfl) (by rfl) (by assumption) ?_; intro W5 hB5 hk5; obtain ⟨e0, e1, e2, e3, e4, e5, e6, e7, e8, e9, e10, e11, e12, e13, e14⟩ := hB5.cells))
  refine (readsR_any x s c _ hF).mono ?_
  rintro e w3 ⟨rfl, hk3⟩
  have HT3 := Lib.hid (HT.out.kept0 hk3)
  have HZ3 := Lib.hid (HZ.out.kept0 hk3)
  have HFIN3 : Hid (∀ Wa W5 (y : Th) r, Kept (fun k => k = w.heap.size) w3 Wa → Kept (fun k => k = w.heap.size + 1) Wa W5 → y.ws = x.ws → SaidB w s x.ws y r (.returned (.tuple #[y.agg s c, .bool r])) W5) := Lib.hid (fun Wa W5 y r hA h5 hws => HFIN.out Wa W5 y r ((hk3.mono (T := fun k => k = w.heap.size) (fun _ _ f => f.elim)).trans hA (fun _ _ e => e)) h5 hws)
  have HEl3 := Lib.hid (HEl.out.kept0 hk3)
  have HK3 := Lib.hid hk3
  clear hF hk3 HT HZ HFIN HEl c0 c1 c2 c3 c4 c5 c6 c7 c8 c9 c10 c11 c12 c13 c14
  obtain ⟨c0, c1, c2, c3, c4, c5, c6, c7, c8, c9, c10, c11, c12, c13, c14⟩ := HT3.out.cells
  have f1 := HT3.out.free 1
  have f2 := HT3.out.free 2
  have f3 := HT3.out.free 3
  have hTn : BoxT w3 w.heap.size x s c := HT3.out
  have hZn : BoxT w3 (w.heap.size + 1) zeroTh none 0 := HZ3.out
  go_wp2_with (first | refine wpList_loadT (by rfl) (by rfl) (by rfl) (by assumption) ?_ | (refine wpList_storeT (by rfl) (by rfl) (by rfl) (by rfl) (by assumption) ?_; intro W5 hB5 hk5; obtain ⟨e0, e1, e2, e3, e4, e5, e6, e7, e8, e9, e10, e11, e12, e13, e14⟩ := hB5.cells))
  exact bodyPost_ret (v := .tuple #[Th.agg x s c, .bool false]) (by simp [results, Try.results24, go_sem, e0, e1, e2, e3, e4, e5, e6, e7, e8, e9, e10, e11, e12, e13, e14]) rfl (HFIN3.out _ _ _ _ (Kept.one w.heap.size w3) hk5 rfl)

set_option maxHeartbeats 16000000 in
set_option maxRecDepth 100000 in
theorem rrw_7_2 (x : Th) (t : Nat) (htl : t < 8) (v : Int) (s : Option Addr) (c : Nat) (w : World) (hF : Fit x) (hE : InW w x s) (h1 : (v == 0) = false) (h2 : (v == 1) = true) (h3 : (x.sum == 1000) = false) :
    Calls Try.prog 24 #[x.agg s c, .int .i64 (t : Int), .int .i64 7, .int .i64 v] w (SaidB w s x.ws x false) := by
  have b0 : -2000001 ≤ x.holds + 1 := by have := hF.h0; omega
  have b1 : x.holds + 1 ≤ 2000001 := by have := hF.h1; omega
  have z2 : (t : Int) < 8 := by omega
  have p0 := hF.r0 t htl
  have p1 := hF.r1 t htl
  have b2 : -2000001 ≤ x.r t + 1 := by omega
  have b3 : x.r t + 1 ≤ 2000001 := by omega
  have b4 : -2000001 ≤ x.r t - 1 := by omega
  have b5 : x.r t - 1 ≤ 2000001 := by omega
  clear p0 p1
  obtain ⟨W1, W2, hW1, hW2, s1, s2, hT, hZ, hk, hEl⟩ := ref_box x s c w hE
  obtain ⟨c0, c1, c2, c3, c4, c5, c6, c7, c8, c9, c10, c11, c12, c13, c14⟩ := hT.cells
  have HFIN : Hid (∀ Wa W5 (y : Th) r, Kept (fun k => k = w.heap.size) W2 Wa → Kept (fun k => k = w.heap.size + 1) Wa W5 → y.ws = x.ws → SaidB w s x.ws y r (.returned (.tuple #[y.agg s c, .bool r])) W5) := Lib.hid (fun Wa W5 y r hA h5 hws => fin_said hk hA h5 hws)
  have HT := Lib.hid hT
  have HZ := Lib.hid hZ
  have HEl := Lib.hid hEl
  clear hk hEl hE hT hZ
  go_enter Try.func24, Try.ntmps24
  go_wp2_with (first | refine wpList_loadT (by rfl) (by rfl) (by rfl) (by assumption) ?_ | (refine wpList_storeT (by rfl) (by rfl) (by rfl) (by rfl) (by assumption) ?_; intro W5 hB5 hk5; obtain ⟨e0, e1, e2, e3, e4, e5, e6, e7, e8, e9, e10, e11, e12, e13, e14⟩ := hB5.cells))
  refine (readsR_any x s c _ hF).mono ?_
  rintro e w3 ⟨rfl, hk3⟩
  have HT3 := Lib.hid (HT.out.kept0 hk3)
  have HZ3 := Lib.hid (HZ.out.kept0 hk3)
  have HFIN3 : Hid (∀ Wa W5 (y : Th) r, Kept (fun k => k = w.heap.size) w3 Wa → Kept (fun k => k = w.heap.size + 1) Wa W5 → y.ws = x.ws → SaidB w s x.ws y r (.returned (.tuple #[y.agg s c, .bool r])) W5) := Lib.hid (fun Wa W5 y r hA h5 hws => HFIN.out Wa W5 y r ((hk3.mono (T := fun k => k = w.heap.size) (fun _ _ f => f.elim)).trans hA (fun _ _ e => e)) h5 hws)
  have HEl3 := Lib.hid (HEl.out.kept0 hk3)
  have HK3 := Lib.hid hk3
  clear hF hk3 HT HZ HFIN HEl c0 c1 c2 c3 c4 c5 c6 c7 c8 c9 c10 c11 c12 c13 c14
  obtain ⟨c0, c1, c2, c3, c4, c5, c6, c7, c8, c9, c10, c11, c12, c13, c14⟩ := HT3.out.cells
  have f1 := HT3.out.free 1
  have f2 := HT3.out.free 2
  have f3 := HT3.out.free 3
  have hTn : BoxT w3 w.heap.size x s c := HT3.out
  have hZn : BoxT w3 (w.heap.size + 1) zeroTh none 0 := HZ3.out
  go_wp2_with (first | refine wpList_loadT (by rfl) (by rfl) (by rfl) (by assumption) ?_ | (refine wpList_storeT (by rfl) (by rfl) (by rfl) (by rfl) (by assumption) ?_; intro W5 hB5 hk5; obtain ⟨e0, e1, e2, e3, e4, e5, e6, e7, e8, e9, e10, e11, e12, e13, e14⟩ := hB5.cells))
  exact bodyPost_ret (v := .tuple #[Th.agg x s c, .bool false]) (by simp [results, Try.results24, go_sem, e0, e1, e2, e3, e4, e5, e6, e7, e8, e9, e10, e11, e12, e13, e14]) rfl (HFIN3.out _ _ _ _ (Kept.one w.heap.size w3) hk5 rfl)

set_option maxHeartbeats 16000000 in
set_option maxRecDepth 100000 in
theorem rrw_7_3 (x : Th) (t : Nat) (htl : t < 8) (v : Int) (s : Option Addr) (c : Nat) (w : World) (hF : Fit x) (hE : InW w x s) (h1 : (v == 0) = false) (h2 : (v == 1) = true) (h3 : (x.sum == 1000) = true) :
    Calls Try.prog 24 #[x.agg s c, .int .i64 (t : Int), .int .i64 7, .int .i64 v] w (SaidB w s x.ws x true) := by
  have b0 : -2000001 ≤ x.holds + 1 := by have := hF.h0; omega
  have b1 : x.holds + 1 ≤ 2000001 := by have := hF.h1; omega
  have z2 : (t : Int) < 8 := by omega
  have p0 := hF.r0 t htl
  have p1 := hF.r1 t htl
  have b2 : -2000001 ≤ x.r t + 1 := by omega
  have b3 : x.r t + 1 ≤ 2000001 := by omega
  have b4 : -2000001 ≤ x.r t - 1 := by omega
  have b5 : x.r t - 1 ≤ 2000001 := by omega
  clear p0 p1
  obtain ⟨W1, W2, hW1, hW2, s1, s2, hT, hZ, hk, hEl⟩ := ref_box x s c w hE
  obtain ⟨c0, c1, c2, c3, c4, c5, c6, c7, c8, c9, c10, c11, c12, c13, c14⟩ := hT.cells
  have HFIN : Hid (∀ Wa W5 (y : Th) r, Kept (fun k => k = w.heap.size) W2 Wa → Kept (fun k => k = w.heap.size + 1) Wa W5 → y.ws = x.ws → SaidB w s x.ws y r (.returned (.tuple #[y.agg s c, .bool r])) W5) := Lib.hid (fun Wa W5 y r hA h5 hws => fin_said hk hA h5 hws)
  have HT := Lib.hid hT
  have HZ := Lib.hid hZ
  have HEl := Lib.hid hEl
  clear hk hEl hE hT hZ
  go_enter Try.func24, Try.ntmps24
  go_wp2_with (first | refine wpList_loadT (by rfl) (by rfl) (by rfl) (by assumption) ?_ | (refine wpList_storeT (by rfl) (by rfl) (by rfl) (by rfl) (by assumption) ?_; intro W5 hB5 hk5; obtain ⟨e0, e1, e2, e3, e4, e5, e6, e7, e8, e9, e10, e11, e12, e13, e14⟩ := hB5.cells))
  refine (readsR_any x s c _ hF).mono ?_
  rintro e w3 ⟨rfl, hk3⟩
  have HT3 := Lib.hid (HT.out.kept0 hk3)
  have HZ3 := Lib.hid (HZ.out.kept0 hk3)
  have HFIN3 : Hid (∀ Wa W5 (y : Th) r, Kept (fun k => k = w.heap.size) w3 Wa → Kept (fun k => k = w.heap.size + 1) Wa W5 → y.ws = x.ws → SaidB w s x.ws y r (.returned (.tuple #[y.agg s c, .bool r])) W5) := Lib.hid (fun Wa W5 y r hA h5 hws => HFIN.out Wa W5 y r ((hk3.mono (T := fun k => k = w.heap.size) (fun _ _ f => f.elim)).trans hA (fun _ _ e => e)) h5 hws)
  have HEl3 := Lib.hid (HEl.out.kept0 hk3)
  have HK3 := Lib.hid hk3
  clear hF hk3 HT HZ HFIN HEl c0 c1 c2 c3 c4 c5 c6 c7 c8 c9 c10 c11 c12 c13 c14
  obtain ⟨c0, c1, c2, c3, c4, c5, c6, c7, c8, c9, c10, c11, c12, c13, c14⟩ := HT3.out.cells
  have f1 := HT3.out.free 1
  have f2 := HT3.out.free 2
  have f3 := HT3.out.free 3
  have hTn : BoxT w3 w.heap.size x s c := HT3.out
  have hZn : BoxT w3 (w.heap.size + 1) zeroTh none 0 := HZ3.out
  go_wp2_with (first | refine wpList_loadT (by rfl) (by rfl) (by rfl) (by assumption) ?_ | (refine wpList_storeT (by rfl) (by rfl) (by rfl) (by rfl) (by assumption) ?_; intro W5 hB5 hk5; obtain ⟨e0, e1, e2, e3, e4, e5, e6, e7, e8, e9, e10, e11, e12, e13, e14⟩ := hB5.cells))
  exact bodyPost_ret (v := .tuple #[Th.agg x s c, .bool true]) (by simp [results, Try.results24, go_sem, e0, e1, e2, e3, e4, e5, e6, e7, e8, e9, e10, e11, e12, e13, e14]) rfl (HFIN3.out _ _ _ _ (Kept.one w.heap.size w3) hk5 rfl)

set_option maxHeartbeats 16000000 in
set_option maxRecDepth 100000 in
theorem rrw_7_4 (x : Th) (t : Nat) (htl : t < 8) (v : Int) (s : Option Addr) (c : Nat) (w : World) (hF : Fit x) (hE : InW w x s) (h1 : (v == 0) = true) (h4 : (x.owner == (t : Int)) = false) (h5 : (v == 1) = false) :
    Calls Try.prog 24 #[x.agg s c, .int .i64 (t : Int), .int .i64 7, .int .i64 v] w (SaidB w s x.ws x false) := by
  have b0 : -2000001 ≤ x.holds + 1 := by have := hF.h0; omega
  have b1 : x.holds + 1 ≤ 2000001 := by have := hF.h1; omega
  have z2 : (t : Int) < 8 := by omega
  have p0 := hF.r0 t htl
  have p1 := hF.r1 t htl
  have b2 : -2000001 ≤ x.r t + 1 := by omega
  have b3 : x.r t + 1 ≤ 2000001 := by omega
  have b4 : -2000001 ≤ x.r t - 1 := by omega
  have b5 : x.r t - 1 ≤ 2000001 := by omega
  clear p0 p1
  obtain ⟨W1, W2, hW1, hW2, s1, s2, hT, hZ, hk, hEl⟩ := ref_box x s c w hE
  obtain ⟨c0, c1, c2, c3, c4, c5, c6, c7, c8, c9, c10, c11, c12, c13, c14⟩ := hT.cells
  have HFIN : Hid (∀ Wa W5 (y : Th) r, Kept (fun k => k = w.heap.size) W2 Wa → Kept (fun k => k = w.heap.size + 1) Wa W5 → y.ws = x.ws → SaidB w s x.ws y r (.returned (.tuple #[y.agg s c, .bool r])) W5) := Lib.hid (fun Wa W5 y r hA h5 hws => fin_said hk hA h5 hws)
  have HT := Lib.hid hT
  have HZ := Lib.hid hZ
  have HEl := Lib.hid hEl
  clear hk hEl hE hT hZ
  go_enter Try.func24, Try.ntmps24
  go_wp2_with (first | refine wpList_loadT (by rfl) (by rfl) (by rfl) (by assumption) ?_ | (refine wpList_storeT (by rfl) (by rfl) (by rfl) (by rfl) (by assumption) ?_; intro W5 hB5 hk5; obtain ⟨e0, e1, e2, e3, e4, e5, e6, e7, e8, e9, e10, e11, e12, e13, e14⟩ := hB5.cells))
  refine (readsR_any x s c _ hF).mono ?_
  rintro e w3 ⟨rfl, hk3⟩
  have HT3 := Lib.hid (HT.out.kept0 hk3)
  have HZ3 := Lib.hid (HZ.out.kept0 hk3)
  have HFIN3 : Hid (∀ Wa W5 (y : Th) r, Kept (fun k => k = w.heap.size) w3 Wa → Kept (fun k => k = w.heap.size + 1) Wa W5 → y.ws = x.ws → SaidB w s x.ws y r (.returned (.tuple #[y.agg s c, .bool r])) W5) := Lib.hid (fun Wa W5 y r hA h5 hws => HFIN.out Wa W5 y r ((hk3.mono (T := fun k => k = w.heap.size) (fun _ _ f => f.elim)).trans hA (fun _ _ e => e)) h5 hws)
  have HEl3 := Lib.hid (HEl.out.kept0 hk3)
  have HK3 := Lib.hid hk3
  clear hF hk3 HT HZ HFIN HEl c0 c1 c2 c3 c4 c5 c6 c7 c8 c9 c10 c11 c12 c13 c14
  obtain ⟨c0, c1, c2, c3, c4, c5, c6, c7, c8, c9, c10, c11, c12, c13, c14⟩ := HT3.out.cells
  have f1 := HT3.out.free 1
  have f2 := HT3.out.free 2
  have f3 := HT3.out.free 3
  have hTn : BoxT w3 w.heap.size x s c := HT3.out
  have hZn : BoxT w3 (w.heap.size + 1) zeroTh none 0 := HZ3.out
  go_wp2_with (first | refine wpList_loadT (by rfl) (by rfl) (by rfl) (by assumption) ?_ | (refine wpList_storeT (by rfl) (by rfl) (by rfl) (by rfl) (by assumption) ?_; intro W5 hB5 hk5; obtain ⟨e0, e1, e2, e3, e4, e5, e6, e7, e8, e9, e10, e11, e12, e13, e14⟩ := hB5.cells))
  exact bodyPost_ret (v := .tuple #[Th.agg x s c, .bool false]) (by simp [results, Try.results24, go_sem, e0, e1, e2, e3, e4, e5, e6, e7, e8, e9, e10, e11, e12, e13, e14]) rfl (HFIN3.out _ _ _ _ (Kept.one w.heap.size w3) hk5 rfl)

set_option maxHeartbeats 16000000 in
set_option maxRecDepth 100000 in
theorem rrw_7_5 (x : Th) (t : Nat) (htl : t < 8) (v : Int) (s : Option Addr) (c : Nat) (w : World) (hF : Fit x) (hE : InW w x s) (h1 : (v == 0) = true) (h4 : (x.owner == (t : Int)) = false) (h5 : (v == 1) = true) (h6 : (x.sum == 1000) = false) :
    Calls Try.prog 24 #[x.agg s c, .int .i64 (t : Int), .int .i64 7, .int .i64 v] w (SaidB w s x.ws x false) := by
  have b0 : -2000001 ≤ x.holds + 1 := by have := hF.h0; omega
  have b1 : x.holds + 1 ≤ 2000001 := by have := hF.h1; omega
  have z2 : (t : Int) < 8 := by omega
  have p0 := hF.r0 t htl
  have p1 := hF.r1 t htl
  have b2 : -2000001 ≤ x.r t + 1 := by omega
  have b3 : x.r t + 1 ≤ 2000001 := by omega
  have b4 : -2000001 ≤ x.r t - 1 := by omega
  have b5 : x.r t - 1 ≤ 2000001 := by omega
  clear p0 p1
  obtain ⟨W1, W2, hW1, hW2, s1, s2, hT, hZ, hk, hEl⟩ := ref_box x s c w hE
  obtain ⟨c0, c1, c2, c3, c4, c5, c6, c7, c8, c9, c10, c11, c12, c13, c14⟩ := hT.cells
  have HFIN : Hid (∀ Wa W5 (y : Th) r, Kept (fun k => k = w.heap.size) W2 Wa → Kept (fun k => k = w.heap.size + 1) Wa W5 → y.ws = x.ws → SaidB w s x.ws y r (.returned (.tuple #[y.agg s c, .bool r])) W5) := Lib.hid (fun Wa W5 y r hA h5 hws => fin_said hk hA h5 hws)
  have HT := Lib.hid hT
  have HZ := Lib.hid hZ
  have HEl := Lib.hid hEl
  clear hk hEl hE hT hZ
  go_enter Try.func24, Try.ntmps24
  go_wp2_with (first | refine wpList_loadT (by rfl) (by rfl) (by rfl) (by assumption) ?_ | (refine wpList_storeT (by rfl) (by rfl) (by rfl) (by rfl) (by assumption) ?_; intro W5 hB5 hk5; obtain ⟨e0, e1, e2, e3, e4, e5, e6, e7, e8, e9, e10, e11, e12, e13, e14⟩ := hB5.cells))
  refine (readsR_any x s c _ hF).mono ?_
  rintro e w3 ⟨rfl, hk3⟩
  have HT3 := Lib.hid (HT.out.kept0 hk3)
  have HZ3 := Lib.hid (HZ.out.kept0 hk3)
  have HFIN3 : Hid (∀ Wa W5 (y : Th) r, Kept (fun k => k = w.heap.size) w3 Wa → Kept (fun k => k = w.heap.size + 1) Wa W5 → y.ws = x.ws → SaidB w s x.ws y r (.returned (.tuple #[y.agg s c, .bool r])) W5) := Lib.hid (fun Wa W5 y r hA h5 hws => HFIN.out Wa W5 y r ((hk3.mono (T := fun k => k = w.heap.size) (fun _ _ f => f.elim)).trans hA (fun _ _ e => e)) h5 hws)
  have HEl3 := Lib.hid (HEl.out.kept0 hk3)
  have HK3 := Lib.hid hk3
  clear hF hk3 HT HZ HFIN HEl c0 c1 c2 c3 c4 c5 c6 c7 c8 c9 c10 c11 c12 c13 c14
  obtain ⟨c0, c1, c2, c3, c4, c5, c6, c7, c8, c9, c10, c11, c12, c13, c14⟩ := HT3.out.cells
  have f1 := HT3.out.free 1
  have f2 := HT3.out.free 2
  have f3 := HT3.out.free 3
  have hTn : BoxT w3 w.heap.size x s c := HT3.out
  have hZn : BoxT w3 (w.heap.size + 1) zeroTh none 0 := HZ3.out
  go_wp2_with (first | refine wpList_loadT (by rfl) (by rfl) (by rfl) (by assumption) ?_ | (refine wpList_storeT (by rfl) (by rfl) (by rfl) (by rfl) (by assumption) ?_; intro W5 hB5 hk5; obtain ⟨e0, e1, e2, e3, e4, e5, e6, e7, e8, e9, e10, e11, e12, e13, e14⟩ := hB5.cells))
  exact bodyPost_ret (v := .tuple #[Th.agg x s c, .bool false]) (by simp [results, Try.results24, go_sem, e0, e1, e2, e3, e4, e5, e6, e7, e8, e9, e10, e11, e12, e13, e14]) rfl (HFIN3.out _ _ _ _ (Kept.one w.heap.size w3) hk5 rfl)

set_option maxHeartbeats 16000000 in
set_option maxRecDepth 100000 in
theorem rrw_7_6 (x : Th) (t : Nat) (htl : t < 8) (v : Int) (s : Option Addr) (c : Nat) (w : World) (hF : Fit x) (hE : InW w x s) (h1 : (v == 0) = true) (h4 : (x.owner == (t : Int)) = false) (h5 : (v == 1) = true) (h6 : (x.sum == 1000) = true) :
    Calls Try.prog 24 #[x.agg s c, .int .i64 (t : Int), .int .i64 7, .int .i64 v] w (SaidB w s x.ws x true) := by
  have b0 : -2000001 ≤ x.holds + 1 := by have := hF.h0; omega
  have b1 : x.holds + 1 ≤ 2000001 := by have := hF.h1; omega
  have z2 : (t : Int) < 8 := by omega
  have p0 := hF.r0 t htl
  have p1 := hF.r1 t htl
  have b2 : -2000001 ≤ x.r t + 1 := by omega
  have b3 : x.r t + 1 ≤ 2000001 := by omega
  have b4 : -2000001 ≤ x.r t - 1 := by omega
  have b5 : x.r t - 1 ≤ 2000001 := by omega
  clear p0 p1
  obtain ⟨W1, W2, hW1, hW2, s1, s2, hT, hZ, hk, hEl⟩ := ref_box x s c w hE
  obtain ⟨c0, c1, c2, c3, c4, c5, c6, c7, c8, c9, c10, c11, c12, c13, c14⟩ := hT.cells
  have HFIN : Hid (∀ Wa W5 (y : Th) r, Kept (fun k => k = w.heap.size) W2 Wa → Kept (fun k => k = w.heap.size + 1) Wa W5 → y.ws = x.ws → SaidB w s x.ws y r (.returned (.tuple #[y.agg s c, .bool r])) W5) := Lib.hid (fun Wa W5 y r hA h5 hws => fin_said hk hA h5 hws)
  have HT := Lib.hid hT
  have HZ := Lib.hid hZ
  have HEl := Lib.hid hEl
  clear hk hEl hE hT hZ
  go_enter Try.func24, Try.ntmps24
  go_wp2_with (first | refine wpList_loadT (by rfl) (by rfl) (by rfl) (by assumption) ?_ | (refine wpList_storeT (by rfl) (by rfl) (by rfl) (by rfl) (by assumption) ?_; intro W5 hB5 hk5; obtain ⟨e0, e1, e2, e3, e4, e5, e6, e7, e8, e9, e10, e11, e12, e13, e14⟩ := hB5.cells))
  refine (readsR_any x s c _ hF).mono ?_
  rintro e w3 ⟨rfl, hk3⟩
  have HT3 := Lib.hid (HT.out.kept0 hk3)
  have HZ3 := Lib.hid (HZ.out.kept0 hk3)
  have HFIN3 : Hid (∀ Wa W5 (y : Th) r, Kept (fun k => k = w.heap.size) w3 Wa → Kept (fun k => k = w.heap.size + 1) Wa W5 → y.ws = x.ws → SaidB w s x.ws y r (.returned (.tuple #[y.agg s c, .bool r])) W5) := Lib.hid (fun Wa W5 y r hA h5 hws => HFIN.out Wa W5 y r ((hk3.mono (T := fun k => k = w.heap.size) (fun _ _ f => f.elim)).trans hA (fun _ _ e => e)) h5 hws)
  have HEl3 := Lib.hid (HEl.out.kept0 hk3)
  have HK3 := Lib.hid hk3
  clear hF hk3 HT HZ HFIN HEl c0 c1 c2 c3 c4 c5 c6 c7 c8 c9 c10 c11 c12 c13 c14
  obtain ⟨c0, c1, c2, c3, c4, c5, c6, c7, c8, c9, c10, c11, c12, c13, c14⟩ := HT3.out.cells
  have f1 := HT3.out.free 1
  have f2 := HT3.out.free 2
  have f3 := HT3.out.free 3
  have hTn : BoxT w3 w.heap.size x s c := HT3.out
  have hZn : BoxT w3 (w.heap.size + 1) zeroTh none 0 := HZ3.out
  go_wp2_with (first | refine wpList_loadT (by rfl) (by rfl) (by rfl) (by assumption) ?_ | (refine wpList_storeT (by rfl) (by rfl) (by rfl) (by rfl) (by assumption) ?_; intro W5 hB5 hk5; obtain ⟨e0, e1, e2, e3, e4, e5, e6, e7, e8, e9, e10, e11, e12, e13, e14⟩ := hB5.cells))
  exact bodyPost_ret (v := .tuple #[Th.agg x s c, .bool true]) (by simp [results, Try.results24, go_sem, e0, e1, e2, e3, e4, e5, e6, e7, e8, e9, e10, e11, e12, e13, e14]) rfl (HFIN3.out _ _ _ _ (Kept.one w.heap.size w3) hk5 rfl)

set_option maxHeartbeats 16000000 in
set_option maxRecDepth 100000 in
theorem rrw_7_7 (x : Th) (t : Nat) (htl : t < 8) (v : Int) (s : Option Addr) (c : Nat) (w : World) (hF : Fit x) (hE : InW w x s) (h1 : (v == 0) = true) (h4 : (x.owner == (t : Int)) = true) (h7 : (x.holds == 1000) = false) (h8 : (v == 1) = false) :
    Calls Try.prog 24 #[x.agg s c, .int .i64 (t : Int), .int .i64 7, .int .i64 v] w (SaidB w s x.ws x false) := by
  have b0 : -2000001 ≤ x.holds + 1 := by have := hF.h0; omega
  have b1 : x.holds + 1 ≤ 2000001 := by have := hF.h1; omega
  have z2 : (t : Int) < 8 := by omega
  have p0 := hF.r0 t htl
  have p1 := hF.r1 t htl
  have b2 : -2000001 ≤ x.r t + 1 := by omega
  have b3 : x.r t + 1 ≤ 2000001 := by omega
  have b4 : -2000001 ≤ x.r t - 1 := by omega
  have b5 : x.r t - 1 ≤ 2000001 := by omega
  clear p0 p1
  obtain ⟨W1, W2, hW1, hW2, s1, s2, hT, hZ, hk, hEl⟩ := ref_box x s c w hE
  obtain ⟨c0, c1, c2, c3, c4, c5, c6, c7, c8, c9, c10, c11, c12, c13, c14⟩ := hT.cells
  have HFIN : Hid (∀ Wa W5 (y : Th) r, Kept (fun k => k = w.heap.size) W2 Wa → Kept (fun k => k = w.heap.size + 1) Wa W5 → y.ws = x.ws → SaidB w s x.ws y r (.returned (.tuple #[y.agg s c, .bool r])) W5) := Lib.hid (fun Wa W5 y r hA h5 hws => fin_said hk hA h5 hws)
  have HT := Lib.hid hT
  have HZ := Lib.hid hZ
  have HEl := Lib.hid hEl
  clear hk hEl hE hT hZ
  go_enter Try.func24, Try.ntmps24
  go_wp2_with (first | refine wpList_loadT (by rfl) (by rfl) (by rfl) (by assumption) ?_ | (refine wpList_storeT (by rfl) (by rfl) (by rfl) (by rfl) (by assumption) ?_; intro W5 hB5 hk5; obtain ⟨e0, e1, e2, e3, e4, e5, e6, e7, e8, e9, e10, e11, e12, e13, e14⟩ := hB5.cells))
  refine (readsR_any x s c _ hF).mono ?_
  rintro e w3 ⟨rfl, hk3⟩
  have HT3 := Lib.hid (HT.out.kept0 hk3)
  have HZ3 := Lib.hid (HZ.out.kept0 hk3)
  have HFIN3 : Hid (∀ Wa W5 (y : Th) r, Kept (fun k => k = w.heap.size) w3 Wa → Kept (fun k => k = w.heap.size + 1) Wa W5 → y.ws = x.ws → SaidB w s x.ws y r (.returned (.tuple #[y.agg s c, .bool r])) W5) := Lib.hid (fun Wa W5 y r hA h5 hws => HFIN.out Wa W5 y r ((hk3.mono (T := fun k => k = w.heap.size) (fun _ _ f => f.elim)).trans hA (fun _ _ e => e)) h5 hws)
  have HEl3 := Lib.hid (HEl.out.kept0 hk3)
  have HK3 := Lib.hid hk3
  clear hF hk3 HT HZ HFIN HEl c0 c1 c2 c3 c4 c5 c6 c7 c8 c9 c10 c11 c12 c13 c14
  obtain ⟨c0, c1, c2, c3, c4, c5, c6, c7, c8, c9, c10, c11, c12, c13, c14⟩ := HT3.out.cells
  have f1 := HT3.out.free 1
  have f2 := HT3.out.free 2
  have f3 := HT3.out.free 3
  have hTn : BoxT w3 w.heap.size x s c := HT3.out
  have hZn : BoxT w3 (w.heap.size + 1) zeroTh none 0 := HZ3.out
  go_wp2_with (first | refine wpList_loadT (by rfl) (by rfl) (by rfl) (by assumption) ?_ | (refine wpList_storeT (by rfl) (by rfl) (by rfl) (by rfl) (by assumption) ?_; intro W5 hB5 hk5; obtain ⟨e0, e1, e2, e3, e4, e5, e6, e7, e8, e9, e10, e11, e12, e13, e14⟩ := hB5.cells))
  exact bodyPost_ret (v := .tuple #[Th.agg x s c, .bool false]) (by simp [results, Try.results24, go_sem, e0, e1, e2, e3, e4, e5, e6, e7, e8, e9, e10, e11, e12, e13, e14]) rfl (HFIN3.out _ _ _ _ (Kept.one w.heap.size w3) hk5 rfl)

set_option maxHeartbeats 16000000 in
set_option maxRecDepth 100000 in
theorem rrw_7_8 (x : Th) (t : Nat) (htl : t < 8) (v : Int) (s : Option Addr) (c : Nat) (w : World) (hF : Fit x) (hE : InW w x s) (h1 : (v == 0) = true) (h4 : (x.owner == (t : Int)) = true) (h7 : (x.holds == 1000) = false) (h8 : (v == 1) = true) (h9 : (x.sum == 1000) = false) :
    Calls Try.prog 24 #[x.agg s c, .int .i64 (t : Int), .int .i64 7, .int .i64 v] w (SaidB w s x.ws x false) := by
  have b0 : -2000001 ≤ x.holds + 1 := by have := hF.h0; omega
  have b1 : x.holds + 1 ≤ 2000001 := by have := hF.h1; omega
  have z2 : (t : Int) < 8 := by omega
  have p0 := hF.r0 t htl
  have p1 := hF.r1 t htl
  have b2 : -2000001 ≤ x.r t + 1 := by omega
  have b3 : x.r t + 1 ≤ 2000001 := by omega
  have b4 : -2000001 ≤ x.r t - 1 := by omega
  have b5 : x.r t - 1 ≤ 2000001 := by omega
  clear p0 p1
  obtain ⟨W1, W2, hW1, hW2, s1, s2, hT, hZ, hk, hEl⟩ := ref_box x s c w hE
  obtain ⟨c0, c1, c2, c3, c4, c5, c6, c7, c8, c9, c10, c11, c12, c13, c14⟩ := hT.cells
  have HFIN : Hid (∀ Wa W5 (y : Th) r, Kept (fun k => k = w.heap.size) W2 Wa → Kept (fun k => k = w.heap.size + 1) Wa W5 → y.ws = x.ws → SaidB w s x.ws y r (.returned (.tuple #[y.agg s c, .bool r])) W5) := Lib.hid (fun Wa W5 y r hA h5 hws => fin_said hk hA h5 hws)
  have HT := Lib.hid hT
  have HZ := Lib.hid hZ
  have HEl := Lib.hid hEl
  clear hk hEl hE hT hZ
  go_enter Try.func24, Try.ntmps24
  go_wp2_with (first | refine wpList_loadT (by rfl) (by rfl) (by rfl) (by assumption) ?_ | (refine wpList_storeT (by rfl) (by rfl) (by rfl) (by rfl) (by assumption) ?_; intro W5 hB5 hk5; obtain ⟨e0, e1, e2, e3, e4, e5, e6, e7, e8, e9, e10, e11, e12, e13, e14⟩ := hB5.cells))
  refine (readsR_any x s c _ hF).mono ?_
  rintro e w3 ⟨rfl, hk3⟩
  have HT3 := Lib.hid (HT.out.kept0 hk3)
  have HZ3 := Lib.hid (HZ.out.kept0 hk3)
  have HFIN3 : Hid (∀ Wa W5 (y : Th) r, Kept (fun k => k = w.heap.size) w3 Wa → Kept (fun k => k = w.heap.size + 1) Wa W5 → y.ws = x.ws → SaidB w s x.ws y r (.returned (.tuple #[y.agg s c, .bool r])) W5) := Lib.hid (fun Wa W5 y r hA h5 hws => HFIN.out Wa W5 y r ((hk3.mono (T := fun k => k = w.heap.size) (fun _ _ f => f.elim)).trans hA (fun _ _ e => e)) h5 hws)
  have HEl3 := Lib.hid (HEl.out.kept0 hk3)
  have HK3 := Lib.hid hk3
  clear hF hk3 HT HZ HFIN HEl c0 c1 c2 c3 c4 c5 c6 c7 c8 c9 c10 c11 c12 c13 c14
  obtain ⟨c0, c1, c2, c3, c4, c5, c6, c7, c8, c9, c10, c11, c12, c13, c14⟩ := HT3.out.cells
  have f1 := HT3.out.free 1
  have f2 := HT3.out.free 2
  have f3 := HT3.out.free 3
  have hTn : BoxT w3 w.heap.size x s c := HT3.out
  have hZn : BoxT w3 (w.heap.size + 1) zeroTh none 0 := HZ3.out
  go_wp2_with (first | refine wpList_loadT (by rfl) (by rfl) (by rfl) (by assumption) ?_ | (refine wpList_storeT (by rfl) (by rfl) (by rfl) (by rfl) (by assumption) ?_; intro W5 hB5 hk5; obtain ⟨e0, e1, e2, e3, e4, e5, e6, e7, e8, e9, e10, e11, e12, e13, e14⟩ := hB5.cells))
  exact bodyPost_ret (v := .tuple #[Th.agg x s c, .bool false]) (by simp [results, Try.results24, go_sem, e0, e1, e2, e3, e4, e5, e6, e7, e8, e9, e10, e11, e12, e13, e14]) rfl (HFIN3.out _ _ _ _ (Kept.one w.heap.size w3) hk5 rfl)

set_option maxHeartbeats 16000000 in
set_option maxRecDepth 100000 in
theorem rrw_7_9 (x : Th) (t : Nat) (htl : t < 8) (v : Int) (s : Option Addr) (c : Nat) (w : World) (hF : Fit x) (hE : InW w x s) (h1 : (v == 0) = true) (h4 : (x.owner == (t : Int)) = true) (h7 : (x.holds == 1000) = false) (h8 : (v == 1) = true) (h9 : (x.sum == 1000) = true) :
    Calls Try.prog 24 #[x.agg s c, .int .i64 (t : Int), .int .i64 7, .int .i64 v] w (SaidB w s x.ws x true) := by
  have b0 : -2000001 ≤ x.holds + 1 := by have := hF.h0; omega
  have b1 : x.holds + 1 ≤ 2000001 := by have := hF.h1; omega
  have z2 : (t : Int) < 8 := by omega
  have p0 := hF.r0 t htl
  have p1 := hF.r1 t htl
  have b2 : -2000001 ≤ x.r t + 1 := by omega
  have b3 : x.r t + 1 ≤ 2000001 := by omega
  have b4 : -2000001 ≤ x.r t - 1 := by omega
  have b5 : x.r t - 1 ≤ 2000001 := by omega
  clear p0 p1
  obtain ⟨W1, W2, hW1, hW2, s1, s2, hT, hZ, hk, hEl⟩ := ref_box x s c w hE
  obtain ⟨c0, c1, c2, c3, c4, c5, c6, c7, c8, c9, c10, c11, c12, c13, c14⟩ := hT.cells
  have HFIN : Hid (∀ Wa W5 (y : Th) r, Kept (fun k => k = w.heap.size) W2 Wa → Kept (fun k => k = w.heap.size + 1) Wa W5 → y.ws = x.ws → SaidB w s x.ws y r (.returned (.tuple #[y.agg s c, .bool r])) W5) := Lib.hid (fun Wa W5 y r hA h5 hws => fin_said hk hA h5 hws)
  have HT := Lib.hid hT
  have HZ := Lib.hid hZ
  have HEl := Lib.hid hEl
  clear hk hEl hE hT hZ
  go_enter Try.func24, Try.ntmps24
  go_wp2_with (first | refine wpList_loadT (by rfl) (by rfl) (by rfl) (by assumption) ?_ | (refine wpList_storeT (by rfl) (by rfl) (by rfl) (by rfl) (by assumption) ?_; intro W5 hB5 hk5; obtain ⟨e0, e1, e2, e3, e4, e5, e6, e7, e8, e9, e10, e11, e12, e13, e14⟩ := hB5.cells))
  refine (readsR_any x s c _ hF).mono ?_
  rintro e w3 ⟨rfl, hk3⟩
  have HT3 := Lib.hid (HT.out.kept0 hk3)
  have HZ3 := Lib.hid (HZ.out.kept0 hk3)
  have HFIN3 : Hid (∀ Wa W5 (y : Th) r, Kept (fun k => k = w.heap.size) w3 Wa → Kept (fun k => k = w.heap.size + 1) Wa W5 → y.ws = x.ws → SaidB w s x.ws y r (.returned (.tuple #[y.agg s c, .bool r])) W5) := Lib.hid (fun Wa W5 y r hA h5 hws => HFIN.out Wa W5 y r ((hk3.mono (T := fun k => k = w.heap.size) (fun _ _ f => f.elim)).trans hA (fun _ _ e => e)) h5 hws)
  have HEl3 := Lib.hid (HEl.out.kept0 hk3)
  have HK3 := Lib.hid hk3
  clear hF hk3 HT HZ HFIN HEl c0 c1 c2 c3 c4 c5 c6 c7 c8 c9 c10 c11 c12 c13 c14
  obtain ⟨c0, c1, c2, c3, c4, c5, c6, c7, c8, c9, c10, c11, c12, c13, c14⟩ := HT3.out.cells
  have f1 := HT3.out.free 1
  have f2 := HT3.out.free 2
  have f3 := HT3.out.free 3
  have hTn : BoxT w3 w.heap.size x s c := HT3.out
  have hZn : BoxT w3 (w.heap.size + 1) zeroTh none 0 := HZ3.out
  go_wp2_with (first | refine wpList_loadT (by rfl) (by rfl) (by rfl) (by assumption) ?_ | (refine wpList_storeT (by rfl) (by rfl) (by rfl) (by rfl) (by assumption) ?_; intro W5 hB5 hk5; obtain ⟨e0, e1, e2, e3, e4, e5, e6, e7, e8, e9, e10, e11, e12, e13, e14⟩ := hB5.cells))
  exact bodyPost_ret (v := .tuple #[Th.agg x s c, .bool true]) (by simp [results, Try.results24, go_sem, e0, e1, e2, e3, e4, e5, e6, e7, e8, e9, e10, e11, e12, e13, e14]) rfl (HFIN3.out _ _ _ _ (Kept.one w.heap.size w3) hk5 rfl)

set_option maxHeartbeats 16000000 in
set_option maxRecDepth 100000 in
theorem rrw_7_10 (x : Th) (t : Nat) (htl : t < 8) (v : Int) (s : Option Addr) (c : Nat) (w : World) (hF : Fit x) (hE : InW w x s) (h1 : (v == 0) = true) (h4 : (x.owner == (t : Int)) = true) (h7 : (x.holds == 1000) = true) :
    Calls Try.prog 24 #[x.agg s c, .int .i64 (t : Int), .int .i64 7, .int .i64 v] w (SaidB w s x.ws x true) := by
  have b0 : -2000001 ≤ x.holds + 1 := by have := hF.h0; omega
  have b1 : x.holds + 1 ≤ 2000001 := by have := hF.h1; omega
  have z2 : (t : Int) < 8 := by omega
  have p0 := hF.r0 t htl
  have p1 := hF.r1 t htl
  have b2 : -2000001 ≤ x.r t + 1 := by omega
  have b3 : x.r t + 1 ≤ 2000001 := by omega
  have b4 : -2000001 ≤ x.r t - 1 := by omega
  have b5 : x.r t - 1 ≤ 2000001 := by omega
  clear p0 p1
  obtain ⟨W1, W2, hW1, hW2, s1, s2, hT, hZ, hk, hEl⟩ := ref_box x s c w hE
  obtain ⟨c0, c1, c2, c3, c4, c5, c6, c7, c8, c9, c10, c11, c12, c13, c14⟩ := hT.cells
  have HFIN : Hid (∀ Wa W5 (y : Th) r, Kept (fun k => k = w.heap.size) W2 Wa → Kept (fun k => k = w.heap.size + 1) Wa W5 → y.ws = x.ws → SaidB w s x.ws y r (.returned (.tuple #[y.agg s c, .bool r])) W5) := Lib.hid (fun Wa W5 y r hA h5 hws => fin_said hk hA h5 hws)
  have HT := Lib.hid hT
  have HZ := Lib.hid hZ
  have HEl := Lib.hid hEl
  clear hk hEl hE hT hZ
  go_enter Try.func24, Try.ntmps24
  go_wp2_with (first | refine wpList_loadT (by rfl) (by rfl) (by rfl) (by assumption) ?_ | (refine wpList_storeT (by rfl) (by rfl) (by rfl) (by rfl) (by assumption) ?_; intro W5 hB5 hk5; obtain ⟨e0, e1, e2, e3, e4, e5, e6, e7, e8, e9, e10, e11, e12, e13, e14⟩ := hB5.cells))
  refine (readsR_any x s c _ hF).mono ?_
  rintro e w3 ⟨rfl, hk3⟩
  have HT3 := Lib.hid (HT.out.kept0 hk3)
  have HZ3 := Lib.hid (HZ.out.kept0 hk3)
  have HFIN3 : Hid (∀ Wa W5 (y : Th) r, Kept (fun k => k = w.heap.size) w3 Wa → Kept (fun k => k = w.heap.size + 1) Wa W5 → y.ws = x.ws → SaidB w s x.ws y r (.returned (.tuple #[y.agg s c, .bool r])) W5) := Lib.hid (fun Wa W5 y r hA h5 hws => HFIN.out Wa W5 y r ((hk3.mono (T := fun k => k = w.heap.size) (fun _ _ f => f.elim)).trans hA (fun _ _ e => e)) h5 hws)
  have HEl3 := Lib.hid (HEl.out.kept0 hk3)
  have HK3 := Lib.hid hk3
  clear hF hk3 HT HZ HFIN HEl c0 c1 c2 c3 c4 c5 c6 c7 c8 c9 c10 c11 c12 c13 c14
  obtain ⟨c0, c1, c2, c3, c4, c5, c6, c7, c8, c9, c10, c11, c12, c13, c14⟩ := HT3.out.cells
  have f1 := HT3.out.free 1
  have f2 := HT3.out.free 2
  have f3 := HT3.out.free 3
  have hTn : BoxT w3 w.heap.size x s c := HT3.out
  have hZn : BoxT w3 (w.heap.size + 1) zeroTh none 0 := HZ3.out
  go_wp2_with (first | refine wpList_loadT (by rfl) (by rfl) (by rfl) (by assumption) ?_ | (refine wpList_storeT (by rfl) (by rfl) (by rfl) (by rfl) (by assumption) ?_; intro W5 hB5 hk5; obtain ⟨e0, e1, e2, e3, e4, e5, e6, e7, e8, e9, e10, e11, e12, e13, e14⟩ := hB5.cells))
  exact bodyPost_ret (v := .tuple #[Th.agg x s c, .bool true]) (by simp [results, Try.results24, go_sem, e0, e1, e2, e3, e4, e5, e6, e7, e8, e9, e10, e11, e12, e13, e14]) rfl (HFIN3.out _ _ _ _ (Kept.one w.heap.size w3) hk5 rfl)

theorem rrw_7 (x : Th) (t : Nat) (htl : t < 8) (v : Int) (s : Option Addr) (c : Nat) (w : World) (hF : Fit x) (hE : InW w x s) (hkd : (x.kind == 1) = false) :
    Calls Try.prog 24 #[x.agg s c, .int .i64 (t : Int), .int .i64 7, .int .i64 v] w (SaidB w s x.ws (if ((v == 0 && (x.owner == (t : Int) && x.holds == 1000)) || (v == 1 && x.sum == 1000)) = true then x else x) ((v == 0 && (x.owner == (t : Int) && x.holds == 1000)) || (v == 1 && x.sum == 1000))) := by
  obtain ⟨mb, hmm⟩ : ∃ mb, ((v == 0 && (x.owner == (t : Int) && x.holds == 1000)) || (v == 1 && x.sum == 1000)) = mb := ⟨_, rfl⟩
  rw [hmm]
  cases h1 : (v == 0) with
  | false =>
    cases h2 : (v == 1) with
    | false =>
      have hm : mb = false := by rw [← hmm]; simp only [h1, h2, Bool.and_true, Bool.true_and, Bool.false_and, Bool.and_false, Bool.or_true, Bool.true_or, Bool.false_or, Bool.or_false, Bool.not_true, Bool.not_false]
      rw [hm, if_neg Bool.false_ne_true]
      exact rrw_7_1 x t htl v s c w hF hE h1 h2
    | true =>
      cases h3 : (x.sum == 1000) with
      | false =>
        have hm : mb = false := by rw [← hmm]; simp only [h1, h2, h3, Bool.and_true, Bool.true_and, Bool.false_and, Bool.and_false, Bool.or_true, Bool.true_or, Bool.false_or, Bool.or_false, Bool.not_true, Bool.not_false]
        rw [hm, if_neg Bool.false_ne_true]
        exact rrw_7_2 x t htl v s c w hF hE h1 h2 h3
      | true =>
        have hm : mb = true := by rw [← hmm]; simp only [h1, h2, h3, Bool.and_true, Bool.true_and, Bool.false_and, Bool.and_false, Bool.or_true, Bool.true_or, Bool.false_or, Bool.or_false, Bool.not_true, Bool.not_false]
        rw [hm, if_pos rfl]
        exact rrw_7_3 x t htl v s c w hF hE h1 h2 h3
  | true =>
    cases h4 : (x.owner == (t : Int)) with
    | false =>
      cases h5 : (v == 1) with
      | false =>
        have hm : mb = false := by rw [← hmm]; simp only [h1, h4, h5, Bool.and_true, Bool.true_and, Bool.false_and, Bool.and_false, Bool.or_true, Bool.true_or, Bool.false_or, Bool.or_false, Bool.not_true, Bool.not_false]
        rw [hm, if_neg Bool.false_ne_true]
        exact rrw_7_4 x t htl v s c w hF hE h1 h4 h5
      | true =>
        cases h6 : (x.sum == 1000) with
        | false =>
          have hm : mb = false := by rw [← hmm]; simp only [h1, h4, h5, h6, Bool.and_true, Bool.true_and, Bool.false_and, Bool.and_false, Bool.or_true, Bool.true_or, Bool.false_or, Bool.or_false, Bool.not_true, Bool.not_false]
          rw [hm, if_neg Bool.false_ne_true]
          exact rrw_7_5 x t htl v s c w hF hE h1 h4 h5 h6
        | true =>
          have hm : mb = true := by rw [← hmm]; simp only [h1, h4, h5, h6, Bool.and_true, Bool.true_and, Bool.false_and, Bool.and_false, Bool.or_true, Bool.true_or, Bool.false_or, Bool.or_false, Bool.not_true, Bool.not_false]
          rw [hm, if_pos rfl]
          exact rrw_7_6 x t htl v s c w hF hE h1 h4 h5 h6
    | true =>
      cases h7 : (x.holds == 1000) with
      | false =>
        cases h8 : (v == 1) with
        | false =>
          have hm : mb = false := by rw [← hmm]; simp only [h1, h4, h7, h8, Bool.and_true, Bool.true_and, Bool.false_and, Bool.and_false, Bool.or_true, Bool.true_or, Bool.false_or, Bool.or_false, Bool.not_true, Bool.not_false]
          rw [hm, if_neg Bool.false_ne_true]
          exact rrw_7_7 x t htl v s c w hF hE h1 h4 h7 h8
        | true =>
          cases h9 : (x.sum == 1000) with
          | false =>
            have hm : mb = false := by rw [← hmm]; simp only [h1, h4, h7, h8, h9, Bool.and_true, Bool.true_and, Bool.false_and, Bool.and_false, Bool.or_true, Bool.true_or, Bool.false_or, Bool.or_false, Bool.not_true, Bool.not_false]
            rw [hm, if_neg Bool.false_ne_true]
            exact rrw_7_8 x t htl v s c w hF hE h1 h4 h7 h8 h9
          | true =>
            have hm : mb = true := by rw [← hmm]; simp only [h1, h4, h7, h8, h9, Bool.and_true, Bool.true_and, Bool.false_and, Bool.and_false, Bool.or_true, Bool.true_or, Bool.false_or, Bool.or_false, Bool.not_true, Bool.not_false]
            rw [hm, if_pos rfl]
            exact rrw_7_9 x t htl v s c w hF hE h1 h4 h7 h8 h9
      | true =>
        have hm : mb = true := by rw [← hmm]; simp only [h1, h4, h7, Bool.and_true, Bool.true_and, Bool.false_and, Bool.and_false, Bool.or_true, Bool.true_or, Bool.false_or, Bool.or_false, Bool.not_true, Bool.not_false]
        rw [hm, if_pos rfl]
        exact rrw_7_10 x t htl v s c w hF hE h1 h4 h7

end Go.Proofs.Ythjblniabnjfhaa
