/-
  What the document's choices and Expect of layers 13 to 18 come to at a Sema's thing.
  Conditions: its permits are at most 1000; calls as a script has them.
  What the document's Expect of layers 13 to 18 comes to at a Sema's calls.
  Conditions: the thing has 0 to 1000 permits; calls as a script has them.
-/
import Derived.Test.YtofnomkedpagfaaRunFirst
import Derived.Test.YtofnomkedpagfaaMachMove
section
namespace Go.Proofs.Ytofnomkedpagfaa
open Go.RowKit
set_option linter.unusedVariables false
set_option linter.unusedSimpArgs false

def nI (z : Int) : List Value := [.int .i64 z]
/-- What choices tells: marks and results, in memory. -/
def ChTo (w : World) (l : List Nt) (rs : List Int) (e : Ending) (w' : World) : Prop :=
  ∃ a b, e = .returned (.tuple #[.slice (some ⟨a, 0, none⟩) l.length l.length, .slice (some ⟨b, 0, none⟩) rs.length rs.length]) ∧ Elems w' w'.heap.size (some ⟨a, 0, none⟩) 2 Nt.cells l ∧ Elems w' w'.heap.size (some ⟨b, 0, none⟩) 1 intC rs ∧ Kept (fun _ => False) w w' ∧ w.heap.size ≤ a ∧ w.heap.size ≤ b
theorem ChTo.drew {w w' : World} {l : List Nt} {rs : List Int} {e : Ending} (h : ChTo w l rs e w') : ChTo w l rs e w'.drew := by
  obtain ⟨a, b, h1, h2, h3, h4⟩ := h
  exact ⟨a, b, h1, h2.kept (Kept.refl (fun _ => False) _).drew (Nat.le_refl _) (fun _ _ f => f), h3.kept (Kept.refl (fun _ => False) _).drew (Nat.le_refl _) (fun _ _ f => f), h4.1.drew, h4.2⟩
/-- The marks that a Sema's call may come to. -/
def semaL (k n x : Int) : List Nt := if k = 4 then [⟨1, n⟩, ⟨17, 0⟩] else if k = 5 then [⟨1, n⟩, ⟨5, n⟩] else if k = 6 then [⟨3, n⟩, ⟨7, n⟩] else [⟨9, x⟩]
def semaR (k n x : Int) : List Int := if k = 4 then [0, 3] else if k = 5 then [0, 1] else if k = 6 then [0, 5] else [16 * x]

theorem ch_end {w W : World} {l : List Nt} {rs : List Int} {N R : Array Value} (hk : Kept (fun _ => False) w W) (hN : N = (flat Nt.cells l).toArray) (hR : R = (flat intC rs).toArray) (hl : l.length ≤ 10) (hr : rs.length ≤ 10) :
    ∀ z, W.heap.size = z → ∀ W2, (W.alloc (.cells N 77)).alloc (.cells R 3) = W2 → ChTo w l rs (.returned (.tuple #[.slice (some ⟨z, 0, none⟩) l.length l.length, .slice (some ⟨z + 1, 0, none⟩) rs.length rs.length])) W2 := by
  intro z hz W2 hW
  have k1 : Kept (fun _ => False) (W.alloc (.cells N 77)) W2 := by rw [← hW]; exact (Kept.refl _ _).alloc _
  have e1 : (W.alloc (.cells N 77)).heap.size = z + 1 := by simp [hz]
  have h1 := k1.at0 (heap_new1 W (.cells N 77))
  have h2 : W2.heap[z + 1]? = some (.cells R 3 (0, 0)) := by rw [← hW, ← e1]; exact heap_new1 _ _
  rw [hz] at h1
  have hs := hk.size
  refine ⟨z, z + 1, rfl, (Elems.block Nt.two h1 hN (by unfold maxLen; omega)).more ?_, (Elems.block intC_len h2 hR (by unfold maxLen; omega)).more ?_, (hk.alloc _).tr0 k1, by omega, by omega⟩
  · exact (Array.getElem?_eq_some_iff.1 h1).1
  · exact (Array.getElem?_eq_some_iff.1 h2).1

theorem ch_end2 {w W : World} {l : List Nt} {rs : List Int} {N R : Array Value} (hk : Kept (fun _ => False) w W) (hN : N = (flat Nt.cells l).toArray) (hR : R = (flat intC rs).toArray) (hl : l.length ≤ 10) (hr : rs.length ≤ 10) :
    ∀ z, W.heap.size = z → ∀ W2, (W.alloc (.cells R 3)).alloc (.cells N 77) = W2 → ChTo w l rs (.returned (.tuple #[.slice (some ⟨z + 1, 0, none⟩) l.length l.length, .slice (some ⟨z, 0, none⟩) rs.length rs.length])) W2 := by
  intro z hz W2 hW
  have k1 : Kept (fun _ => False) (W.alloc (.cells R 3)) W2 := by rw [← hW]; exact (Kept.refl _ _).alloc _
  have e1 : (W.alloc (.cells R 3)).heap.size = z + 1 := by simp [hz]
  have h1 := k1.at0 (heap_new1 W (.cells R 3))
  have h2 : W2.heap[z + 1]? = some (.cells N 77 (0, 0)) := by rw [← hW, ← e1]; exact heap_new1 _ _
  rw [hz] at h1
  have hs := hk.size
  refine ⟨z + 1, z, rfl, (Elems.block Nt.two h2 hN (by unfold maxLen; omega)).more ?_, (Elems.block intC_len h1 hR (by unfold maxLen; omega)).more ?_, (hk.alloc _).tr0 k1, by omega, by omega⟩
  · exact (Array.getElem?_eq_some_iff.1 h2).1
  · exact (Array.getElem?_eq_some_iff.1 h1).1

set_option maxHeartbeats 2000000 in
set_option maxRecDepth 100000 in
theorem choices_any (k o n wt x : Int) (br : Bool) (w : World) (hk : k = 4 ∨ k = 5 ∨ k = 6 ∨ k = 7) (hx0 : 0 ≤ x) (hx : x ≤ 1000) :
    Calls Try.prog 26 #[.agg (idleC 2 x).toArray, .agg #[.int .i64 k, .int .i64 o, .int .i64 n, .int .i64 wt, .bool br]] w (ChTo w (semaL k n x) (semaR k n x)) := by
  obtain ⟨X, hX⟩ : ∃ X : List Value, idleC 2 x = X := ⟨_, rfl⟩
  have HX : Hid (∀ w' : World, (w'.alloc (.cells X.toArray 45)).cell? ⟨w'.heap.size, 1, none⟩ = some (.int .i64 x)) := Lib.hid (fun w' => by
    rw [cell_at _ _ 1 _ _ (heap_new1 w' (.cells X.toArray 45)), ← hX]; rfl)
  have hX1 : X[1]? = some (.int .i64 x) := by rw [← hX]; rfl
  rw [hX]
  have HK : Hid (∀ o1 o2, Kept (fun _ => False) w ((w.alloc o1).alloc o2)) := Lib.hid (fun o1 o2 => ((Kept.refl _ w).alloc _).alloc _)
  clear hX
  rcases hk with rfl | rfl | rfl | rfl
  · rw [show semaL 4 n x = [⟨1, n⟩, ⟨17, 0⟩] from rfl, show semaR 4 n x = [0, 3] from rfl]
    have HC := Lib.hid (fun o1 o2 => ch_end (l := [⟨1, n⟩, ⟨17, 0⟩]) (rs := [0, 3]) (N := #[.int .i64 1, .int .i64 n, .int .i64 17, .int .i64 0]) (R := #[.int .i64 0, .int .i64 3]) (HK.out o1 o2) rfl rfl (by simp) (by simp))
    go_enter Try.func26, Try.ntmps26
    go_wp2_with fail
    go_ret2
    exact HC.out _ _ _ (by simp) _ rfl
  · rw [show semaL 5 n x = [⟨1, n⟩, ⟨5, n⟩] from rfl, show semaR 5 n x = [0, 1] from rfl]
    have HC := Lib.hid (fun o1 o2 => ch_end (l := [⟨1, n⟩, ⟨5, n⟩]) (rs := [0, 1]) (N := #[.int .i64 1, .int .i64 n, .int .i64 5, .int .i64 n]) (R := #[.int .i64 0, .int .i64 1]) (HK.out o1 o2) rfl rfl (by simp) (by simp))
    go_enter Try.func26, Try.ntmps26
    go_wp2_with fail
    go_ret2
    exact HC.out _ _ _ (by simp) _ rfl
  · rw [show semaL 6 n x = [⟨3, n⟩, ⟨7, n⟩] from rfl, show semaR 6 n x = [0, 5] from rfl]
    have HC := Lib.hid (fun o1 o2 => ch_end (l := [⟨3, n⟩, ⟨7, n⟩]) (rs := [0, 5]) (N := #[.int .i64 3, .int .i64 n, .int .i64 7, .int .i64 n]) (R := #[.int .i64 0, .int .i64 5]) (HK.out o1 o2) rfl rfl (by simp) (by simp))
    go_enter Try.func26, Try.ntmps26
    go_wp2_with fail
    go_ret2
    exact HC.out _ _ _ (by simp) _ rfl
  · rw [show semaL 7 n x = [⟨9, x⟩] from rfl, show semaR 7 n x = [16 * x] from rfl]
    have HC := Lib.hid (fun o1 o2 => ch_end (l := [⟨9, x⟩]) (rs := [16 * x]) (N := #[.int .i64 9, .int .i64 x]) (R := #[.int .i64 (16 * x)]) (HK.out o1 o2) rfl rfl (by simp) (by simp))
    have HC2 := Lib.hid (fun o1 o2 => ch_end2 (l := [⟨9, x⟩]) (rs := [16 * x]) (N := #[.int .i64 9, .int .i64 x]) (R := #[.int .i64 (16 * x)]) (HK.out o1 o2) rfl rfl (by simp) (by simp))
    have hx16 : 16 * x ≤ 16000 := by omega
    have hx17 : 0 ≤ 16 * x := by omega
    go_enter Try.func26, Try.ntmps26
    go_wp2_with fail
    go_region
    all_goals go_wp2_with fail
    all_goals go_ret2
    all_goals first | exact (HC.out _ _ _ (by simp) _ rfl).drew | exact (HC2.out _ _ _ (by simp) _ rfl).drew

/-- Where Expect's boxes lie. -/
theorem ex_begin (w : World) (k n : Int) {ob : Array Value} {W : World} (hW : ((w.alloc (.cells (idleC k n).toArray 45)).alloc (.cells ob 32)).alloc (.cells zeroC.toArray 45) = W) :
    ThAt w.heap.size (idleC k n) W ∧ W.heap[w.heap.size + 1]? = some (.cells ob 32 (0, 0)) ∧ ThAt (w.heap.size + 1 + 1) zeroC W ∧ Kept (fun _ => False) w W := by
  have k1 : Kept (fun _ => False) (w.alloc (.cells (idleC k n).toArray 45)) W := by rw [← hW]; exact ((Kept.refl _ _).alloc _).alloc _
  have k2 : Kept (fun _ => False) ((w.alloc (.cells (idleC k n).toArray 45)).alloc (.cells ob 32)) W := by rw [← hW]; exact (Kept.refl _ _).alloc _
  have e1 : (w.alloc (.cells (idleC k n).toArray 45)).heap.size = w.heap.size + 1 := by simp
  have e2 : ((w.alloc (.cells (idleC k n).toArray 45)).alloc (.cells ob 32)).heap.size = w.heap.size + 1 + 1 := by simp
  refine ⟨k1.at0 (heap_new1 w _), ?_, ?_, ((Kept.refl _ w).alloc _).tr0 k1⟩
  · rw [← e1]; exact k2.at0 (heap_new1 _ _)
  · show W.heap[w.heap.size + 1 + 1]? = _
    rw [← hW, ← e2]
    exact heap_new1 _ _
/-- What Expect tells: the thing, a mark, and the value. -/
def ExTo (w : World) (y : Int) (x : Nt) (v : Int) (e : Ending) (w' : World) : Prop :=
  ∃ a, e = .returned (.tuple #[.agg (idleC 2 y).toArray, .slice (some ⟨a, 0, none⟩) 1 1, .int .i64 v]) ∧ Elems w' w'.heap.size (some ⟨a, 0, none⟩) 2 Nt.cells [x] ∧ Kept (fun _ => False) w w'

theorem size_sc (g : Nat) : ∀ (vs : List Value) (o : Nat) (w : World), (w.setCells g o vs).heap.size = w.heap.size
  | [], _, _ => rfl
  | v :: vs, o, w => (size_sc g vs (o + 1) _).trans (by simp)
/-- Where Expect's thing and mark lie at its end. -/
theorem ex_end {w W3 : World} {b : Nat} (h : ThAt b zeroC W3) (hk : Kept (fun _ => False) w W3) (hb : w.heap.size ≤ b) (y : Int) (x : Nt) (W : World) (hW : ((W3.setCells b 0 (idleC 2 y)).alloc (.cells #[.int .i64 x.kind, .int .i64 x.value] 77)).drew = W) :
    W.rangeAt b 0 (idleC 2 y) ∧ Elems W W.heap.size (some ⟨W3.heap.size, 0, none⟩) 2 Nt.cells [x] ∧ Kept (fun _ => False) w W := by
  subst hW
  obtain ⟨WS, hWS, hBS, hKS⟩ := th_put h 2 y
  have e : W3.setCells b 0 (idleC 2 y) = WS := hWS
  have es : WS.heap.size = W3.heap.size := by rw [← e]; exact size_sc _ _ _ _
  rw [e]
  have h1 : ((WS.alloc (.cells #[.int .i64 x.kind, .int .i64 x.value] 77)).drew).heap[W3.heap.size]? = some (.cells #[.int .i64 x.kind, .int .i64 x.value] 77 (0, 0)) := by
    rw [← es]; exact heap_new1 WS _
  have hk2 : Kept (fun _ => False) WS ((WS.alloc (.cells #[.int .i64 x.kind, .int .i64 x.value] 77)).drew) := ((Kept.refl _ WS).alloc _).drew
  have h2 := hBS.kept hk2 (fun f => f)
  refine ⟨h2.range, (Elems.block Nt.two h1 (xs := [x]) rfl (by unfold maxLen; simp)).more ?_, (hk.trans hKS (fun i hi e => by omega)).tr0 hk2⟩
  exact (Array.getElem?_eq_some_iff.1 h1).1
/-- What a call tells that tells a thing and two things more. -/
theorem th_results3 {fn : Func} {c t t' : Nat} (hr : fn.results = #[.cell c 45, .tmp t, .tmp t']) {tmps : Array Value} {g : Nat} {cs : List Value} {v v' : Value} {w : World} (h1 : tmps.getD c undef = .pointer (some ⟨g, 0, none⟩)) (h2 : tmps.getD t undef = v) (h3 : tmps.getD t' undef = v') (hB : w.rangeAt g 0 cs) (hl : cs.length = 15) :
    (results fn tmps).run Try.prog w = .ok (.tuple #[.agg cs.toArray, v, v']) w := by
  obtain ⟨d, hu, hd⟩ := und_th
  have h4 := run_loadVar_mid (P := Try.prog) w g 0 45 cs d hB hu hd (by rw [hl]; exact size_th)
  unfold results
  rw [hr]
  rw [Array.getD_eq_getD_getElem?] at h1 h2 h3
  simp [h1, h2, h3, h4, asAddr]

set_option maxHeartbeats 4000000 in
set_option maxRecDepth 100000 in
theorem expect_core (k o n wt x : Int) (br : Bool) (t : Nat) (w : World) (hk : k = 4 ∨ k = 5 ∨ k = 6 ∨ k = 7) (hx0 : 0 ≤ x) (hx : x ≤ 1000) (j : Nat) (y : Int) (nt : Nt) (v : Int) (hnt : (semaL k n x)[j]? = some nt) (hv : (semaR k n x)[j]? = some v)
    (hfirst : ∀ w' a, Elems w' w'.heap.size (some ⟨a, 0, none⟩) 2 Nt.cells (semaL k n x) → Calls Try.prog 27 #[.agg (idleC 2 x).toArray, .int .i64 t, .slice (some ⟨a, 0, none⟩) (semaL k n x).length (semaL k n x).length] w' fun e w'' => e = .returned (.tuple #[.agg (idleC 2 y).toArray, .int .i64 j]) ∧ Kept (fun _ => False) w' w'') :
    Calls Try.prog 17 #[.agg (idleC 2 x).toArray, .int .i64 t, .agg #[.int .i64 k, .int .i64 o, .int .i64 n, .int .i64 wt, .bool br]] w (ExTo w y nt v) := by
  have HCH := Lib.hid (fun w' => choices_any k o n wt x br w' hk hx0 hx)
  have HF1 := Lib.hid hfirst
  have HNT := Lib.hid (And.intro hnt hv)
  have k16 : (k == 16) = false := by rw [beq_eq_false_iff_ne]; omega
  have k19 : (k == 19) = false := by rw [beq_eq_false_iff_ne]; omega
  obtain ⟨L, hL⟩ : ∃ L, semaL k n x = L := ⟨_, rfl⟩
  obtain ⟨R, hR⟩ : ∃ R, semaR k n x = R := ⟨_, rfl⟩
  rw [hL, hR] at HCH HNT
  rw [hL] at HF1
  clear hfirst hnt hv hL hR
  go_enter Try.func17, Try.ntmps17
  go_upto_region 1 with fail
  generalize hW : ((World.alloc w _).alloc _).alloc _ = W
  have hb := ex_begin w 2 x hW
  have HB := Lib.hid hb
  clear hW hb
  obtain ⟨z, hz⟩ : ∃ z, w.heap.size = z := ⟨_, rfl⟩
  rw [hz] at HB ⊢
  have HZ := Lib.hid hz
  clear hz
  obtain ⟨o0, o1, o2, o3, o4, _⟩ := cells5 HB.out.2.1
  go_wp2_with (refine wpList_loadTh rfl rfl rfl HB.out.1 rfl ?_)
  refine (HCH.out W).mono ?_
  rintro e W1 ⟨la, ra, rfl, hl, hr, hk1, hla0, hra0⟩
  have HN := Lib.hid (And.intro hla0 hra0)
  clear hla0 hra0
  have HA1 := Lib.hid (HB.out.1.kept hk1 (fun f => f))
  have HK1 := Lib.hid hk1
  have HL := Lib.hid hl
  have HR := Lib.hid hr
  obtain ⟨ll, hll⟩ : ∃ ll, L.length = ll := ⟨_, rfl⟩
  obtain ⟨rl, hrl⟩ : ∃ rl, R.length = rl := ⟨_, rfl⟩
  have hjl : (j : Int) < (ll : Int) := by have := at_lt HNT.out.1; omega
  have hjr : (j : Int) < (rl : Int) := by have := at_lt HNT.out.2; omega
  rw [hll] at HF1
  rw [hll, hrl]
  clear o0 o1 o2 o3 o4 hk1 hl hr hll hrl
  go_wp2_with (refine wpList_loadTh rfl rfl rfl HA1.out rfl ?_)
  refine (HF1.out W1 la HL.out).mono ?_
  rintro e W2 ⟨rfl, hk2⟩
  have HK2 := Lib.hid (HK1.out.tr0 hk2)
  have HK12 := Lib.hid hk2
  clear hk2
  obtain ⟨b9, hb9⟩ : ∃ b9, W2.heap.size = b9 := ⟨_, rfl⟩
  have HTZ := Lib.hid (th_zero W2)
  have HB9 := Lib.hid hb9
  rw [hb9] at HTZ
  go_upto_region 8 with (refine wpList_storeTh rfl rfl rfl rfl HTZ.out rfl rfl (idle_one 2 y) ?_; intro W3 hb3 hk3; have HE3 := Lib.hid (And.intro hb3 (kept_fresh hb9 hk3)); clear hb3 hk3)
  have HZ3 := Lib.hid (HB.out.2.2.1.kept (HK2.out.tr0 HE3.out.2) (fun f => f))
  obtain ⟨i0, i1, i2, i3, i4, i5, i6, i7, i8, i9, i10, i11, i12, i13, i14⟩ := idle_cells HE3.out.1
  obtain ⟨⟨j0, j1, j2, j3, j4, j5, j6, j7, j8, j9, j10, j11, j12, j13, j14⟩, hfz⟩ := zero_cells HZ3.out
  have hk13 : Kept (fun _ => False) W1 W3 := HK12.out.tr0 HE3.out.2
  obtain ⟨la', lo', e1, hla, hlc⟩ := HL.out.2 j nt HNT.out.1
  simp only [Option.some.injEq, Addr.mk.injEq, and_true] at e1
  obtain ⟨rfl, rfl⟩ := e1
  obtain ⟨ra', ro', e2, hra, hrc⟩ := HR.out.2 j v HNT.out.2
  simp only [Option.some.injEq, Addr.mk.injEq, and_true] at e2
  obtain ⟨rfl, rfl⟩ := e2
  have l0 : W3.cell? ⟨la, j * 2, none⟩ = some (.int .i64 nt.kind) := (hk13.cell (p := ⟨la, j * 2, none⟩) hla (fun f => f)).trans (by have := hlc 0 _ rfl; rwa [Nat.add_zero, Nat.zero_add] at this)
  have l1 : W3.cell? ⟨la, j * 2 + 1, none⟩ = some (.int .i64 nt.value) := (hk13.cell (p := ⟨la, j * 2 + 1, none⟩) hla (fun f => f)).trans (by have := hlc 1 _ rfl; rwa [Nat.zero_add] at this)
  have r0 : W3.cell? ⟨ra, j, none⟩ = some (.int .i64 v) := (hk13.cell (p := ⟨ra, j, none⟩) hra (fun f => f)).trans (by have := hrc 0 _ rfl; rwa [Nat.add_zero, Nat.zero_add, Nat.mul_one] at this)
  have hz2 : z + 1 + 1 < W.heap.size := (Array.getElem?_eq_some_iff.1 HB.out.2.2.1).1
  have s1 := HK1.out.size
  have s2 := HK12.out.size
  have s3 := HE3.out.2.size
  have lt1 : la < W3.heap.size := by omega
  have lt2 : ra < W3.heap.size := by omega
  have lt3 : b9 < W3.heap.size := (Array.getElem?_eq_some_iff.1 HE3.out.1).1
  have lt4 : z + 1 + 1 < W3.heap.size := by omega
  obtain ⟨hn1, hn2⟩ := HN.out
  have n1 : z + 1 + 1 ≠ la := by omega
  have n2 : z + 1 + 1 ≠ ra := by omega
  have n3 : z + 1 + 1 ≠ b9 := by have := HB9.out; omega
  have n4 : la ≠ z + 1 + 1 := n1.symm
  have n5 : ra ≠ z + 1 + 1 := n2.symm
  have n6 : b9 ≠ z + 1 + 1 := n3.symm
  clear hn1 hn2
  go_wp2_with fail
  go_region
  rw [set15_eq]
  generalize hW4 : (World.alloc (World.setCells W3 _ _ _) _).drew = W4
  have h4 := ex_end HZ3.out (HB.out.2.2.2.tr0 (HK2.out.tr0 HE3.out.2)) (show w.heap.size ≤ z + 1 + 1 by have := HZ.out; omega) y nt W4 hW4
  have H4 := Lib.hid h4
  clear hW4 h4 hfz i0 i1 i2 i3 i4 i5 i6 i7 i8 i9 i10 i11 i12 i13 i14 j0 j1 j2 j3 j4 j5 j6 j7 j8 j9 j10 j11 j12 j13 j14 l0 l1 r0
  go_wp2_with fail
  exact bodyPost_ret (th_results3 rfl rfl rfl rfl (cs := idleC 2 y) (g := z + 1 + 1) H4.out.1 rfl) rfl ⟨_, rfl, H4.out.2.1, H4.out.2.2⟩

end Go.Proofs.Ytofnomkedpagfaa
end
section
namespace Go.Proofs.Ytofnomkedpagfaa
open Go.RowKit
set_option linter.unusedVariables false

/-- The thing's permits behind a call, its mark, and its value. -/
def semaX (k n x : Int) : Int × Nt × Int :=
  if k = 4 then if n ≤ x then (x - n, ⟨1, n⟩, 0) else (x, ⟨17, 0⟩, 3)
  else if k = 5 then if n ≤ x then (x - n, ⟨1, n⟩, 0) else (x, ⟨5, n⟩, 1)
  else if k = 6 then if n ≤ 1000 - x then (x + n, ⟨3, n⟩, 0) else (x, ⟨7, n⟩, 5)
  else (0, ⟨9, x⟩, 16 * x)
theorem semaX_range {k n x : Int} (hx0 : 0 ≤ x) (hx : x ≤ 1000) (hn : k = 7 ∨ 1 ≤ n) : 0 ≤ (semaX k n x).1 ∧ (semaX k n x).1 ≤ 1000 := by
  unfold semaX
  repeat' split
  all_goals constructor <;> simp only [] <;> omega

theorem first_zero (x y : Int) (t : Nat) (ht : t < 8) (a : Nt) (l : List Nt) (hl : l.length ≤ 3) (ha : (a.kind == 17) = false) (hc : ∀ w', Calls Try.prog 50 #[.agg (idleC 2 x).toArray, .int .i64 a.kind, .int .i64 a.value] w' (ThTo w' 2 y true)) (w' : World) (b : Nat) (hE : Elems w' w'.heap.size (some ⟨b, 0, none⟩) 2 Nt.cells (a :: l)) :
    Calls Try.prog 27 #[.agg (idleC 2 x).toArray, .int .i64 t, .slice (some ⟨b, 0, none⟩) (a :: l).length (a :: l).length] w' fun e w'' => e = .returned (.tuple #[.agg (idleC 2 y).toArray, .int .i64 (0 : Nat)]) ∧ Kept (fun _ => False) w' w'' :=
  first_any x y t (a :: l) _ _ _ rfl (by simp only [List.length_cons]; omega) 0 (by simp) w' hE (fun i _ hi => absurd hi (by omega)) (fun x' hx' w => by
    have : a = x' := by simpa using hx'
    subst this
    exact do2_any x y a.kind a.value true t ht w ha hc)
theorem first_one (x : Int) (t : Nat) (ht : t < 8) (a c : Nt) (ha : (a.kind == 17) = false) (hc : ∀ w', Calls Try.prog 50 #[.agg (idleC 2 x).toArray, .int .i64 a.kind, .int .i64 a.value] w' (ThTo w' 2 x false)) (hd : ∀ w', Calls Try.prog 37 #[.agg (idleC 2 x).toArray, .int .i64 t, .agg #[.int .i64 c.kind, .int .i64 c.value]] w' (ThTo w' 2 x true)) (w' : World) (b : Nat) (hE : Elems w' w'.heap.size (some ⟨b, 0, none⟩) 2 Nt.cells [a, c]) :
    Calls Try.prog 27 #[.agg (idleC 2 x).toArray, .int .i64 t, .slice (some ⟨b, 0, none⟩) 2 2] w' fun e w'' => e = .returned (.tuple #[.agg (idleC 2 x).toArray, .int .i64 (1 : Nat)]) ∧ Kept (fun _ => False) w' w'' :=
  first_any x x t [a, c] _ _ 2 rfl (by omega) 1 (by omega) w' hE (fun i x' hi hx' w => by
    obtain rfl : i = 0 := by omega
    have : a = x' := by simpa using hx'
    subst this
    exact do2_any x x a.kind a.value false t ht w ha hc) (fun x' hx' w => by
    have : c = x' := by simpa using hx'
    subst this
    exact hd w)

theorem expect_any (k o n wt x : Int) (br : Bool) (t : Nat) (ht : t < 8) (w : World) (hk : k = 4 ∨ k = 5 ∨ k = 6 ∨ k = 7) (hn : k = 7 ∨ 1 ≤ n) (hx0 : 0 ≤ x) (hx : x ≤ 1000) :
    Calls Try.prog 17 #[.agg (idleC 2 x).toArray, .int .i64 t, .agg #[.int .i64 k, .int .i64 o, .int .i64 n, .int .i64 wt, .bool br]] w (ExTo w (semaX k n x).1 (semaX k n x).2.1 (semaX k n x).2.2) := by
  rcases hk with rfl | rfl | rfl | rfl
  · have hn1 : 1 ≤ n := by omega
    by_cases h : n ≤ x
    · have e : semaX 4 n x = (x - n, ⟨1, n⟩, 0) := by simp [semaX, h]
      rw [e]
      exact expect_core 4 o n wt x br t w (by omega) hx0 hx 0 _ _ _ rfl rfl (fun w' a hE => first_zero x (x - n) t ht ⟨1, n⟩ [⟨17, 0⟩] (by simp) rfl (fun w => rsema_yes1 x n w hx0 hx h hn1) w' a hE)
    · have e : semaX 4 n x = (x, ⟨17, 0⟩, 3) := by simp [semaX, h]
      rw [e]
      exact expect_core 4 o n wt x br t w (by omega) hx0 hx 1 _ _ _ rfl rfl (fun w' a hE => first_one x t ht ⟨1, n⟩ ⟨17, 0⟩ rfl (fun w => rsema_no1 x n w hx0 hx (by omega) hn1) (fun w => do2_quit x t ht w) w' a hE)
  · have hn1 : 1 ≤ n := by omega
    by_cases h : n ≤ x
    · have e : semaX 5 n x = (x - n, ⟨1, n⟩, 0) := by simp [semaX, h]
      rw [e]
      exact expect_core 5 o n wt x br t w (by omega) hx0 hx 0 _ _ _ rfl rfl (fun w' a hE => first_zero x (x - n) t ht ⟨1, n⟩ [⟨5, n⟩] (by simp) rfl (fun w => rsema_yes1 x n w hx0 hx h hn1) w' a hE)
    · have e : semaX 5 n x = (x, ⟨5, n⟩, 1) := by simp [semaX, h]
      rw [e]
      exact expect_core 5 o n wt x br t w (by omega) hx0 hx 1 _ _ _ rfl rfl (fun w' a hE => first_one x t ht ⟨1, n⟩ ⟨5, n⟩ rfl (fun w => rsema_no1 x n w hx0 hx (by omega) hn1) (fun w => do2_any x x 5 n true t ht w rfl (fun w => rsema_yes5 x n w hx0 hx (by omega) hn1)) w' a hE)
  · have hn1 : 1 ≤ n := by omega
    by_cases h : n ≤ 1000 - x
    · have e : semaX 6 n x = (x + n, ⟨3, n⟩, 0) := by simp [semaX, h]
      rw [e]
      exact expect_core 6 o n wt x br t w (by omega) hx0 hx 0 _ _ _ rfl rfl (fun w' a hE => first_zero x (x + n) t ht ⟨3, n⟩ [⟨7, n⟩] (by simp) rfl (fun w => rsema_yes3 x n w hx0 hx h hn1) w' a hE)
    · have e : semaX 6 n x = (x, ⟨7, n⟩, 5) := by simp [semaX, h]
      rw [e]
      exact expect_core 6 o n wt x br t w (by omega) hx0 hx 1 _ _ _ rfl rfl (fun w' a hE => first_one x t ht ⟨3, n⟩ ⟨7, n⟩ rfl (fun w => rsema_no3 x n w hx0 hx (by omega) hn1) (fun w => do2_any x x 7 n true t ht w rfl (fun w => rsema_yes7 x n w hx0 hx (by omega) hn1)) w' a hE)
  · have e : semaX 7 n x = (0, ⟨9, x⟩, 16 * x) := by simp [semaX]
    rw [e]
    exact expect_core 7 o n wt x br t w (by omega) hx0 hx 0 _ _ _ rfl rfl (fun w' a hE => first_zero x 0 t ht ⟨9, x⟩ [] (by simp) rfl (fun w => rsema_yes9 x x w hx0 hx rfl) w' a hE)

end Go.Proofs.Ytofnomkedpagfaa
end
