/-
  The statement CellPlays' own step: a deed is done with an arena and with a row of its cells, and both answer alike.
  Conditions: the arena is of 1 to 4096 cells; the deed's numbers are of 64 bits.
-/
import Derived.Test.YtokfkkmkfgdclaaUp
import Derived.Test.YtokfkkmkfgdclaaPlay
import Derived.Deep.RegionHeld3
import Derived.Deep.AppendLies
import Derived.Outline
namespace Go.Proofs.Ytokfkkmkfgdclaa
open Go.RowKit
set_option linter.unusedVariables false

/-- A deed as it is handed over. -/
def deed (t n a o v : Int) : Value := .agg #[.int .i64 t, .int .i64 n, .int .i64 a, .int .i64 o, .int .i64 v]

/-- The arena and the row hold the same again, and the step says true. -/
def Played (W : World) (b : Nat) (most : Int) (e : Ending) (w' : World) : Prop :=
  ∃ ao' cap' zs', e = .returned (.tuple #[.slice ao' zs'.length cap', .bool true]) ∧ (zs'.length : Int) ≤ most ∧ Play W w' b most zs' ao' cap' zs'

structure In64 (x : Int) : Prop where
  lo : -9223372036854775808 ≤ x
  hi : x ≤ 9223372036854775807

section
variable {W w : World} {b : Nat} {most : Int} {zs zs' : List Int} {ao : Option Addr} {cap : Nat} {t n a o v : Int}

set_option maxHeartbeats 1000000 in
set_option maxRecDepth 100000 in
theorem deed_load_out (hP : Play W w b most zs ao cap zs) (h1 : 1 ≤ most) (h2 : most ≤ 4096) (hl : (zs.length : Int) ≤ most) (ht : In64 t) (hq : pickF t 4 = 1) (ha : ¬ (1 ≤ a ∧ a ≤ (zs.length : Int))) :
    Calls Try.prog 12 #[.pointer (some ⟨b, 0, none⟩), .slice ao zs.length cap, .int .i64 most, deed t n a o v] w fun e w' => Played W b most e w' := by
  have hfin : Played W b most (.returned (.tuple #[.slice ao zs.length cap, .bool true])) (w.alloc (.cells #[.int .i64 t, .int .i64 n, .int .i64 a, .int .i64 o, .int .i64 v] 37)) := ⟨ao, cap, zs, rfl, hl, hP.alloc _⟩
  have HF := Lib.hid hfin; clear hfin
  have HQ := Lib.hid hq; clear hq
  have HA := Lib.hid ha; clear ha
  have he := eql_codes
  obtain ⟨t1, t2⟩ := ht
  unfold deed
  by_cases h3 : 1 ≤ a
  · have h4 : ¬ (a ≤ (zs.length : Int)) := by have := HA.out; omega
    go_enter Try.func12, Try.ntmps12
    go_wp2_with fail
    refine (pick_any t 4 _ t1 t2 (by omega) (by omega)).mono ?_
    rintro e w' ⟨rfl, rfl⟩
    rw [HQ.out]
    go_wp2_with fail
    refine (one_load_out a (hP.alloc _).one HA.out).mono ?_
    rintro e w' ⟨rfl, rfl⟩
    go_wp2_with fail
    go_ret2
    exact HF.out
  · go_enter Try.func12, Try.ntmps12
    go_wp2_with fail
    refine (pick_any t 4 _ t1 t2 (by omega) (by omega)).mono ?_
    rintro e w' ⟨rfl, rfl⟩
    rw [HQ.out]
    go_wp2_with fail
    refine (one_load_out a (hP.alloc _).one HA.out).mono ?_
    rintro e w' ⟨rfl, rfl⟩
    go_wp2_with fail
    go_ret2
    exact HF.out

set_option maxHeartbeats 1000000 in
set_option maxRecDepth 100000 in
theorem deed_load_in (hP : Play W w b most zs ao cap zs) (h1 : 1 ≤ most) (h2 : most ≤ 4096) (hl : (zs.length : Int) ≤ most) (ht : In64 t) (hq : pickF t 4 = 1) (h3 : 1 ≤ a) (h4 : a ≤ (zs.length : Int)) :
    Calls Try.prog 12 #[.pointer (some ⟨b, 0, none⟩), .slice ao zs.length cap, .int .i64 most, deed t n a o v] w fun e w' => Played W b most e w' := by
  have HQ := Lib.hid hq; clear hq
  have he := eql_codes
  obtain ⟨t1, t2⟩ := ht
  unfold deed
  have hP1 := hP.alloc (.cells #[.int .i64 t, .int .i64 n, .int .i64 a, .int .i64 o, .int .i64 v] 37)
  obtain ⟨g, rfl, hc, hf⟩ := hP1.at (a.toNat - 1) (by omega)
  have hfin : ∀ k, Played W b most (.returned (.tuple #[.slice (some ⟨g, 0, none⟩) zs.length cap, .bool true])) ((w.alloc (.cells #[.int .i64 t, .int .i64 n, .int .i64 a, .int .i64 o, .int .i64 v] 37)).drewN k) := fun k => ⟨_, cap, zs, rfl, hl, hP1.drewN k⟩
  have HF := Lib.hid hfin; clear hfin
  have i1 : 0 ≤ a - 1 := by omega
  have i2 : a - 1 < (zs.length : Int) := by omega
  have e1 : IntKind.i64.wrap (a - 1) = a - 1 := IntWalk.i64_in _ (by omega)
  go_enter Try.func12, Try.ntmps12
  go_wp2_with fail
  refine (pick_any t 4 _ t1 t2 (by omega) (by omega)).mono ?_
  rintro e w' ⟨rfl, rfl⟩
  rw [HQ.out]
  go_wp2_with fail
  refine (one_load_in a hP1.one h3 h4).mono ?_
  rintro e w' ⟨rfl, rfl⟩
  generalize zs.getD (a.toNat - 1) 0 = x at *
  go_wp2_with fail
  go_quiet (fail)
  go_wp2_with fail
  go_ret2
  exact HF.out _

set_option maxHeartbeats 1000000 in
set_option maxRecDepth 100000 in
theorem deed_store_out (hP : Play W w b most zs ao cap zs) (h1 : 1 ≤ most) (h2 : most ≤ 4096) (hl : (zs.length : Int) ≤ most) (ht : In64 t) (hq : pickF t 4 = 2) (ha : ¬ (1 ≤ a ∧ a ≤ (zs.length : Int))) :
    Calls Try.prog 12 #[.pointer (some ⟨b, 0, none⟩), .slice ao zs.length cap, .int .i64 most, deed t n a o v] w fun e w' => Played W b most e w' := by
  have hP1 := hP.alloc (.cells #[.int .i64 t, .int .i64 n, .int .i64 a, .int .i64 o, .int .i64 v] 37)
  have hfin : ∀ k, Played W b most (.returned (.tuple #[.slice ao zs.length cap, .bool true])) ((w.alloc (.cells #[.int .i64 t, .int .i64 n, .int .i64 a, .int .i64 o, .int .i64 v] 37)).drewN k) := fun k => ⟨ao, cap, zs, rfl, hl, hP1.drewN k⟩
  have HF := Lib.hid hfin; clear hfin
  have HQ := Lib.hid hq; clear hq
  have HA := Lib.hid ha; clear ha
  have he := eql_codes
  obtain ⟨t1, t2⟩ := ht
  unfold deed
  by_cases h3 : 1 ≤ a
  · have h4 : ¬ (a ≤ (zs.length : Int)) := by have := HA.out; omega
    go_enter Try.func12, Try.ntmps12
    go_wp2_with fail
    refine (pick_any t 4 _ t1 t2 (by omega) (by omega)).mono ?_
    rintro e w' ⟨rfl, rfl⟩
    rw [HQ.out]
    go_wp2_with fail
    refine (one_store_out a v hP1.one HA.out).mono ?_
    rintro e w' ⟨rfl, rfl⟩
    go_wp2_with fail
    go_quiet (fail)
    go_wp2_with fail
    go_ret2
    exact HF.out _
  · have h4 : a < 1 := by omega
    go_enter Try.func12, Try.ntmps12
    go_wp2_with fail
    refine (pick_any t 4 _ t1 t2 (by omega) (by omega)).mono ?_
    rintro e w' ⟨rfl, rfl⟩
    rw [HQ.out]
    go_wp2_with fail
    refine (one_store_out a v hP1.one HA.out).mono ?_
    rintro e w' ⟨rfl, rfl⟩
    go_wp2_with fail
    go_quiet (fail)
    go_wp2_with fail
    go_ret2
    exact HF.out _

set_option maxHeartbeats 1000000 in
set_option maxRecDepth 100000 in
theorem deed_swap_out (hP : Play W w b most zs ao cap zs) (h1 : 1 ≤ most) (h2 : most ≤ 4096) (hl : (zs.length : Int) ≤ most) (ht : In64 t) (hq : pickF t 4 = 3) (ha : ¬ (1 ≤ a ∧ a ≤ (zs.length : Int))) :
    Calls Try.prog 12 #[.pointer (some ⟨b, 0, none⟩), .slice ao zs.length cap, .int .i64 most, deed t n a o v] w fun e w' => Played W b most e w' := by
  have hP1 := hP.alloc (.cells #[.int .i64 t, .int .i64 n, .int .i64 a, .int .i64 o, .int .i64 v] 37)
  have hfin : ∀ k, Played W b most (.returned (.tuple #[.slice ao zs.length cap, .bool true])) ((w.alloc (.cells #[.int .i64 t, .int .i64 n, .int .i64 a, .int .i64 o, .int .i64 v] 37)).drewN k) := fun k => ⟨ao, cap, zs, rfl, hl, hP1.drewN k⟩
  have HF := Lib.hid hfin; clear hfin
  have HQ := Lib.hid hq; clear hq
  have HA := Lib.hid ha; clear ha
  have he := eql_codes
  obtain ⟨t1, t2⟩ := ht
  unfold deed
  by_cases h3 : 1 ≤ a
  · have h4 : ¬ (a ≤ (zs.length : Int)) := by have := HA.out; omega
    go_enter Try.func12, Try.ntmps12
    go_wp2_with fail
    refine (pick_any t 4 _ t1 t2 (by omega) (by omega)).mono ?_
    rintro e w' ⟨rfl, rfl⟩
    rw [HQ.out]
    go_wp2_with fail
    refine (one_swap_out a o v hP1.one HA.out).mono ?_
    rintro e w' ⟨rfl, rfl⟩
    go_wp2_with fail
    go_ret2
    exact HF.out 0
  · have h4 : a < 1 := by omega
    go_enter Try.func12, Try.ntmps12
    go_wp2_with fail
    refine (pick_any t 4 _ t1 t2 (by omega) (by omega)).mono ?_
    rintro e w' ⟨rfl, rfl⟩
    rw [HQ.out]
    go_wp2_with fail
    refine (one_swap_out a o v hP1.one HA.out).mono ?_
    rintro e w' ⟨rfl, rfl⟩
    go_wp2_with fail
    go_ret2
    exact HF.out 0

set_option maxHeartbeats 1000000 in
set_option maxRecDepth 100000 in
theorem deed_store_in (hP : Play W w b most zs ao cap zs) (h1 : 1 ≤ most) (h2 : most ≤ 4096) (hl : (zs.length : Int) ≤ most) (ht : In64 t) (hq : pickF t 4 = 2) (h3 : 1 ≤ a) (h4 : a ≤ (zs.length : Int)) :
    Calls Try.prog 12 #[.pointer (some ⟨b, 0, none⟩), .slice ao zs.length cap, .int .i64 most, deed t n a o v] w fun e w' => Played W b most e w' := by
  have HQ := Lib.hid hq; clear hq
  have he := eql_codes
  obtain ⟨t1, t2⟩ := ht
  unfold deed
  have hP1 := hP.alloc (.cells #[.int .i64 t, .int .i64 n, .int .i64 a, .int .i64 o, .int .i64 v] 37)
  have hb0 : (w.alloc (.cells #[.int .i64 t, .int .i64 n, .int .i64 a, .int .i64 o, .int .i64 v] 37)).heap[w.heap.size]? = some (.cells #[.int .i64 t, .int .i64 n, .int .i64 a, .int .i64 o, .int .i64 v] 37 (0, 0)) := heap_alloc_new w _
  obtain ⟨g, rfl, hc, hf⟩ := hP1.at (a.toNat - 1) (by omega)
  have i1 : 0 ≤ a - 1 := by omega
  have i2 : a - 1 < (zs.length : Int) := by omega
  have e1 : IntKind.i64.wrap (a - 1) = a - 1 := IntWalk.i64_in _ (by omega)
  go_enter Try.func12, Try.ntmps12
  go_wp2_with fail
  refine (pick_any t 4 _ t1 t2 (by omega) (by omega)).mono ?_
  rintro e w' ⟨rfl, rfl⟩
  rw [HQ.out]
  go_wp2_with fail
  refine (play_store_in a v hP1 h3 h4).mono ?_
  rintro e w2 ⟨rfl, hP2, hoth⟩
  obtain ⟨g', hg', hc2, hf2⟩ := hP2.at (a.toNat - 1) (by omega)
  obtain rfl : g = g' := by simpa using hg'
  have q2 : w2.cell? ⟨w.heap.size, 2, none⟩ = some (.int .i64 a) := hoth.cell hb0 (by decide) (by decide) 2
  have q4 : w2.cell? ⟨w.heap.size, 4, none⟩ = some (.int .i64 v) := hoth.cell hb0 (by decide) (by decide) 4
  have hfin : ∀ k, Played W b most (.returned (.tuple #[.slice (some ⟨g, 0, none⟩) zs.length cap, .bool true])) ((w2.setCell ⟨g, a.toNat - 1, none⟩ (.int .i64 v)).drewN k) := fun k => ⟨some ⟨g, 0, none⟩, cap, zs.set (a.toNat - 1) v, by simp, by simpa using hl, by
    have h := (hP2.set (a.toNat - 1) v).drewN k
    simpa using h⟩
  have HF := Lib.hid hfin; clear hfin hg' hoth
  clear hc hf hb0
  go_wp2_with fail
  go_quiet (fail)
  go_wp2_with fail
  go_ret2
  exact HF.out _

set_option maxHeartbeats 1000000 in
set_option maxRecDepth 100000 in
theorem deed_swap_yes (hP : Play W w b most zs ao cap zs) (h1 : 1 ≤ most) (h2 : most ≤ 4096) (hl : (zs.length : Int) ≤ most) (ht : In64 t) (hq : pickF t 4 = 3) (h3 : 1 ≤ a) (h4 : a ≤ (zs.length : Int)) (ho : zs.getD (a.toNat - 1) 0 = o) :
    Calls Try.prog 12 #[.pointer (some ⟨b, 0, none⟩), .slice ao zs.length cap, .int .i64 most, deed t n a o v] w fun e w' => Played W b most e w' := by
  have HQ := Lib.hid hq; clear hq
  have he := eql_codes
  obtain ⟨t1, t2⟩ := ht
  unfold deed
  have hP1 := hP.alloc (.cells #[.int .i64 t, .int .i64 n, .int .i64 a, .int .i64 o, .int .i64 v] 37)
  have hb0 : (w.alloc (.cells #[.int .i64 t, .int .i64 n, .int .i64 a, .int .i64 o, .int .i64 v] 37)).heap[w.heap.size]? = some (.cells #[.int .i64 t, .int .i64 n, .int .i64 a, .int .i64 o, .int .i64 v] 37 (0, 0)) := heap_alloc_new w _
  obtain ⟨g, rfl, hc, hf⟩ := hP1.at (a.toNat - 1) (by omega)
  have i1 : 0 ≤ a - 1 := by omega
  have i2 : a - 1 < (zs.length : Int) := by omega
  have e1 : IntKind.i64.wrap (a - 1) = a - 1 := IntWalk.i64_in _ (by omega)
  have HO := Lib.hid ho; clear ho
  go_enter Try.func12, Try.ntmps12
  go_wp2_with fail
  refine (pick_any t 4 _ t1 t2 (by omega) (by omega)).mono ?_
  rintro e w' ⟨rfl, rfl⟩
  rw [HQ.out]
  go_wp2_with fail
  refine (play_swap_yes a o v hP1 h3 h4 HO.out).mono ?_
  rintro e w2 ⟨rfl, hP2, hoth⟩
  obtain ⟨g', hg', hc2, hf2⟩ := hP2.at (a.toNat - 1) (by omega)
  obtain rfl : g = g' := by simpa using hg'
  have q2 : w2.cell? ⟨w.heap.size, 2, none⟩ = some (.int .i64 a) := hoth.cell hb0 (by decide) (by decide) 2
  have q3 : w2.cell? ⟨w.heap.size, 3, none⟩ = some (.int .i64 o) := hoth.cell hb0 (by decide) (by decide) 3
  have q4 : w2.cell? ⟨w.heap.size, 4, none⟩ = some (.int .i64 v) := hoth.cell hb0 (by decide) (by decide) 4
  rw [HO.out] at hc2
  have hfin : ∀ k, Played W b most (.returned (.tuple #[.slice (some ⟨g, 0, none⟩) zs.length cap, .bool true])) ((w2.setCell ⟨g, a.toNat - 1, none⟩ (.int .i64 v)).drewN k) := fun k => ⟨some ⟨g, 0, none⟩, cap, zs.set (a.toNat - 1) v, by simp, by simpa using hl, by
    have h := (hP2.set (a.toNat - 1) v).drewN k
    simpa using h⟩
  have HF := Lib.hid hfin; clear hfin hg' hoth
  clear hc hf hb0
  go_wp2_with fail
  go_quiet (fail)
  go_wp2_with fail
  go_ret2
  exact HF.out _

set_option maxHeartbeats 1000000 in
set_option maxRecDepth 100000 in
theorem deed_swap_no (hP : Play W w b most zs ao cap zs) (h1 : 1 ≤ most) (h2 : most ≤ 4096) (hl : (zs.length : Int) ≤ most) (ht : In64 t) (hq : pickF t 4 = 3) (h3 : 1 ≤ a) (h4 : a ≤ (zs.length : Int)) (ho : zs.getD (a.toNat - 1) 0 ≠ o) :
    Calls Try.prog 12 #[.pointer (some ⟨b, 0, none⟩), .slice ao zs.length cap, .int .i64 most, deed t n a o v] w fun e w' => Played W b most e w' := by
  have HQ := Lib.hid hq; clear hq
  have he := eql_codes
  obtain ⟨t1, t2⟩ := ht
  unfold deed
  have hP1 := hP.alloc (.cells #[.int .i64 t, .int .i64 n, .int .i64 a, .int .i64 o, .int .i64 v] 37)
  have hb0 : (w.alloc (.cells #[.int .i64 t, .int .i64 n, .int .i64 a, .int .i64 o, .int .i64 v] 37)).heap[w.heap.size]? = some (.cells #[.int .i64 t, .int .i64 n, .int .i64 a, .int .i64 o, .int .i64 v] 37 (0, 0)) := heap_alloc_new w _
  obtain ⟨g, rfl, hc, hf⟩ := hP1.at (a.toNat - 1) (by omega)
  have i1 : 0 ≤ a - 1 := by omega
  have i2 : a - 1 < (zs.length : Int) := by omega
  have e1 : IntKind.i64.wrap (a - 1) = a - 1 := IntWalk.i64_in _ (by omega)
  have hfin : ∀ k, Played W b most (.returned (.tuple #[.slice (some ⟨g, 0, none⟩) zs.length cap, .bool true])) ((w.alloc (.cells #[.int .i64 t, .int .i64 n, .int .i64 a, .int .i64 o, .int .i64 v] 37)).drewN k) := fun k => ⟨_, cap, zs, rfl, hl, hP1.drewN k⟩
  have HF := Lib.hid hfin; clear hfin
  have hne : (zs.getD (a.toNat - 1) 0 == o) = false := by simpa using ho
  have HO := Lib.hid ho; clear ho
  have HNE := Lib.hid hne; clear hne
  go_enter Try.func12, Try.ntmps12
  go_wp2_with fail
  refine (pick_any t 4 _ t1 t2 (by omega) (by omega)).mono ?_
  rintro e w' ⟨rfl, rfl⟩
  rw [HQ.out]
  go_wp2_with fail
  refine (one_swap_no a o v hP1.one h3 h4 HO.out).mono ?_
  rintro e w2 ⟨rfl, rfl⟩
  have hne := HNE.out
  clear HNE HO
  generalize zs.getD (a.toNat - 1) 0 = x at *
  go_wp2_with fail
  go_quiet (fail)
  go_wp2_with fail
  go_ret2
  exact HF.out _

set_option maxHeartbeats 1000000 in
set_option maxRecDepth 100000 in
theorem deed_alloc_arg (hP : Play W w b most zs ao cap zs) (h1 : 1 ≤ most) (h2 : most ≤ 4096) (hl : (zs.length : Int) ≤ most) (ht : In64 t) (hq : pickF t 4 = 0) (hn : n < 1)  :
    Calls Try.prog 12 #[.pointer (some ⟨b, 0, none⟩), .slice ao zs.length cap, .int .i64 most, deed t n a o v] w fun e w' => Played W b most e w' := by
  have HQ := Lib.hid hq; clear hq
  have he := eql_codes
  obtain ⟨t1, t2⟩ := ht
  unfold deed
  have hP1 := hP.alloc (.cells #[.int .i64 t, .int .i64 n, .int .i64 a, .int .i64 o, .int .i64 v] 37)
  have hb0 : (w.alloc (.cells #[.int .i64 t, .int .i64 n, .int .i64 a, .int .i64 o, .int .i64 v] 37)).heap[w.heap.size]? = some (.cells #[.int .i64 t, .int .i64 n, .int .i64 a, .int .i64 o, .int .i64 v] 37 (0, 0)) := heap_alloc_new w _
  have HB0 := Lib.hid hb0; clear hb0
  by_cases g1 : 1 ≤ a
  · by_cases g2 : a ≤ (zs.length : Int)
    · have g3 : True := trivial
      have hfin : Played W b most (.returned (.tuple #[.slice ao zs.length cap, .bool true])) (w.alloc (.cells #[.int .i64 t, .int .i64 n, .int .i64 a, .int .i64 o, .int .i64 v] 37)) := ⟨ao, cap, zs, rfl, hl, hP1⟩
      have HF := Lib.hid hfin; clear hfin
      go_enter Try.func12, Try.ntmps12
      go_wp2_with fail
      refine (pick_any t 4 _ t1 t2 (by omega) (by omega)).mono ?_
      rintro e w' ⟨rfl, rfl⟩
      rw [HQ.out]
      go_wp2_with fail
      refine (alloc_arg b n _ hn).mono ?_
      rintro e w2 ⟨rfl, rfl⟩
      go_wp2_with fail
      go_ret2
      exact HF.out
    · have g3 : True := trivial
      have hfin : Played W b most (.returned (.tuple #[.slice ao zs.length cap, .bool true])) (w.alloc (.cells #[.int .i64 t, .int .i64 n, .int .i64 a, .int .i64 o, .int .i64 v] 37)) := ⟨ao, cap, zs, rfl, hl, hP1⟩
      have HF := Lib.hid hfin; clear hfin
      go_enter Try.func12, Try.ntmps12
      go_wp2_with fail
      refine (pick_any t 4 _ t1 t2 (by omega) (by omega)).mono ?_
      rintro e w' ⟨rfl, rfl⟩
      rw [HQ.out]
      go_wp2_with fail
      refine (alloc_arg b n _ hn).mono ?_
      rintro e w2 ⟨rfl, rfl⟩
      go_wp2_with fail
      go_ret2
      exact HF.out
  · have g3 : a < 1 := by omega
    have hfin : Played W b most (.returned (.tuple #[.slice ao zs.length cap, .bool true])) (w.alloc (.cells #[.int .i64 t, .int .i64 n, .int .i64 a, .int .i64 o, .int .i64 v] 37)) := ⟨ao, cap, zs, rfl, hl, hP1⟩
    have HF := Lib.hid hfin; clear hfin
    go_enter Try.func12, Try.ntmps12
    go_wp2_with fail
    refine (pick_any t 4 _ t1 t2 (by omega) (by omega)).mono ?_
    rintro e w' ⟨rfl, rfl⟩
    rw [HQ.out]
    go_wp2_with fail
    refine (alloc_arg b n _ hn).mono ?_
    rintro e w2 ⟨rfl, rfl⟩
    go_wp2_with fail
    go_ret2
    exact HF.out

set_option maxHeartbeats 1000000 in
set_option maxRecDepth 100000 in
theorem deed_alloc_full (hP : Play W w b most zs ao cap zs) (h1 : 1 ≤ most) (h2 : most ≤ 4096) (hl : (zs.length : Int) ≤ most) (ht : In64 t) (hq : pickF t 4 = 0) (hn : 1 ≤ n) (hn2 : most - zs.length < n)  :
    Calls Try.prog 12 #[.pointer (some ⟨b, 0, none⟩), .slice ao zs.length cap, .int .i64 most, deed t n a o v] w fun e w' => Played W b most e w' := by
  have HQ := Lib.hid hq; clear hq
  have he := eql_codes
  obtain ⟨t1, t2⟩ := ht
  unfold deed
  have hP1 := hP.alloc (.cells #[.int .i64 t, .int .i64 n, .int .i64 a, .int .i64 o, .int .i64 v] 37)
  have hb0 : (w.alloc (.cells #[.int .i64 t, .int .i64 n, .int .i64 a, .int .i64 o, .int .i64 v] 37)).heap[w.heap.size]? = some (.cells #[.int .i64 t, .int .i64 n, .int .i64 a, .int .i64 o, .int .i64 v] 37 (0, 0)) := heap_alloc_new w _
  have HB0 := Lib.hid hb0; clear hb0
  by_cases g1 : 1 ≤ a
  · by_cases g2 : a ≤ (zs.length : Int)
    · have g3 : True := trivial
      have hn0 : ¬ (n < 1) := by omega
      go_enter Try.func12, Try.ntmps12
      go_wp2_with fail
      refine (pick_any t 4 _ t1 t2 (by omega) (by omega)).mono ?_
      rintro e w' ⟨rfl, rfl⟩
      rw [HQ.out]
      go_wp2_with fail
      refine (play_alloc_full n hP1 (by omega) h2 hn hn2).mono ?_
      rintro e w2 ⟨rfl, hP2, hoth⟩
      have q1 : w2.cell? ⟨w.heap.size, 1, none⟩ = some (.int .i64 n) := hoth.cell HB0.out (by decide) (by decide) 1
      have hfin : Played W b most (.returned (.tuple #[.slice ao zs.length cap, .bool true])) w2 := ⟨ao, cap, zs, rfl, hl, hP2⟩
      have HF := Lib.hid hfin; clear hfin hoth
      go_wp2_with fail
      go_ret2
      exact HF.out
    · have g3 : True := trivial
      have hn0 : ¬ (n < 1) := by omega
      go_enter Try.func12, Try.ntmps12
      go_wp2_with fail
      refine (pick_any t 4 _ t1 t2 (by omega) (by omega)).mono ?_
      rintro e w' ⟨rfl, rfl⟩
      rw [HQ.out]
      go_wp2_with fail
      refine (play_alloc_full n hP1 (by omega) h2 hn hn2).mono ?_
      rintro e w2 ⟨rfl, hP2, hoth⟩
      have q1 : w2.cell? ⟨w.heap.size, 1, none⟩ = some (.int .i64 n) := hoth.cell HB0.out (by decide) (by decide) 1
      have hfin : Played W b most (.returned (.tuple #[.slice ao zs.length cap, .bool true])) w2 := ⟨ao, cap, zs, rfl, hl, hP2⟩
      have HF := Lib.hid hfin; clear hfin hoth
      go_wp2_with fail
      go_ret2
      exact HF.out
  · have g3 : a < 1 := by omega
    have hn0 : ¬ (n < 1) := by omega
    go_enter Try.func12, Try.ntmps12
    go_wp2_with fail
    refine (pick_any t 4 _ t1 t2 (by omega) (by omega)).mono ?_
    rintro e w' ⟨rfl, rfl⟩
    rw [HQ.out]
    go_wp2_with fail
    refine (play_alloc_full n hP1 (by omega) h2 hn hn2).mono ?_
    rintro e w2 ⟨rfl, hP2, hoth⟩
    have q1 : w2.cell? ⟨w.heap.size, 1, none⟩ = some (.int .i64 n) := hoth.cell HB0.out (by decide) (by decide) 1
    have hfin : Played W b most (.returned (.tuple #[.slice ao zs.length cap, .bool true])) w2 := ⟨ao, cap, zs, rfl, hl, hP2⟩
    have HF := Lib.hid hfin; clear hfin hoth
    go_wp2_with fail
    go_ret2
    exact HF.out


end
end Go.Proofs.Ytokfkkmkfgdclaa
