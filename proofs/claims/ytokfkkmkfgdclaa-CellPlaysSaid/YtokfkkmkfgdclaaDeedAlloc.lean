/-
  The statement CellPlays' own step where it allocates cells: the arena and the row come to the same.
  Conditions: there is room for as many cells.
-/
import Derived.Test.YtokfkkmkfgdclaaDeed
namespace Go.Proofs.Ytokfkkmkfgdclaa
open Go.RowKit
set_option linter.unusedVariables false

section
variable {W w : World} {b : Nat} {most : Int} {zs zs' : List Int} {ao : Option Addr} {cap : Nat} {t n a o v : Int}

theorem row_base {base : Nat} {e : TypeId} {size : Nat} {v : Value} {n : Nat} {xs : List Value} (h : w.ownsRow base e size v n xs) : w.ownsRow 0 e size v n xs := by
  refine ⟨h.1, ?_⟩
  rcases h.2 with h2 | ⟨g, cap, cur, h3, _, h4⟩
  · exact .inl h2
  · exact .inr ⟨g, cap, cur, h3, Nat.zero_le _, h4⟩

theorem Play.row (hP : Play W w b most zs ao cap zs') : w.ownsRow 0 2 1 (.slice ao zs'.length cap) zs'.length (zs'.map (Value.int .i64)) := by
  obtain ⟨_, _, h, _⟩ := hP
  exact h

set_option maxHeartbeats 1000000 in
set_option maxRecDepth 100000 in
theorem deed_alloc_in1 {m : Nat} (hP : Play W w b most zs ao cap zs) (h1 : 1 ≤ most) (h2 : most ≤ 4096) (hl : (zs.length : Int) ≤ most) (ht : In64 t) (hq : pickF t 4 = 0) (hn : 1 ≤ (m : Int)) (hn2 : (m : Int) ≤ most - zs.length) (g1 : 1 ≤ a) (g2 : a ≤ (zs.length : Int)) :
    Calls Try.prog 12 #[.pointer (some ⟨b, 0, none⟩), .slice ao zs.length cap, .int .i64 most, deed t m a o v] w fun e w' => Played W b most e w' := by
  have HQ := Lib.hid hq; clear hq
  have he := eql_codes
  obtain ⟨t1, t2⟩ := ht
  unfold deed
  have hP1 := hP.alloc (.cells #[.int .i64 t, .int .i64 m, .int .i64 a, .int .i64 o, .int .i64 v] 37)
  have hb0 : (w.alloc (.cells #[.int .i64 t, .int .i64 m, .int .i64 a, .int .i64 o, .int .i64 v] 37)).heap[w.heap.size]? = some (.cells #[.int .i64 t, .int .i64 m, .int .i64 a, .int .i64 o, .int .i64 v] 37 (0, 0)) := heap_alloc_new w _
  have HB0 := Lib.hid hb0; clear hb0
  obtain ⟨i0, hi, hz0, hz1, hz2⟩ := info_parts Try.info2
  have HI := Lib.hid hi; clear hi
  have HZ0 := Lib.hid hz0; clear hz0
  have HZ1 := Lib.hid hz1; clear hz1
  have HZ2 := Lib.hid hz2; clear hz2
  have hn0 : ¬ ((m : Int) < 1) := by omega
  have hn3 : ¬ (most - zs.length < (m : Int)) := by omega
  go_enter Try.func12, Try.ntmps12
  go_wp2_with fail
  refine (pick_any t 4 _ t1 t2 (by omega) (by omega)).mono ?_
  rintro e w' ⟨rfl, rfl⟩
  rw [HQ.out]
  go_wp2_with fail
  refine (play_alloc_in m hP1 (by omega) h2 hn hn2).mono ?_
  rintro e w2 ⟨rfl, hP2, hoth⟩
  have q1 : w2.cell? ⟨w.heap.size, 1, none⟩ = some (.int .i64 m) := hoth.cell HB0.out (by decide) (by decide) 1
  have hbl : w.heap.size < w2.heap.size := World.block_lt_of_cell? w2 _ q1
  have HROW := Lib.hid hP2.row
  clear hoth
  go_wp2_with fail
  go_region_held3 (fun w' => w'.cell? ⟨w.heap.size, 1, none⟩ = some (.int .i64 m))
    (first
      | go_keep
      | exact World.grownBy.cell hgrow1 (by assumption) hne1
      | exact World.grownBy.cell hgrow2 (by assumption) hne2)
    (first
      | (refine step_append_src _ (by rfl) _ _ _ (by rfl) w2.heap.size 2 i0 (.int .i64 0) 1 8 Try.underlying33 HI.out HZ0.out HZ1.out HZ2.out rfl (by decide) _ 0 [] (by rfl) (by exact World.ownsRow_made w2.drew #[] 0 (Nat.le_refl _) (Nat.zero_le _) rfl) 0 _ zs.length (zs.map (Value.int .i64)) (by rfl) (by exact (HROW.out.drew).alloc _) (by intro u hu; obtain ⟨x, _, rfl⟩ := List.mem_map.1 hu; rfl) (by unfold maxLen; omega) (by omega) (by simp) ?_
         intro v1 w3 hown1 hgrow1 hat1
         have hne1 : some w.heap.size ≠ Value.ownBlock (.slice (some ⟨w2.heap.size, 0, none⟩) 0 0) := by simp [Value.ownBlock]; omega)
      | (refine step_append_zeros _ (by rfl) _ _ _ _ (by rfl) w2.heap.size 2 i0 (.int .i64 0) .i64 .i64 1 8 Try.underlying33 Try.underlying3 HI.out HZ0.out HZ1.out HZ2.out rfl (by decide) v1 (0 + zs.length) ([] ++ zs.map (Value.int .i64)) (by rfl) hown1 m (by rfl) (by omega) (by intro u hu; rw [zeroCells_int] at hu; rw [List.eq_of_mem_replicate hu]; rfl) (by unfold maxLen; omega) (by omega) (by have := hgrow1.size; simp at this; omega) ?_
         intro g cap' w4 hown2 hgrow2 hat2
         have hne2 : some w.heap.size ≠ v1.ownBlock := by intro e; have := (hown1.lt _ e.symm).1; omega))
  have hk1 : Kept (fun _ => False) w2 w3 := Kept.grown (by exact ((Kept.refl _ w2).drew).alloc _) hgrow1 (fun k hk e => by have e' : some w2.heap.size = some k := e; cases e'; exact absurd hk (Nat.lt_irrefl _))
  have hk2 : Kept (fun _ => False) w2 w4 := hk1.grown hgrow2 (fun k hk e => by have := (hown1.lt _ e).1; omega)
  have hfin : Played W b most (.returned (.tuple #[.slice (some ⟨g, 0, none⟩) (zs.length + m) cap', .bool true])) w4 := by
    refine ⟨some ⟨g, 0, none⟩, cap', zs ++ List.replicate m 0, by simp, by simp; omega, ?_⟩
    refine Play.renew (n := 0 + zs.length + m) (w := w2) (ys := zs) (ao := ao) (cap := cap) (by simpa using hP2) (by simp) ?_ (hown2.lt g rfl).1 hk2
    simpa [zeroCells_int] using row_base hown2
  have HF := Lib.hid hfin
  clear hfin hk1 hk2 hgrow1 hgrow2 hown1 hown2 hat1 hat2 hne1 hne2
  go_wp2
  go_ret2
  simpa using HF.out

set_option maxHeartbeats 1000000 in
set_option maxRecDepth 100000 in
theorem deed_alloc_in2 {m : Nat} (hP : Play W w b most zs ao cap zs) (h1 : 1 ≤ most) (h2 : most ≤ 4096) (hl : (zs.length : Int) ≤ most) (ht : In64 t) (hq : pickF t 4 = 0) (hn : 1 ≤ (m : Int)) (hn2 : (m : Int) ≤ most - zs.length) (g1 : 1 ≤ a) (g2 : ¬ (a ≤ (zs.length : Int))) :
    Calls Try.prog 12 #[.pointer (some ⟨b, 0, none⟩), .slice ao zs.length cap, .int .i64 most, deed t m a o v] w fun e w' => Played W b most e w' := by
  have HQ := Lib.hid hq; clear hq
  have he := eql_codes
  obtain ⟨t1, t2⟩ := ht
  unfold deed
  have hP1 := hP.alloc (.cells #[.int .i64 t, .int .i64 m, .int .i64 a, .int .i64 o, .int .i64 v] 37)
  have hb0 : (w.alloc (.cells #[.int .i64 t, .int .i64 m, .int .i64 a, .int .i64 o, .int .i64 v] 37)).heap[w.heap.size]? = some (.cells #[.int .i64 t, .int .i64 m, .int .i64 a, .int .i64 o, .int .i64 v] 37 (0, 0)) := heap_alloc_new w _
  have HB0 := Lib.hid hb0; clear hb0
  obtain ⟨i0, hi, hz0, hz1, hz2⟩ := info_parts Try.info2
  have HI := Lib.hid hi; clear hi
  have HZ0 := Lib.hid hz0; clear hz0
  have HZ1 := Lib.hid hz1; clear hz1
  have HZ2 := Lib.hid hz2; clear hz2
  have hn0 : ¬ ((m : Int) < 1) := by omega
  have hn3 : ¬ (most - zs.length < (m : Int)) := by omega
  go_enter Try.func12, Try.ntmps12
  go_wp2_with fail
  refine (pick_any t 4 _ t1 t2 (by omega) (by omega)).mono ?_
  rintro e w' ⟨rfl, rfl⟩
  rw [HQ.out]
  go_wp2_with fail
  refine (play_alloc_in m hP1 (by omega) h2 hn hn2).mono ?_
  rintro e w2 ⟨rfl, hP2, hoth⟩
  have q1 : w2.cell? ⟨w.heap.size, 1, none⟩ = some (.int .i64 m) := hoth.cell HB0.out (by decide) (by decide) 1
  have hbl : w.heap.size < w2.heap.size := World.block_lt_of_cell? w2 _ q1
  have HROW := Lib.hid hP2.row
  clear hoth
  go_wp2_with fail
  go_region_held3 (fun w' => w'.cell? ⟨w.heap.size, 1, none⟩ = some (.int .i64 m))
    (first
      | go_keep
      | exact World.grownBy.cell hgrow1 (by assumption) hne1
      | exact World.grownBy.cell hgrow2 (by assumption) hne2)
    (first
      | (refine step_append_src _ (by rfl) _ _ _ (by rfl) w2.heap.size 2 i0 (.int .i64 0) 1 8 Try.underlying33 HI.out HZ0.out HZ1.out HZ2.out rfl (by decide) _ 0 [] (by rfl) (by exact World.ownsRow_made w2.drew #[] 0 (Nat.le_refl _) (Nat.zero_le _) rfl) 0 _ zs.length (zs.map (Value.int .i64)) (by rfl) (by exact (HROW.out.drew).alloc _) (by intro u hu; obtain ⟨x, _, rfl⟩ := List.mem_map.1 hu; rfl) (by unfold maxLen; omega) (by omega) (by simp) ?_
         intro v1 w3 hown1 hgrow1 hat1
         have hne1 : some w.heap.size ≠ Value.ownBlock (.slice (some ⟨w2.heap.size, 0, none⟩) 0 0) := by simp [Value.ownBlock]; omega)
      | (refine step_append_zeros _ (by rfl) _ _ _ _ (by rfl) w2.heap.size 2 i0 (.int .i64 0) .i64 .i64 1 8 Try.underlying33 Try.underlying3 HI.out HZ0.out HZ1.out HZ2.out rfl (by decide) v1 (0 + zs.length) ([] ++ zs.map (Value.int .i64)) (by rfl) hown1 m (by rfl) (by omega) (by intro u hu; rw [zeroCells_int] at hu; rw [List.eq_of_mem_replicate hu]; rfl) (by unfold maxLen; omega) (by omega) (by have := hgrow1.size; simp at this; omega) ?_
         intro g cap' w4 hown2 hgrow2 hat2
         have hne2 : some w.heap.size ≠ v1.ownBlock := by intro e; have := (hown1.lt _ e.symm).1; omega))
  have hk1 : Kept (fun _ => False) w2 w3 := Kept.grown (by exact ((Kept.refl _ w2).drew).alloc _) hgrow1 (fun k hk e => by have e' : some w2.heap.size = some k := e; cases e'; exact absurd hk (Nat.lt_irrefl _))
  have hk2 : Kept (fun _ => False) w2 w4 := hk1.grown hgrow2 (fun k hk e => by have := (hown1.lt _ e).1; omega)
  have hfin : Played W b most (.returned (.tuple #[.slice (some ⟨g, 0, none⟩) (zs.length + m) cap', .bool true])) w4 := by
    refine ⟨some ⟨g, 0, none⟩, cap', zs ++ List.replicate m 0, by simp, by simp; omega, ?_⟩
    refine Play.renew (n := 0 + zs.length + m) (w := w2) (ys := zs) (ao := ao) (cap := cap) (by simpa using hP2) (by simp) ?_ (hown2.lt g rfl).1 hk2
    simpa [zeroCells_int] using row_base hown2
  have HF := Lib.hid hfin
  clear hfin hk1 hk2 hgrow1 hgrow2 hown1 hown2 hat1 hat2 hne1 hne2
  go_wp2
  go_ret2
  simpa using HF.out

set_option maxHeartbeats 1000000 in
set_option maxRecDepth 100000 in
theorem deed_alloc_in3 {m : Nat} (hP : Play W w b most zs ao cap zs) (h1 : 1 ≤ most) (h2 : most ≤ 4096) (hl : (zs.length : Int) ≤ most) (ht : In64 t) (hq : pickF t 4 = 0) (hn : 1 ≤ (m : Int)) (hn2 : (m : Int) ≤ most - zs.length) (g3 : a < 1) :
    Calls Try.prog 12 #[.pointer (some ⟨b, 0, none⟩), .slice ao zs.length cap, .int .i64 most, deed t m a o v] w fun e w' => Played W b most e w' := by
  have HQ := Lib.hid hq; clear hq
  have he := eql_codes
  obtain ⟨t1, t2⟩ := ht
  unfold deed
  have hP1 := hP.alloc (.cells #[.int .i64 t, .int .i64 m, .int .i64 a, .int .i64 o, .int .i64 v] 37)
  have hb0 : (w.alloc (.cells #[.int .i64 t, .int .i64 m, .int .i64 a, .int .i64 o, .int .i64 v] 37)).heap[w.heap.size]? = some (.cells #[.int .i64 t, .int .i64 m, .int .i64 a, .int .i64 o, .int .i64 v] 37 (0, 0)) := heap_alloc_new w _
  have HB0 := Lib.hid hb0; clear hb0
  obtain ⟨i0, hi, hz0, hz1, hz2⟩ := info_parts Try.info2
  have HI := Lib.hid hi; clear hi
  have HZ0 := Lib.hid hz0; clear hz0
  have HZ1 := Lib.hid hz1; clear hz1
  have HZ2 := Lib.hid hz2; clear hz2
  have hn0 : ¬ ((m : Int) < 1) := by omega
  have hn3 : ¬ (most - zs.length < (m : Int)) := by omega
  go_enter Try.func12, Try.ntmps12
  go_wp2_with fail
  refine (pick_any t 4 _ t1 t2 (by omega) (by omega)).mono ?_
  rintro e w' ⟨rfl, rfl⟩
  rw [HQ.out]
  go_wp2_with fail
  refine (play_alloc_in m hP1 (by omega) h2 hn hn2).mono ?_
  rintro e w2 ⟨rfl, hP2, hoth⟩
  have q1 : w2.cell? ⟨w.heap.size, 1, none⟩ = some (.int .i64 m) := hoth.cell HB0.out (by decide) (by decide) 1
  have hbl : w.heap.size < w2.heap.size := World.block_lt_of_cell? w2 _ q1
  have HROW := Lib.hid hP2.row
  clear hoth
  go_wp2_with fail
  go_region_held3 (fun w' => w'.cell? ⟨w.heap.size, 1, none⟩ = some (.int .i64 m))
    (first
      | go_keep
      | exact World.grownBy.cell hgrow1 (by assumption) hne1
      | exact World.grownBy.cell hgrow2 (by assumption) hne2)
    (first
      | (refine step_append_src _ (by rfl) _ _ _ (by rfl) w2.heap.size 2 i0 (.int .i64 0) 1 8 Try.underlying33 HI.out HZ0.out HZ1.out HZ2.out rfl (by decide) _ 0 [] (by rfl) (by exact World.ownsRow_made w2.drew #[] 0 (Nat.le_refl _) (Nat.zero_le _) rfl) 0 _ zs.length (zs.map (Value.int .i64)) (by rfl) (by exact (HROW.out.drew).alloc _) (by intro u hu; obtain ⟨x, _, rfl⟩ := List.mem_map.1 hu; rfl) (by unfold maxLen; omega) (by omega) (by simp) ?_
         intro v1 w3 hown1 hgrow1 hat1
         have hne1 : some w.heap.size ≠ Value.ownBlock (.slice (some ⟨w2.heap.size, 0, none⟩) 0 0) := by simp [Value.ownBlock]; omega)
      | (refine step_append_zeros _ (by rfl) _ _ _ _ (by rfl) w2.heap.size 2 i0 (.int .i64 0) .i64 .i64 1 8 Try.underlying33 Try.underlying3 HI.out HZ0.out HZ1.out HZ2.out rfl (by decide) v1 (0 + zs.length) ([] ++ zs.map (Value.int .i64)) (by rfl) hown1 m (by rfl) (by omega) (by intro u hu; rw [zeroCells_int] at hu; rw [List.eq_of_mem_replicate hu]; rfl) (by unfold maxLen; omega) (by omega) (by have := hgrow1.size; simp at this; omega) ?_
         intro g cap' w4 hown2 hgrow2 hat2
         have hne2 : some w.heap.size ≠ v1.ownBlock := by intro e; have := (hown1.lt _ e.symm).1; omega))
  have hk1 : Kept (fun _ => False) w2 w3 := Kept.grown (by exact ((Kept.refl _ w2).drew).alloc _) hgrow1 (fun k hk e => by have e' : some w2.heap.size = some k := e; cases e'; exact absurd hk (Nat.lt_irrefl _))
  have hk2 : Kept (fun _ => False) w2 w4 := hk1.grown hgrow2 (fun k hk e => by have := (hown1.lt _ e).1; omega)
  have hfin : Played W b most (.returned (.tuple #[.slice (some ⟨g, 0, none⟩) (zs.length + m) cap', .bool true])) w4 := by
    refine ⟨some ⟨g, 0, none⟩, cap', zs ++ List.replicate m 0, by simp, by simp; omega, ?_⟩
    refine Play.renew (n := 0 + zs.length + m) (w := w2) (ys := zs) (ao := ao) (cap := cap) (by simpa using hP2) (by simp) ?_ (hown2.lt g rfl).1 hk2
    simpa [zeroCells_int] using row_base hown2
  have HF := Lib.hid hfin
  clear hfin hk1 hk2 hgrow1 hgrow2 hown1 hown2 hat1 hat2 hne1 hne2
  go_wp2
  go_ret2
  simpa using HF.out


theorem deed_any (hP : Play W w b most zs ao cap zs) (h1 : 1 ≤ most) (h2 : most ≤ 4096) (hl : (zs.length : Int) ≤ most) (ht : In64 t) :
    Calls Try.prog 12 #[.pointer (some ⟨b, 0, none⟩), .slice ao zs.length cap, .int .i64 most, deed t n a o v] w fun e w' => Played W b most e w' := by
  have hp := pickF_in t 4 (by omega)
  by_cases q0 : pickF t 4 = 0
  · by_cases hn : n < 1
    · exact deed_alloc_arg hP h1 h2 hl ht q0 hn
    by_cases hn2 : most - zs.length < n
    · exact deed_alloc_full hP h1 h2 hl ht q0 (by omega) hn2
    obtain ⟨m, rfl⟩ : ∃ m : Nat, n = m := ⟨n.toNat, by omega⟩
    by_cases g1 : 1 ≤ a
    · by_cases g2 : a ≤ (zs.length : Int)
      · exact deed_alloc_in1 hP h1 h2 hl ht q0 (by omega) (by omega) g1 g2
      · exact deed_alloc_in2 hP h1 h2 hl ht q0 (by omega) (by omega) g1 g2
    · exact deed_alloc_in3 hP h1 h2 hl ht q0 (by omega) (by omega) (by omega)
  by_cases ha : 1 ≤ a ∧ a ≤ (zs.length : Int)
  · obtain ⟨h3, h4⟩ := ha
    by_cases q1 : pickF t 4 = 1
    · exact deed_load_in hP h1 h2 hl ht q1 h3 h4
    by_cases q2 : pickF t 4 = 2
    · exact deed_store_in hP h1 h2 hl ht q2 h3 h4
    have q3 : pickF t 4 = 3 := by omega
    by_cases ho : zs.getD (a.toNat - 1) 0 = o
    · exact deed_swap_yes hP h1 h2 hl ht q3 h3 h4 ho
    · exact deed_swap_no hP h1 h2 hl ht q3 h3 h4 ho
  · by_cases q1 : pickF t 4 = 1
    · exact deed_load_out hP h1 h2 hl ht q1 ha
    by_cases q2 : pickF t 4 = 2
    · exact deed_store_out hP h1 h2 hl ht q2 ha
    have q3 : pickF t 4 = 3 := by omega
    exact deed_swap_out hP h1 h2 hl ht q3 ha

end
end Go.Proofs.Ytokfkkmkfgdclaa
