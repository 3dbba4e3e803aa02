/-
  A thing's fifteen cells loaded and stored in one step; a call that tells a thing and whether.
  Conditions: none; these are lemmas for the walks.
  What the document's answer of layer 10 comes to at a Sema's thing.
  Conditions: its permits are at most 1000.
  What the document's Do of layer 10 comes to at a Sema's thing, where it is asked.
  Conditions: its permits are at most 1000; the thread is one of eight.
-/
import Derived.Test.YtofnomkedpagfaaMachW
import Derived.Deep.CutBlock
import Derived.LoopTactic
import Derived.RegionTactic
import Derived.Deep.RegionLaw
section
namespace Go.Proofs.Ytofnomkedpagfaa
open Go.RowKit
set_option linter.unusedVariables false

/-- A thing that nobody holds, reads or waits for, and without an offer. -/
def idleC (k n : Int) : List Value := [.int .i64 k, .int .i64 n, .int .i64 (-1), .int .i64 0, .int .i64 0, .int .i64 0, .int .i64 0, .int .i64 0, .int .i64 0, .int .i64 0, .int .i64 0, .int .i64 0, .slice none 0 0, .int .i64 (-1), .int .i64 0]
/-- The zero thing. -/
def zeroC : List Value := [.int .i64 0, .int .i64 0, .int .i64 0, .int .i64 0, .int .i64 0, .int .i64 0, .int .i64 0, .int .i64 0, .int .i64 0, .int .i64 0, .int .i64 0, .int .i64 0, .slice none 0 0, .int .i64 0, .int .i64 0]
theorem idle_len (k n : Int) : (idleC k n).length = 15 := rfl
theorem idle_one (k n : Int) : ∀ v ∈ idleC k n, v.oneCell' = true := by
  intro v hv
  simp only [idleC, List.mem_cons, List.not_mem_nil, or_false] at hv
  rcases hv with h | h | h | h | h | h | h | h | h | h | h | h | h | h | h <;> subst h <;> rfl
/-- Block b holds these cells of a thing. -/
def ThAt (b : Nat) (cs : List Value) (w : World) : Prop := w.heap[b]? = some (.cells cs.toArray 45 (0, 0))
theorem und_th : ∃ d, Try.prog.underlying 45 = some d ∧ d.isRow = true := ⟨_, Try.underlying45, rfl⟩
theorem size_th : (Try.prog.info? 45).map (·.size) = some 15 := by kernel_rfl
theorem ThAt.range {b : Nat} {cs : List Value} {w : World} (h : ThAt b cs w) : w.rangeAt b 0 cs := fun j v hv => by
  rw [Nat.zero_add, cell_at w b j _ _ h, List.getElem?_toArray]
  exact hv
theorem ThAt.kept {S : Nat → Prop} {b : Nat} {cs : List Value} {w w' : World} (h : ThAt b cs w) (hk : Kept S w w') (hb : ¬ S b) : ThAt b cs w' := hk.at_ h hb
theorem load_th {w : World} {b : Nat} {cs : List Value} (h : ThAt b cs w) (hl : cs.length = 15) : (Instr.loadAt 45 (.pointer (some ⟨b, 0, none⟩))).run Try.prog w = .ok (.agg cs.toArray) w := by
  obtain ⟨d, hu, hd⟩ := und_th
  exact run_loadAt_mid w b 0 45 cs d h.range hu hd (by rw [hl]; exact size_th)
theorem store_th {w : World} {b : Nat} {c0 cs : List Value} (h : ThAt b c0 w) (h0 : c0.length = 15) (hl : cs.length = 15) (h1 : ∀ v ∈ cs, v.oneCell' = true) :
    ∃ W, (Instr.storeAt 45 (.pointer (some ⟨b, 0, none⟩)) (.agg cs.toArray)).run Try.prog w = .ok () W ∧ ThAt b cs W ∧ Kept (fun k => k = b) w W := by
  have h2 := run_storeCells_from (P := Try.prog) b 45 cs 0 c0.toArray w h (by simp [h0, hl]) h1
  have hs : (sizeOf 45).run Try.prog w = .ok 15 w := by kernel_rfl
  rw [List.take_zero, List.nil_append] at h2
  refine ⟨w.setRow b cs.toArray, ?_, setRow_heap w b _ _ _ _ h, ⟨rfl, rfl, rfl, Nat.le_of_eq (size_setRow _ _ _).symm, fun k _ hk => setRow_other _ _ _ _ hk⟩⟩
  have e : (Value.agg cs.toArray).cells = cs.toArray := rfl
  simp only [Instr.storeAt, Instr.sureAddr, storeVar, Sem.run_bind, Sem.run_pure, Result.andThen_ok, hs, e]
  rw [if_neg (by rw [List.size_toArray, hl]; simp)]
  exact h2
section
variable {ops : Array Oper} {rest : List Oper} {o : Oper} {a : Act} {w : World} {Q : Exit → Act → World → Prop} {b : Nat} {c0 cs : List Value}
theorem wpList_loadTh {p : Operand} (hw : Region.wanted o (yielded ops a.tmps) = true) (ho : o.op = .load 45 p) (hp : a.eval p = .pointer (some ⟨b, 0, none⟩)) (hB : ThAt b cs w) (hl : cs.length = 15)
    (h : wpList Try.prog ops Q rest (a.put o.dst (.agg cs.toArray)) w) : wpList Try.prog ops Q (o :: rest) a w := by
  unfold wpList
  rw [if_pos hw]
  refine .inl ?_
  unfold Oper.wp execOp
  simp only [ho, hp, Sem.run_bind, Sem.run_pure, Result.andThen_ok, load_th hB hl]
  exact h
theorem wpList_storeTh {p v : Operand} (hw : Region.wanted o (yielded ops a.tmps) = true) (ho : o.op = .store 45 p v) (hp : a.eval p = .pointer (some ⟨b, 0, none⟩)) (hv : a.eval v = .agg cs.toArray) (hB : ThAt b c0 w) (h0 : c0.length = 15) (hl : cs.length = 15) (h1 : ∀ v ∈ cs, v.oneCell' = true)
    (h : ∀ W, ThAt b cs W → Kept (fun k => k = b) w W → wpList Try.prog ops Q rest (a.put o.dst (.tuple #[])) W) : wpList Try.prog ops Q (o :: rest) a w := by
  obtain ⟨W, hrun, hB2, hk⟩ := store_th (cs := cs) hB h0 hl h1
  unfold wpList
  rw [if_pos hw]
  refine .inl ?_
  unfold Oper.wp execOp
  simp only [ho, hp, hv, Sem.run_bind, Sem.run_pure, Result.andThen_ok, hrun]
  exact h W hB2 hk
end
section
variable {ops : Array Oper} {o : Oper} {a : Act} {w : World} {K : Act → World → Prop} {Q : Exit → Act → World → Prop} {E : Prop} {b : Nat} {c0 cs : List Value}
theorem step_loadTh (hgd : o.guard = none) (p : Operand) (ho : o.op = .load 45 p) (hp : a.eval p = .pointer (some ⟨b, 0, none⟩)) (hB : ThAt b cs w) (hl : cs.length = 15) (h : K (a.put o.dst (.agg cs.toArray)) w) :
    if Region.wanted o (yielded ops a.tmps) = true then Oper.wp Try.prog o a w K Q else E := by
  have hw : Region.wanted o (yielded ops a.tmps) = true := by simp [Region.wanted, hgd]
  rw [if_pos hw]
  unfold Oper.wp execOp
  simp only [ho, hp, Sem.run_bind, Sem.run_pure, Result.andThen_ok, load_th hB hl]
  exact h
theorem step_storeTh (hgd : o.guard = none) (p v : Operand) (ho : o.op = .store 45 p v) (hp : a.eval p = .pointer (some ⟨b, 0, none⟩)) (hv : a.eval v = .agg cs.toArray) (hB : ThAt b c0 w) (h0 : c0.length = 15) (hl : cs.length = 15) (h1 : ∀ v ∈ cs, v.oneCell' = true)
    (h : ∀ W, ThAt b cs W → Kept (fun k => k = b) w W → K (a.put o.dst (.tuple #[])) W) :
    if Region.wanted o (yielded ops a.tmps) = true then Oper.wp Try.prog o a w K Q else E := by
  obtain ⟨W, hrun, hB2, hk⟩ := store_th (cs := cs) hB h0 hl h1
  have hw : Region.wanted o (yielded ops a.tmps) = true := by simp [Region.wanted, hgd]
  rw [if_pos hw]
  unfold Oper.wp execOp
  simp only [ho, hp, hv, Sem.run_bind, Sem.run_pure, Result.andThen_ok, hrun]
  exact h W hB2 hk
end
/-- What a call tells that tells a thing and one thing more. -/
theorem th_results {fn : Func} {c t : Nat} (hr : fn.results = #[.cell c 45, .tmp t]) {tmps : Array Value} {g : Nat} {cs : List Value} {v : Value} {w : World} (h1 : tmps.getD c undef = .pointer (some ⟨g, 0, none⟩)) (h2 : tmps.getD t undef = v) (hB : ThAt g cs w) (hl : cs.length = 15) :
    (results fn tmps).run Try.prog w = .ok (.tuple #[.agg cs.toArray, v]) w := by
  obtain ⟨d, hu, hd⟩ := und_th
  have h3 := run_loadVar_mid (P := Try.prog) w g 0 45 cs d hB.range hu hd (by rw [hl]; exact size_th)
  unfold results
  rw [hr]
  rw [Array.getD_eq_getD_getElem?] at h1 h2
  simp [h1, h2, h3, asAddr]

theorem th_results_r {fn : Func} {c t : Nat} (hr : fn.results = #[.cell c 45, .tmp t]) {tmps : Array Value} {g : Nat} {cs : List Value} {v : Value} {w : World} (h1 : tmps.getD c undef = .pointer (some ⟨g, 0, none⟩)) (h2 : tmps.getD t undef = v) (hB : w.rangeAt g 0 cs) (hl : cs.length = 15) :
    (results fn tmps).run Try.prog w = .ok (.tuple #[.agg cs.toArray, v]) w := by
  obtain ⟨d, hu, hd⟩ := und_th
  have h3 := run_loadVar_mid (P := Try.prog) w g 0 45 cs d hB hu hd (by rw [hl]; exact size_th)
  unfold results
  rw [hr]
  rw [Array.getD_eq_getD_getElem?] at h1 h2
  simp [h1, h2, h3, asAddr]
theorem idle_cells {w : World} {b : Nat} {k n : Int} (h : ThAt b (idleC k n) w) : w.cell? ⟨b, 0, none⟩ = some (.int .i64 k) ∧ w.cell? ⟨b, 1, none⟩ = some (.int .i64 n) ∧ w.cell? ⟨b, 2, none⟩ = some (.int .i64 (-1)) ∧ w.cell? ⟨b, 3, none⟩ = some (.int .i64 0) ∧ w.cell? ⟨b, 4, none⟩ = some (.int .i64 0) ∧ w.cell? ⟨b, 5, none⟩ = some (.int .i64 0) ∧ w.cell? ⟨b, 6, none⟩ = some (.int .i64 0) ∧ w.cell? ⟨b, 7, none⟩ = some (.int .i64 0) ∧ w.cell? ⟨b, 8, none⟩ = some (.int .i64 0) ∧ w.cell? ⟨b, 9, none⟩ = some (.int .i64 0) ∧ w.cell? ⟨b, 10, none⟩ = some (.int .i64 0) ∧ w.cell? ⟨b, 11, none⟩ = some (.int .i64 0) ∧ w.cell? ⟨b, 12, none⟩ = some (.slice none 0 0) ∧ w.cell? ⟨b, 13, none⟩ = some (.int .i64 (-1)) ∧ w.cell? ⟨b, 14, none⟩ = some (.int .i64 0) :=
  ⟨by rw [cell_at w b 0 _ _ h]; rfl, by rw [cell_at w b 1 _ _ h]; rfl, by rw [cell_at w b 2 _ _ h]; rfl, by rw [cell_at w b 3 _ _ h]; rfl, by rw [cell_at w b 4 _ _ h]; rfl, by rw [cell_at w b 5 _ _ h]; rfl, by rw [cell_at w b 6 _ _ h]; rfl, by rw [cell_at w b 7 _ _ h]; rfl, by rw [cell_at w b 8 _ _ h]; rfl, by rw [cell_at w b 9 _ _ h]; rfl, by rw [cell_at w b 10 _ _ h]; rfl, by rw [cell_at w b 11 _ _ h]; rfl, by rw [cell_at w b 12 _ _ h]; rfl, by rw [cell_at w b 13 _ _ h]; rfl, by rw [cell_at w b 14 _ _ h]; rfl⟩
theorem zero_cells {w : World} {b : Nat} (h : ThAt b zeroC w) : (w.cell? ⟨b, 0, none⟩ = some (.int .i64 0) ∧ w.cell? ⟨b, 1, none⟩ = some (.int .i64 0) ∧ w.cell? ⟨b, 2, none⟩ = some (.int .i64 0) ∧ w.cell? ⟨b, 3, none⟩ = some (.int .i64 0) ∧ w.cell? ⟨b, 4, none⟩ = some (.int .i64 0) ∧ w.cell? ⟨b, 5, none⟩ = some (.int .i64 0) ∧ w.cell? ⟨b, 6, none⟩ = some (.int .i64 0) ∧ w.cell? ⟨b, 7, none⟩ = some (.int .i64 0) ∧ w.cell? ⟨b, 8, none⟩ = some (.int .i64 0) ∧ w.cell? ⟨b, 9, none⟩ = some (.int .i64 0) ∧ w.cell? ⟨b, 10, none⟩ = some (.int .i64 0) ∧ w.cell? ⟨b, 11, none⟩ = some (.int .i64 0) ∧ w.cell? ⟨b, 12, none⟩ = some (.slice none 0 0) ∧ w.cell? ⟨b, 13, none⟩ = some (.int .i64 0) ∧ w.cell? ⟨b, 14, none⟩ = some (.int .i64 0)) ∧ ∀ o, w.frozen? ⟨b, o, none⟩ = false :=
  ⟨⟨by rw [cell_at w b 0 _ _ h]; rfl, by rw [cell_at w b 1 _ _ h]; rfl, by rw [cell_at w b 2 _ _ h]; rfl, by rw [cell_at w b 3 _ _ h]; rfl, by rw [cell_at w b 4 _ _ h]; rfl, by rw [cell_at w b 5 _ _ h]; rfl, by rw [cell_at w b 6 _ _ h]; rfl, by rw [cell_at w b 7 _ _ h]; rfl, by rw [cell_at w b 8 _ _ h]; rfl, by rw [cell_at w b 9 _ _ h]; rfl, by rw [cell_at w b 10 _ _ h]; rfl, by rw [cell_at w b 11 _ _ h]; rfl, by rw [cell_at w b 12 _ _ h]; rfl, by rw [cell_at w b 13 _ _ h]; rfl, by rw [cell_at w b 14 _ _ h]; rfl⟩, fun o => frozen_at w b o _ _ h⟩
/-- What was stored cell by cell. -/
theorem stored_range {w : World} {b : Nat} {c0 cs : List Value} (h : ThAt b c0 w) (h0 : c0.length = 15) (hl : cs.length = 15) : (w.setCells b 0 cs).rangeAt b 0 cs :=
  World.rangeAt_setCells_same w b 0 cs (fun j hj => ⟨by
    rw [Nat.zero_add, cell_at w b j _ _ h, List.getElem?_toArray, List.getElem?_eq_getElem (by omega)]
    rfl, by rw [Nat.zero_add]; exact frozen_at w b j _ _ h⟩)
/-- Fifteen stores, one by one. -/
theorem set15_eq (W : World) (b : Nat) (x0 x1 x2 x3 x4 x5 x6 x7 x8 x9 x10 x11 x12 x13 x14 : Value) : (((((((((((((((W.setCell ⟨b, 0, none⟩ x0).setCell ⟨b, 1, none⟩ x1).setCell ⟨b, 2, none⟩ x2).setCell ⟨b, 3, none⟩ x3).setCell ⟨b, 4, none⟩ x4).setCell ⟨b, 5, none⟩ x5).setCell ⟨b, 6, none⟩ x6).setCell ⟨b, 7, none⟩ x7).setCell ⟨b, 8, none⟩ x8).setCell ⟨b, 9, none⟩ x9).setCell ⟨b, 10, none⟩ x10).setCell ⟨b, 11, none⟩ x11).setCell ⟨b, 12, none⟩ x12).setCell ⟨b, 13, none⟩ x13).setCell ⟨b, 14, none⟩ x14) = W.setCells b 0 [x0, x1, x2, x3, x4, x5, x6, x7, x8, x9, x10, x11, x12, x13, x14] := rfl
/-- A call that tells a thing, and whether; it turns nothing that was there. -/
def ThTo (w : World) (k n : Int) (r : Bool) (e : Ending) (w' : World) : Prop := e = .returned (.tuple #[.agg (idleC k n).toArray, .bool r]) ∧ Kept (fun _ => False) w w'

end Go.Proofs.Ytofnomkedpagfaa
end
section
namespace Go.Proofs.Ytofnomkedpagfaa
open Go.RowKit
set_option linter.unusedVariables false
set_option linter.unusedSimpArgs false

/-- Where the boxes lie when a call with a thing begins. -/
theorem th_begin (w : World) (k n : Int) {W : World} (hW : (w.alloc (.cells (idleC k n).toArray 45)).alloc (.cells zeroC.toArray 45) = W) :
    ThAt w.heap.size (idleC k n) W ∧ ThAt (w.heap.size + 1) zeroC W ∧ Kept (fun _ => False) w W := by
  have k1 : Kept (fun _ => False) (w.alloc (.cells (idleC k n).toArray 45)) W := by rw [← hW]; exact (Kept.refl _ _).alloc _
  have e1 : (w.alloc (.cells (idleC k n).toArray 45)).heap.size = w.heap.size + 1 := by simp
  refine ⟨k1.at0 (heap_new1 w _), ?_, ((Kept.refl _ w).alloc _).tr0 k1⟩
  show W.heap[w.heap.size + 1]? = _
  rw [← hW, ← e1]
  exact heap_new1 _ _






set_option maxHeartbeats 2000000 in
set_option maxRecDepth 100000 in
theorem rsema_no1 (n v : Int) (w : World) (hn0 : 0 ≤ n) (hn1 : n ≤ 1000) (hv : n < v) (hv1 : 1 ≤ v) : Calls Try.prog 50 #[.agg (idleC 2 n).toArray, .int .i64 1, .int .i64 v] w (ThTo w 2 (n) false) := by
  have q2 : ¬ v ≤ n := by omega
  go_enter Try.func50, Try.ntmps50
  go_upto_region 1 with fail
  generalize hW : (World.alloc w _).alloc _ = W
  have hb := th_begin w 2 n hW
  have HB := Lib.hid hb
  clear hW hb
  obtain ⟨z, hz⟩ : ∃ z, w.heap.size = z := ⟨_, rfl⟩
  rw [hz] at HB ⊢
  have HZ := Lib.hid hz
  clear hz
  have a0 : W.cell? ⟨z, 0, none⟩ = some (.int .i64 2) := by rw [cell_at W z 0 _ _ HB.out.1]; rfl
  have a1 : W.cell? ⟨z, 1, none⟩ = some (.int .i64 n) := by rw [cell_at W z 1 _ _ HB.out.1]; rfl
  have a2 : W.frozen? ⟨z, 1, none⟩ = false := frozen_at W z 1 _ _ HB.out.1
  go_wp2_with (first
    | refine wpList_loadTh rfl rfl rfl HB.out.1 rfl ?_
    | (refine wpList_storeTh rfl rfl rfl rfl HB.out.2.1 rfl rfl (idle_one 2 n) ?_; intro W2 hb2 hk2; have HE := Lib.hid (And.intro hb2 hk2); clear hb2 hk2))
  exact bodyPost_ret (th_results rfl rfl rfl HE.out.1 rfl) rfl ⟨rfl, HB.out.2.2.trans HE.out.2 (fun i hi e => by have := HZ.out; omega)⟩

set_option maxHeartbeats 2000000 in
set_option maxRecDepth 100000 in
theorem rsema_yes1 (n v : Int) (w : World) (hn0 : 0 ≤ n) (hn1 : n ≤ 1000) (hv : v ≤ n) (hv1 : 1 ≤ v) : Calls Try.prog 50 #[.agg (idleC 2 n).toArray, .int .i64 1, .int .i64 v] w (ThTo w 2 (n - v) true) := by
  have q3 : n - v ≤ 1000 := by omega
  have q4 : 0 ≤ n - v := by omega
  go_enter Try.func50, Try.ntmps50
  go_upto_region 1 with fail
  generalize hW : (World.alloc w _).alloc _ = W
  have hb := th_begin w 2 n hW
  have HB := Lib.hid hb
  clear hW hb
  obtain ⟨z, hz⟩ : ∃ z, w.heap.size = z := ⟨_, rfl⟩
  rw [hz] at HB ⊢
  have HZ := Lib.hid hz
  clear hz
  have a0 : W.cell? ⟨z, 0, none⟩ = some (.int .i64 2) := by rw [cell_at W z 0 _ _ HB.out.1]; rfl
  have a1 : W.cell? ⟨z, 1, none⟩ = some (.int .i64 n) := by rw [cell_at W z 1 _ _ HB.out.1]; rfl
  have a2 : W.frozen? ⟨z, 1, none⟩ = false := frozen_at W z 1 _ _ HB.out.1
  go_upto_region 6 with fail
  generalize hW3 : World.setCell W _ _ = W3
  have h3 : ThAt z (idleC 2 (n - v)) W3 ∧ ThAt (z + 1) zeroC W3 ∧ Kept (fun _ => False) w W3 := by
    have hk : Kept (fun k => k = z) W (W.setCell ⟨z, 1, none⟩ (.int .i64 (n - v))) := (Kept.refl _ W).setCell _ _ (fun _ => rfl)
    rw [hW3] at hk
    refine ⟨?_, HB.out.2.1.kept hk (by omega), ?_⟩
    · show W3.heap[z]? = _
      rw [← hW3]
      exact set_cellM HB.out.1
    · exact HB.out.2.2.trans hk (fun i hi e => by have := HZ.out; omega)
  have HB3 := Lib.hid h3
  clear hW3 h3 a0 a1 a2
  go_wp2_with (first
    | refine wpList_loadTh rfl rfl rfl HB3.out.1 rfl ?_
    | (refine wpList_storeTh rfl rfl rfl rfl HB3.out.2.1 rfl rfl (idle_one 2 (n - v)) ?_; intro W2 hb2 hk2; have HE := Lib.hid (And.intro hb2 hk2); clear hb2 hk2))
  exact bodyPost_ret (th_results rfl rfl rfl HE.out.1 rfl) rfl ⟨rfl, HB3.out.2.2.trans HE.out.2 (fun i hi e => by have := HZ.out; omega)⟩

set_option maxHeartbeats 2000000 in
set_option maxRecDepth 100000 in
theorem rsema_no3 (n v : Int) (w : World) (hn0 : 0 ≤ n) (hn1 : n ≤ 1000) (hv : 1000 - n < v) (hv1 : 1 ≤ v) : Calls Try.prog 50 #[.agg (idleC 2 n).toArray, .int .i64 3, .int .i64 v] w (ThTo w 2 (n) false) := by
  have q2 : ¬ v ≤ 1000 - n := by omega
  have q3 : 1000 - n ≤ 1000 := by omega
  have q4 : 0 ≤ 1000 - n := by omega
  go_enter Try.func50, Try.ntmps50
  go_upto_region 1 with fail
  generalize hW : (World.alloc w _).alloc _ = W
  have hb := th_begin w 2 n hW
  have HB := Lib.hid hb
  clear hW hb
  obtain ⟨z, hz⟩ : ∃ z, w.heap.size = z := ⟨_, rfl⟩
  rw [hz] at HB ⊢
  have HZ := Lib.hid hz
  clear hz
  have a0 : W.cell? ⟨z, 0, none⟩ = some (.int .i64 2) := by rw [cell_at W z 0 _ _ HB.out.1]; rfl
  have a1 : W.cell? ⟨z, 1, none⟩ = some (.int .i64 n) := by rw [cell_at W z 1 _ _ HB.out.1]; rfl
  have a2 : W.frozen? ⟨z, 1, none⟩ = false := frozen_at W z 1 _ _ HB.out.1
  go_wp2_with (first
    | refine wpList_loadTh rfl rfl rfl HB.out.1 rfl ?_
    | (refine wpList_storeTh rfl rfl rfl rfl HB.out.2.1 rfl rfl (idle_one 2 n) ?_; intro W2 hb2 hk2; have HE := Lib.hid (And.intro hb2 hk2); clear hb2 hk2))
  exact bodyPost_ret (th_results rfl rfl rfl HE.out.1 rfl) rfl ⟨rfl, HB.out.2.2.trans HE.out.2 (fun i hi e => by have := HZ.out; omega)⟩

set_option maxHeartbeats 2000000 in
set_option maxRecDepth 100000 in
theorem rsema_yes3 (n v : Int) (w : World) (hn0 : 0 ≤ n) (hn1 : n ≤ 1000) (hv : v ≤ 1000 - n) (hv1 : 1 ≤ v) : Calls Try.prog 50 #[.agg (idleC 2 n).toArray, .int .i64 3, .int .i64 v] w (ThTo w 2 (n + v) true) := by
  have q3 : 1000 - n ≤ 1000 := by omega
  have q4 : 0 ≤ 1000 - n := by omega
  have q5 : n + v ≤ 1000 := by omega
  have q6 : 0 ≤ n + v := by omega
  go_enter Try.func50, Try.ntmps50
  go_upto_region 1 with fail
  generalize hW : (World.alloc w _).alloc _ = W
  have hb := th_begin w 2 n hW
  have HB := Lib.hid hb
  clear hW hb
  obtain ⟨z, hz⟩ : ∃ z, w.heap.size = z := ⟨_, rfl⟩
  rw [hz] at HB ⊢
  have HZ := Lib.hid hz
  clear hz
  have a0 : W.cell? ⟨z, 0, none⟩ = some (.int .i64 2) := by rw [cell_at W z 0 _ _ HB.out.1]; rfl
  have a1 : W.cell? ⟨z, 1, none⟩ = some (.int .i64 n) := by rw [cell_at W z 1 _ _ HB.out.1]; rfl
  have a2 : W.frozen? ⟨z, 1, none⟩ = false := frozen_at W z 1 _ _ HB.out.1
  go_upto_region 10 with fail
  generalize hW3 : World.setCell W _ _ = W3
  have h3 : ThAt z (idleC 2 (n + v)) W3 ∧ ThAt (z + 1) zeroC W3 ∧ Kept (fun _ => False) w W3 := by
    have hk : Kept (fun k => k = z) W (W.setCell ⟨z, 1, none⟩ (.int .i64 (n + v))) := (Kept.refl _ W).setCell _ _ (fun _ => rfl)
    rw [hW3] at hk
    refine ⟨?_, HB.out.2.1.kept hk (by omega), ?_⟩
    · show W3.heap[z]? = _
      rw [← hW3]
      exact set_cellM HB.out.1
    · exact HB.out.2.2.trans hk (fun i hi e => by have := HZ.out; omega)
  have HB3 := Lib.hid h3
  clear hW3 h3 a0 a1 a2
  go_wp2_with (first
    | refine wpList_loadTh rfl rfl rfl HB3.out.1 rfl ?_
    | (refine wpList_storeTh rfl rfl rfl rfl HB3.out.2.1 rfl rfl (idle_one 2 (n + v)) ?_; intro W2 hb2 hk2; have HE := Lib.hid (And.intro hb2 hk2); clear hb2 hk2))
  exact bodyPost_ret (th_results rfl rfl rfl HE.out.1 rfl) rfl ⟨rfl, HB3.out.2.2.trans HE.out.2 (fun i hi e => by have := HZ.out; omega)⟩

set_option maxHeartbeats 2000000 in
set_option maxRecDepth 100000 in
theorem rsema_yes5 (n v : Int) (w : World) (hn0 : 0 ≤ n) (hn1 : n ≤ 1000) (hv : n < v) (hv1 : 1 ≤ v) : Calls Try.prog 50 #[.agg (idleC 2 n).toArray, .int .i64 5, .int .i64 v] w (ThTo w 2 (n) true) := by
  have q2 : ¬ v ≤ n := by omega
  go_enter Try.func50, Try.ntmps50
  go_upto_region 1 with fail
  generalize hW : (World.alloc w _).alloc _ = W
  have hb := th_begin w 2 n hW
  have HB := Lib.hid hb
  clear hW hb
  obtain ⟨z, hz⟩ : ∃ z, w.heap.size = z := ⟨_, rfl⟩
  rw [hz] at HB ⊢
  have HZ := Lib.hid hz
  clear hz
  have a0 : W.cell? ⟨z, 0, none⟩ = some (.int .i64 2) := by rw [cell_at W z 0 _ _ HB.out.1]; rfl
  have a1 : W.cell? ⟨z, 1, none⟩ = some (.int .i64 n) := by rw [cell_at W z 1 _ _ HB.out.1]; rfl
  have a2 : W.frozen? ⟨z, 1, none⟩ = false := frozen_at W z 1 _ _ HB.out.1
  go_wp2_with (first
    | refine wpList_loadTh rfl rfl rfl HB.out.1 rfl ?_
    | (refine wpList_storeTh rfl rfl rfl rfl HB.out.2.1 rfl rfl (idle_one 2 n) ?_; intro W2 hb2 hk2; have HE := Lib.hid (And.intro hb2 hk2); clear hb2 hk2))
  exact bodyPost_ret (th_results rfl rfl rfl HE.out.1 rfl) rfl ⟨rfl, HB.out.2.2.trans HE.out.2 (fun i hi e => by have := HZ.out; omega)⟩

set_option maxHeartbeats 2000000 in
set_option maxRecDepth 100000 in
theorem rsema_yes7 (n v : Int) (w : World) (hn0 : 0 ≤ n) (hn1 : n ≤ 1000) (hv : 1000 - n < v) (hv1 : 1 ≤ v) : Calls Try.prog 50 #[.agg (idleC 2 n).toArray, .int .i64 7, .int .i64 v] w (ThTo w 2 (n) true) := by
  have q3 : 1000 - n ≤ 1000 := by omega
  have q4 : 0 ≤ 1000 - n := by omega
  go_enter Try.func50, Try.ntmps50
  go_upto_region 1 with fail
  generalize hW : (World.alloc w _).alloc _ = W
  have hb := th_begin w 2 n hW
  have HB := Lib.hid hb
  clear hW hb
  obtain ⟨z, hz⟩ : ∃ z, w.heap.size = z := ⟨_, rfl⟩
  rw [hz] at HB ⊢
  have HZ := Lib.hid hz
  clear hz
  have a0 : W.cell? ⟨z, 0, none⟩ = some (.int .i64 2) := by rw [cell_at W z 0 _ _ HB.out.1]; rfl
  have a1 : W.cell? ⟨z, 1, none⟩ = some (.int .i64 n) := by rw [cell_at W z 1 _ _ HB.out.1]; rfl
  have a2 : W.frozen? ⟨z, 1, none⟩ = false := frozen_at W z 1 _ _ HB.out.1
  go_wp2_with (first
    | refine wpList_loadTh rfl rfl rfl HB.out.1 rfl ?_
    | (refine wpList_storeTh rfl rfl rfl rfl HB.out.2.1 rfl rfl (idle_one 2 n) ?_; intro W2 hb2 hk2; have HE := Lib.hid (And.intro hb2 hk2); clear hb2 hk2))
  exact bodyPost_ret (th_results rfl rfl rfl HE.out.1 rfl) rfl ⟨rfl, HB.out.2.2.trans HE.out.2 (fun i hi e => by have := HZ.out; omega)⟩

set_option maxHeartbeats 2000000 in
set_option maxRecDepth 100000 in
theorem rsema_yes9 (n v : Int) (w : World) (hn0 : 0 ≤ n) (hn1 : n ≤ 1000) (hv : n = v) : Calls Try.prog 50 #[.agg (idleC 2 n).toArray, .int .i64 9, .int .i64 v] w (ThTo w 2 (0) true) := by
  subst hv
  go_enter Try.func50, Try.ntmps50
  go_upto_region 1 with fail
  generalize hW : (World.alloc w _).alloc _ = W
  have hb := th_begin w 2 n hW
  have HB := Lib.hid hb
  clear hW hb
  obtain ⟨z, hz⟩ : ∃ z, w.heap.size = z := ⟨_, rfl⟩
  rw [hz] at HB ⊢
  have HZ := Lib.hid hz
  clear hz
  have a0 : W.cell? ⟨z, 0, none⟩ = some (.int .i64 2) := by rw [cell_at W z 0 _ _ HB.out.1]; rfl
  have a1 : W.cell? ⟨z, 1, none⟩ = some (.int .i64 n) := by rw [cell_at W z 1 _ _ HB.out.1]; rfl
  have a2 : W.frozen? ⟨z, 1, none⟩ = false := frozen_at W z 1 _ _ HB.out.1
  go_upto_region 18 with fail
  generalize hW3 : World.setCell W _ _ = W3
  have h3 : ThAt z (idleC 2 (0)) W3 ∧ ThAt (z + 1) zeroC W3 ∧ Kept (fun _ => False) w W3 := by
    have hk : Kept (fun k => k = z) W (W.setCell ⟨z, 1, none⟩ (.int .i64 (0))) := (Kept.refl _ W).setCell _ _ (fun _ => rfl)
    rw [hW3] at hk
    refine ⟨?_, HB.out.2.1.kept hk (by omega), ?_⟩
    · show W3.heap[z]? = _
      rw [← hW3]
      exact set_cellM HB.out.1
    · exact HB.out.2.2.trans hk (fun i hi e => by have := HZ.out; omega)
  have HB3 := Lib.hid h3
  clear hW3 h3 a0 a1 a2
  go_wp2_with (first
    | refine wpList_loadTh rfl rfl rfl HB3.out.1 rfl ?_
    | (refine wpList_storeTh rfl rfl rfl rfl HB3.out.2.1 rfl rfl (idle_one 2 (0)) ?_; intro W2 hb2 hk2; have HE := Lib.hid (And.intro hb2 hk2); clear hb2 hk2))
  exact bodyPost_ret (th_results rfl rfl rfl HE.out.1 rfl) rfl ⟨rfl, HB3.out.2.2.trans HE.out.2 (fun i hi e => by have := HZ.out; omega)⟩

end Go.Proofs.Ytofnomkedpagfaa
end
section
namespace Go.Proofs.Ytofnomkedpagfaa
open Go.RowKit
set_option linter.unusedVariables false
set_option linter.unusedSimpArgs false

/-- Where Do's boxes lie. -/
theorem do_begin (w : World) (k n a b : Int) {W : World} (hW : ((w.alloc (.cells (idleC k n).toArray 45)).alloc (.cells #[.int .i64 a, .int .i64 b] 77)).alloc (.cells zeroC.toArray 45) = W) :
    ThAt w.heap.size (idleC k n) W ∧ W.heap[w.heap.size + 1]? = some (.cells #[.int .i64 a, .int .i64 b] 77 (0, 0)) ∧ ThAt (w.heap.size + 1 + 1) zeroC W ∧ Kept (fun _ => False) w W := by
  have k1 : Kept (fun _ => False) (w.alloc (.cells (idleC k n).toArray 45)) W := by rw [← hW]; exact ((Kept.refl _ _).alloc _).alloc _
  have k2 : Kept (fun _ => False) ((w.alloc (.cells (idleC k n).toArray 45)).alloc (.cells #[.int .i64 a, .int .i64 b] 77)) W := by rw [← hW]; exact (Kept.refl _ _).alloc _
  have e1 : (w.alloc (.cells (idleC k n).toArray 45)).heap.size = w.heap.size + 1 := by simp
  have e2 : ((w.alloc (.cells (idleC k n).toArray 45)).alloc (.cells #[.int .i64 a, .int .i64 b] 77)).heap.size = w.heap.size + 1 + 1 := by simp
  refine ⟨k1.at0 (heap_new1 w _), ?_, ?_, ((Kept.refl _ w).alloc _).tr0 k1⟩
  · rw [← e1]; exact k2.at0 (heap_new1 _ _)
  · show W.heap[w.heap.size + 1 + 1]? = _
    rw [← hW, ← e2]
    exact heap_new1 _ _

set_option maxHeartbeats 2000000 in
set_option maxRecDepth 100000 in
/-- By what sema tells. -/
theorem do2_any (n m a v : Int) (r : Bool) (t : Nat) (ht : t < 8) (w : World) (ha : (a == 17) = false) (hc : ∀ w', Calls Try.prog 50 #[.agg (idleC 2 n).toArray, .int .i64 a, .int .i64 v] w' (ThTo w' 2 m r)) :
    Calls Try.prog 37 #[.agg (idleC 2 n).toArray, .int .i64 t, .agg #[.int .i64 a, .int .i64 v]] w (ThTo w 2 m r) := by
  have HC := Lib.hid hc
  clear hc
  have t0 : ¬ ((t : Int) < 0) := by omega
  have t7 : ¬ ((7 : Int) < (t : Int)) := by omega
  go_enter Try.func37, Try.ntmps37
  go_upto_region 1 with fail
  generalize hW : ((World.alloc w _).alloc _).alloc _ = W
  have hb := do_begin w 2 n a v hW
  have HB := Lib.hid hb
  clear hW hb
  obtain ⟨z, hz⟩ : ∃ z, w.heap.size = z := ⟨_, rfl⟩
  rw [hz] at HB ⊢
  have HZ := Lib.hid hz
  clear hz
  have a0 : W.cell? ⟨z, 0, none⟩ = some (.int .i64 2) := by rw [cell_at W z 0 _ _ HB.out.1]; rfl
  have n0 : W.cell? ⟨z + 1, 0, none⟩ = some (.int .i64 a) := by rw [cell_at W _ 0 _ _ HB.out.2.1]; rfl
  have n1 : W.cell? ⟨z + 1, 1, none⟩ = some (.int .i64 v) := by rw [cell_at W _ 1 _ _ HB.out.2.1]; rfl
  go_wp2_with (refine wpList_loadTh rfl rfl rfl HB.out.1 rfl ?_)
  refine (HC.out W).mono ?_
  rintro e W1 ⟨rfl, hk1⟩
  have HB1 := Lib.hid (HB.out.2.2.1.kept hk1 (fun f => f))
  have HK1 := Lib.hid (HB.out.2.2.2.tr0 hk1)
  go_wp2_with (refine wpList_storeTh rfl rfl rfl rfl HB1.out rfl rfl (idle_one 2 m) ?_; intro W2 hb2 hk2; have HE := Lib.hid (And.intro hb2 hk2); clear hb2 hk2)
  exact bodyPost_ret (th_results rfl rfl rfl HE.out.1 rfl) rfl ⟨rfl, HK1.out.trans HE.out.2 (fun i hi e => by have := HZ.out; omega)⟩

set_option maxHeartbeats 2000000 in
set_option maxRecDepth 100000 in
/-- A mark that gives up. -/
theorem do2_quit (n : Int) (t : Nat) (ht : t < 8) (w : World) : Calls Try.prog 37 #[.agg (idleC 2 n).toArray, .int .i64 t, .agg #[.int .i64 17, .int .i64 0]] w (ThTo w 2 n true) := by
  have t0 : ¬ ((t : Int) < 0) := by omega
  have t7 : ¬ ((7 : Int) < (t : Int)) := by omega
  go_enter Try.func37, Try.ntmps37
  go_upto_region 1 with fail
  generalize hW : ((World.alloc w _).alloc _).alloc _ = W
  have hb := do_begin w 2 n 17 0 hW
  have HB := Lib.hid hb
  clear hW hb
  obtain ⟨z, hz⟩ : ∃ z, w.heap.size = z := ⟨_, rfl⟩
  rw [hz] at HB ⊢
  have HZ := Lib.hid hz
  clear hz
  have a0 : W.cell? ⟨z, 0, none⟩ = some (.int .i64 2) := by rw [cell_at W z 0 _ _ HB.out.1]; rfl
  have n0 : W.cell? ⟨z + 1, 0, none⟩ = some (.int .i64 17) := by rw [cell_at W _ 0 _ _ HB.out.2.1]; rfl
  have n1 : W.cell? ⟨z + 1, 1, none⟩ = some (.int .i64 0) := by rw [cell_at W _ 1 _ _ HB.out.2.1]; rfl
  go_upto_region 4 with fail
  obtain ⟨i0, i1, i2, i3, i4, i5, i6, i7, i8, i9, i10, i11, i12, i13, i14⟩ := idle_cells HB.out.1
  obtain ⟨⟨j0, j1, j2, j3, j4, j5, j6, j7, j8, j9, j10, j11, j12, j13, j14⟩, hfz⟩ := zero_cells HB.out.2.2.1
  go_region
  all_goals rw [set15_eq]
  all_goals generalize hW3 : (World.setCells W _ _ _).drew = W3
  all_goals
    have h3 : W3.rangeAt (z + 1 + 1) 0 (idleC 2 n) ∧ Kept (fun _ => False) w W3 := by
      rw [← hW3]
      exact ⟨by rw [World.rangeAt_drew]; exact stored_range (cs := idleC 2 n) HB.out.2.2.1 rfl rfl, ((HB.out.2.2.2.trans (setCells_keeps (z + 1 + 1) (idleC 2 n) 0 W) (fun i hi e => by have := HZ.out; omega)).drew)⟩
    have H3 := Lib.hid h3
    clear hW3 h3
    clear i0 i1 i2 i3 i4 i5 i6 i7 i8 i9 i10 i11 i12 i13 i14 j0 j1 j2 j3 j4 j5 j6 j7 j8 j9 j10 j11 j12 j13 j14 hfz a0 n0 n1
    go_wp2_with fail
    exact bodyPost_ret (th_results_r rfl rfl rfl (cs := idleC 2 n) (g := z + 1 + 1) H3.out.1 rfl) rfl ⟨rfl, H3.out.2⟩

end Go.Proofs.Ytofnomkedpagfaa
end
