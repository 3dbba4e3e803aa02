/-
  Things, marks, calls and objects that came in.
  Conditions: none; these are lemmas for the walks.
-/
import Derived.Test.YthjblniabnjfhaaModMem
import Derived.OpenShut
import Derived.Deep.Slices
namespace Go.Proofs.Ythjblniabnjfhaa
open Go.RowKit Go.ChangeShapes Go.WideShapes
set_option linter.unusedVariables false
set_option linter.unusedSimpArgs false

theorem i64_wf {n : Int} (h : (Lit.int .i64 n).wf = true) : -9223372036854775808 ≤ n ∧ n ≤ 9223372036854775807 := by
  simpa [Lit.wf, IntKind.min, IntKind.max, IntKind.signed, IntKind.bits] using h

/-- A thing's numbers are within what they may be. -/
structure ThOk (x : Th) : Prop where
  o0 : -9223372036854775808 ≤ x.offer
  o1 : x.offer ≤ 9223372036854775807
  t0 : ∀ q ∈ x.ws, -9223372036854775808 ≤ q.thread
  t1 : ∀ q ∈ x.ws, q.thread ≤ 9223372036854775807

theorem Try.mc_int : Try.prog.cellsOf 3 = 1 := by kernel_rfl
theorem Try.mc_i64 : Try.prog.cellsOf 2 = 1 := by kernel_rfl
theorem Try.mc_bool : Try.prog.cellsOf 4 = 1 := by kernel_rfl
theorem Try.mc_arr : Try.prog.cellsOf 24 = 8 := by kernel_rfl
theorem Try.mc_sl : Try.prog.cellsOf 25 = 1 := by kernel_rfl
theorem Try.mc_wt : Try.prog.cellsOf 44 = 2 := by kernel_rfl
theorem Try.mc_nt : Try.prog.cellsOf 29 = 2 := by kernel_rfl
theorem Try.mc_op : Try.prog.cellsOf 31 = 5 := by kernel_rfl
theorem Try.mc_ob : Try.prog.cellsOf 23 = 3 := by kernel_rfl
theorem Try.mc_th : Try.prog.cellsOf 27 = 15 := by kernel_rfl

section
variable {H : Type} {enc : TypeId × Value → H} {w : World}
theorem note_of {v : Value} {d : DataW H} {p : List MemPlace} (hv : ∃ cs : Array Value, v = .agg cs ∧ cs.size = Try.prog.cellsOf 29)
    (h : DataW.Trod enc Try.prog w 0 (fun _ => true) true 29 v d p) : ∃ k n : Int, v = .agg #[.int .i64 k, .int .i64 n] ∧ -9223372036854775808 ≤ n ∧ n ≤ 9223372036854775807 := by
  obtain ⟨⟨cs⟩, rfl, hs⟩ := hv
  rw [Try.mc_nt] at hs
  obtain ⟨k, hk⟩ := h
  obtain ⟨ys, k', _, _, _, hyl, hfld⟩ := DataW.trod_struct Try.underlying29 hk
  match cs, hs, ys, hyl with
  | [c0, c1], _, [y0, y1], _ =>
    have f0 : DataW.trod enc Try.prog w 0 (fun _ => true) true k' 3 (([c0, c1].drop 0).take (Try.prog.cellsOf 3)) = some y0 := hfld 0 _ rfl
    have f1 : DataW.trod enc Try.prog w 0 (fun _ => true) true k' 2 (([c0, c1].drop 1).take (Try.prog.cellsOf 2)) = some y1 := hfld 1 _ rfl
    rw [Try.mc_int] at f0
    rw [Try.mc_i64] at f1
    simp only [List.drop_zero, List.drop_succ_cons, List.take_succ_cons, List.take_zero] at f0 f1
    obtain ⟨a0, ea0, _, wa0⟩ := DataW.trod_int Try.underlying3 f0
    obtain ⟨a1, ea1, _, wa1⟩ := DataW.trod_int Try.underlying2 f1
    simp only [List.cons.injEq, and_true] at ea0 ea1
    subst ea0 ea1
    exact ⟨a0, a1, rfl, i64_wf wa1⟩

theorem op_of {v : Value} {d : DataW H} {p : List MemPlace} (hv : ∃ cs : Array Value, v = .agg cs ∧ cs.size = Try.prog.cellsOf 31)
    (h : DataW.Trod enc Try.prog w 0 (fun _ => true) true 31 v d p) : ∃ (k o n wt : Int) (br : Bool), v = .agg #[.int .i64 k, .int .i64 o, .int .i64 n, .int .i64 wt, .bool br] ∧ -9223372036854775808 ≤ n ∧ n ≤ 9223372036854775807 := by
  obtain ⟨⟨cs⟩, rfl, hs⟩ := hv
  rw [Try.mc_op] at hs
  obtain ⟨k, hk⟩ := h
  obtain ⟨ys, k', _, _, _, hyl, hfld⟩ := DataW.trod_struct Try.underlying31 hk
  match cs, hs, ys, hyl with
  | [c0, c1, c2, c3, c4], _, [y0, y1, y2, y3, y4], _ =>
    have f0 : DataW.trod enc Try.prog w 0 (fun _ => true) true k' 3 (([c0, c1, c2, c3, c4].drop 0).take (Try.prog.cellsOf 3)) = some y0 := hfld 0 _ rfl
    have f1 : DataW.trod enc Try.prog w 0 (fun _ => true) true k' 3 (([c0, c1, c2, c3, c4].drop 1).take (Try.prog.cellsOf 3)) = some y1 := hfld 1 _ rfl
    have f2 : DataW.trod enc Try.prog w 0 (fun _ => true) true k' 3 (([c0, c1, c2, c3, c4].drop 2).take (Try.prog.cellsOf 3)) = some y2 := hfld 2 _ rfl
    have f3 : DataW.trod enc Try.prog w 0 (fun _ => true) true k' 2 (([c0, c1, c2, c3, c4].drop 3).take (Try.prog.cellsOf 2)) = some y3 := hfld 3 _ rfl
    have f4 : DataW.trod enc Try.prog w 0 (fun _ => true) true k' 4 (([c0, c1, c2, c3, c4].drop 4).take (Try.prog.cellsOf 4)) = some y4 := hfld 4 _ rfl
    rw [Try.mc_int] at f0
    rw [Try.mc_int] at f1
    rw [Try.mc_int] at f2
    rw [Try.mc_i64] at f3
    rw [Try.mc_bool] at f4
    simp only [List.drop_zero, List.drop_succ_cons, List.take_succ_cons, List.take_zero] at f0 f1 f2 f3 f4
    obtain ⟨a0, ea0, _, wa0⟩ := DataW.trod_int Try.underlying3 f0
    obtain ⟨a1, ea1, _, wa1⟩ := DataW.trod_int Try.underlying3 f1
    obtain ⟨a2, ea2, _, wa2⟩ := DataW.trod_int Try.underlying3 f2
    obtain ⟨a3, ea3, _, wa3⟩ := DataW.trod_int Try.underlying2 f3
    obtain ⟨a4, ea4, _⟩ := DataW.trod_bool Try.underlying4 f4
    simp only [List.cons.injEq, and_true] at ea0 ea1 ea2 ea3 ea4
    subst ea0 ea1 ea2 ea3 ea4
    exact ⟨a0, a1, a2, a3, a4, rfl, i64_wf wa2⟩

theorem object_of {v : Value} {d : DataW H} {p : List MemPlace} (hv : ∃ cs : Array Value, v = .agg cs ∧ cs.size = Try.prog.cellsOf 23)
    (h : DataW.Trod enc Try.prog w 0 (fun _ => true) true 23 v d p) : ∃ (k : Int) (f : Bool) (n : Int), v = .agg #[.int .i64 k, .bool f, .int .i64 n] := by
  obtain ⟨⟨cs⟩, rfl, hs⟩ := hv
  rw [Try.mc_ob] at hs
  obtain ⟨k, hk⟩ := h
  obtain ⟨ys, k', _, _, _, hyl, hfld⟩ := DataW.trod_struct Try.underlying23 hk
  match cs, hs, ys, hyl with
  | [c0, c1, c2], _, [y0, y1, y2], _ =>
    have f0 : DataW.trod enc Try.prog w 0 (fun _ => true) true k' 3 (([c0, c1, c2].drop 0).take (Try.prog.cellsOf 3)) = some y0 := hfld 0 _ rfl
    have f1 : DataW.trod enc Try.prog w 0 (fun _ => true) true k' 4 (([c0, c1, c2].drop 1).take (Try.prog.cellsOf 4)) = some y1 := hfld 1 _ rfl
    have f2 : DataW.trod enc Try.prog w 0 (fun _ => true) true k' 3 (([c0, c1, c2].drop 2).take (Try.prog.cellsOf 3)) = some y2 := hfld 2 _ rfl
    rw [Try.mc_int] at f0
    rw [Try.mc_bool] at f1
    rw [Try.mc_int] at f2
    simp only [List.drop_zero, List.drop_succ_cons, List.take_succ_cons, List.take_zero] at f0 f1 f2
    obtain ⟨a0, ea0, _, wa0⟩ := DataW.trod_int Try.underlying3 f0
    obtain ⟨a1, ea1, _⟩ := DataW.trod_bool Try.underlying4 f1
    obtain ⟨a2, ea2, _, wa2⟩ := DataW.trod_int Try.underlying3 f2
    simp only [List.cons.injEq, and_true] at ea0 ea1 ea2
    subst ea0 ea1 ea2
    exact ⟨a0, a1, a2, rfl⟩

/-- A slice's one cell. -/
theorem slice_of {P : Program} {t e : TypeId} {k : Nat} {c : Value} {y : DataW H × List MemPlace} (ht : P.underlying t = some (.slice e)) (h : DataW.trod enc P w 0 (fun _ => true) true k t [c] = some y) :
    ∃ s len cap, c = .slice s len cap ∧ DataW.Trod enc P w 0 (fun _ => true) true t (.slice s len cap) y.1 y.2 := by
  rcases Go.Deep.open_slice ht h with ⟨hcs, _⟩ | ⟨ad, l, c', mm, n, D, Pl, hcs, _⟩
  · simp only [List.cons.injEq, and_true] at hcs
    subst hcs
    exact ⟨_, _, _, rfl, k, h⟩
  · simp only [List.cons.injEq, and_true] at hcs
    subst hcs
    exact ⟨_, _, _, rfl, k, h⟩
theorem wts_of {s : Option Addr} {len cap : Nat} {d : DataW H} {p : List MemPlace}
    (h : DataW.Trod enc Try.prog w 0 (fun _ => true) true 25 (.slice s len cap) d p) : ∃ xs, xs.length = len ∧ Elems w w.heap.size s 2 Wt.cells xs ∧ ∀ q ∈ xs, -9223372036854775808 ≤ q.thread ∧ q.thread ≤ 9223372036854775807 := by
  refine elems_of (Q := fun q : Wt => -9223372036854775808 ≤ q.thread ∧ q.thread ≤ 9223372036854775807) Try.underlying25 Try.mc_wt (by omega) (fun k cs y hl ht => ?_) h
  obtain ⟨xs, k', _, _, _, hxl, hfld⟩ := DataW.trod_struct Try.underlying44 ht
  match cs, hl, xs, hxl with
  | [c0, c1], _, [y0, y1], _ =>
    have f0 : DataW.trod enc Try.prog w 0 (fun _ => true) true k' 3 (([c0, c1].drop 0).take (Try.prog.cellsOf 3)) = some y0 := hfld 0 _ rfl
    have f1 : DataW.trod enc Try.prog w 0 (fun _ => true) true k' 3 (([c0, c1].drop 1).take (Try.prog.cellsOf 3)) = some y1 := hfld 1 _ rfl
    rw [Try.mc_int] at f0
    rw [Try.mc_int] at f1
    simp only [List.drop_zero, List.drop_succ_cons, List.take_succ_cons, List.take_zero] at f0 f1
    obtain ⟨a0, ea0, _, wa0⟩ := DataW.trod_int Try.underlying3 f0
    obtain ⟨a1, ea1, _, wa1⟩ := DataW.trod_int Try.underlying3 f1
    simp only [List.cons.injEq, and_true] at ea0 ea1
    subst ea0 ea1
    exact ⟨⟨a0, a1⟩, rfl, i64_wf wa0⟩

set_option maxRecDepth 100000 in
theorem th_of {v : Value} {d : DataW H} {p : List MemPlace} (hv : ∃ cs : Array Value, v = .agg cs ∧ cs.size = Try.prog.cellsOf 27)
    (h : DataW.Trod enc Try.prog w 0 (fun _ => true) true 27 v d p) : ∃ (x : Th) (s : Option Addr) (c : Nat), v = x.agg s c ∧ InW w x s ∧ ThOk x := by
  obtain ⟨⟨cs⟩, rfl, hs⟩ := hv
  rw [Try.mc_th] at hs
  obtain ⟨k, hk⟩ := h
  obtain ⟨ys, k', _, _, _, hyl, hfld⟩ := DataW.trod_struct Try.underlying27 hk
  match cs, hs, ys, hyl with
  | [c0, c1, c2, c3, c4, c5, c6, c7, c8, c9, c10, c11, c12, c13, c14], _, [y0, y1, y2, y3, y4, y5, y6, y7], _ =>
    have f0 : DataW.trod enc Try.prog w 0 (fun _ => true) true k' 3 (([c0, c1, c2, c3, c4, c5, c6, c7, c8, c9, c10, c11, c12, c13, c14].drop 0).take (Try.prog.cellsOf 3)) = some y0 := hfld 0 _ rfl
    have f1 : DataW.trod enc Try.prog w 0 (fun _ => true) true k' 3 (([c0, c1, c2, c3, c4, c5, c6, c7, c8, c9, c10, c11, c12, c13, c14].drop 1).take (Try.prog.cellsOf 3)) = some y1 := hfld 1 _ rfl
    have f2 : DataW.trod enc Try.prog w 0 (fun _ => true) true k' 3 (([c0, c1, c2, c3, c4, c5, c6, c7, c8, c9, c10, c11, c12, c13, c14].drop 2).take (Try.prog.cellsOf 3)) = some y2 := hfld 2 _ rfl
    have f3 : DataW.trod enc Try.prog w 0 (fun _ => true) true k' 3 (([c0, c1, c2, c3, c4, c5, c6, c7, c8, c9, c10, c11, c12, c13, c14].drop 3).take (Try.prog.cellsOf 3)) = some y3 := hfld 3 _ rfl
    have f4 : DataW.trod enc Try.prog w 0 (fun _ => true) true k' 24 (([c0, c1, c2, c3, c4, c5, c6, c7, c8, c9, c10, c11, c12, c13, c14].drop 4).take (Try.prog.cellsOf 24)) = some y4 := hfld 4 _ rfl
    have f5 : DataW.trod enc Try.prog w 0 (fun _ => true) true k' 25 (([c0, c1, c2, c3, c4, c5, c6, c7, c8, c9, c10, c11, c12, c13, c14].drop 12).take (Try.prog.cellsOf 25)) = some y5 := hfld 5 _ rfl
    have f6 : DataW.trod enc Try.prog w 0 (fun _ => true) true k' 3 (([c0, c1, c2, c3, c4, c5, c6, c7, c8, c9, c10, c11, c12, c13, c14].drop 13).take (Try.prog.cellsOf 3)) = some y6 := hfld 6 _ rfl
    have f7 : DataW.trod enc Try.prog w 0 (fun _ => true) true k' 3 (([c0, c1, c2, c3, c4, c5, c6, c7, c8, c9, c10, c11, c12, c13, c14].drop 14).take (Try.prog.cellsOf 3)) = some y7 := hfld 7 _ rfl
    rw [Try.mc_arr] at f4
    rw [Try.mc_sl] at f5
    simp only [List.drop_zero, List.drop_succ_cons, List.take_succ_cons, List.take_zero] at f4 f5
    obtain ⟨zs, k2, _, _, _, hzl, hel⟩ := DataW.trod_array Try.underlying24 f4
    match zs, hzl with
    | [z0, z1, z2, z3, z4, z5, z6, z7], _ =>
      have g0 : DataW.trod enc Try.prog w 0 (fun _ => true) true k2 3 (([c4, c5, c6, c7, c8, c9, c10, c11].drop (0 * Try.prog.cellsOf 3)).take (Try.prog.cellsOf 3)) = some z0 := hel 0 (by omega)
      have g1 : DataW.trod enc Try.prog w 0 (fun _ => true) true k2 3 (([c4, c5, c6, c7, c8, c9, c10, c11].drop (1 * Try.prog.cellsOf 3)).take (Try.prog.cellsOf 3)) = some z1 := hel 1 (by omega)
      have g2 : DataW.trod enc Try.prog w 0 (fun _ => true) true k2 3 (([c4, c5, c6, c7, c8, c9, c10, c11].drop (2 * Try.prog.cellsOf 3)).take (Try.prog.cellsOf 3)) = some z2 := hel 2 (by omega)
      have g3 : DataW.trod enc Try.prog w 0 (fun _ => true) true k2 3 (([c4, c5, c6, c7, c8, c9, c10, c11].drop (3 * Try.prog.cellsOf 3)).take (Try.prog.cellsOf 3)) = some z3 := hel 3 (by omega)
      have g4 : DataW.trod enc Try.prog w 0 (fun _ => true) true k2 3 (([c4, c5, c6, c7, c8, c9, c10, c11].drop (4 * Try.prog.cellsOf 3)).take (Try.prog.cellsOf 3)) = some z4 := hel 4 (by omega)
      have g5 : DataW.trod enc Try.prog w 0 (fun _ => true) true k2 3 (([c4, c5, c6, c7, c8, c9, c10, c11].drop (5 * Try.prog.cellsOf 3)).take (Try.prog.cellsOf 3)) = some z5 := hel 5 (by omega)
      have g6 : DataW.trod enc Try.prog w 0 (fun _ => true) true k2 3 (([c4, c5, c6, c7, c8, c9, c10, c11].drop (6 * Try.prog.cellsOf 3)).take (Try.prog.cellsOf 3)) = some z6 := hel 6 (by omega)
      have g7 : DataW.trod enc Try.prog w 0 (fun _ => true) true k2 3 (([c4, c5, c6, c7, c8, c9, c10, c11].drop (7 * Try.prog.cellsOf 3)).take (Try.prog.cellsOf 3)) = some z7 := hel 7 (by omega)
      rw [Try.mc_int] at g0 g1 g2 g3 g4 g5 g6 g7
      simp only [Nat.zero_mul, Nat.one_mul, Nat.mul_one, List.drop_zero, List.drop_succ_cons, List.take_succ_cons, List.take_zero] at g0 g1 g2 g3 g4 g5 g6 g7
      obtain ⟨b0, r0, _, _⟩ := DataW.trod_int Try.underlying3 g0
      obtain ⟨b1, r1, _, _⟩ := DataW.trod_int Try.underlying3 g1
      obtain ⟨b2, r2, _, _⟩ := DataW.trod_int Try.underlying3 g2
      obtain ⟨b3, r3, _, _⟩ := DataW.trod_int Try.underlying3 g3
      obtain ⟨b4, r4, _, _⟩ := DataW.trod_int Try.underlying3 g4
      obtain ⟨b5, r5, _, _⟩ := DataW.trod_int Try.underlying3 g5
      obtain ⟨b6, r6, _, _⟩ := DataW.trod_int Try.underlying3 g6
      obtain ⟨b7, r7, _, _⟩ := DataW.trod_int Try.underlying3 g7
      simp only [List.cons.injEq, and_true] at r0 r1 r2 r3 r4 r5 r6 r7
      subst r0 r1 r2 r3 r4 r5 r6 r7
      rw [Try.mc_int] at f0
      rw [Try.mc_int] at f1
      rw [Try.mc_int] at f2
      rw [Try.mc_int] at f3
      rw [Try.mc_int] at f6
      rw [Try.mc_int] at f7
      simp only [List.drop_zero, List.drop_succ_cons, List.take_succ_cons, List.take_zero] at f0 f1 f2 f3 f6 f7
      obtain ⟨a0, ea0, _, wa0⟩ := DataW.trod_int Try.underlying3 f0
      obtain ⟨a1, ea1, _, wa1⟩ := DataW.trod_int Try.underlying3 f1
      obtain ⟨a2, ea2, _, wa2⟩ := DataW.trod_int Try.underlying3 f2
      obtain ⟨a3, ea3, _, wa3⟩ := DataW.trod_int Try.underlying3 f3
      obtain ⟨a6, ea6, _, wa6⟩ := DataW.trod_int Try.underlying3 f6
      obtain ⟨a7, ea7, _, wa7⟩ := DataW.trod_int Try.underlying3 f7
      simp only [List.cons.injEq, and_true] at ea0 ea1 ea2 ea3 ea6 ea7
      subst ea0 ea1 ea2 ea3 ea6 ea7
      obtain ⟨s, len, cap, rfl, hsl⟩ := slice_of Try.underlying25 f5
      obtain ⟨xs, rfl, hx, hq⟩ := wts_of hsl
      exact ⟨⟨a0, a1, a2, a3, fun i => [b0, b1, b2, b3, b4, b5, b6, b7].getD i 0, xs, a6, a7⟩, s, cap, rfl, hx, (i64_wf wa6).1, (i64_wf wa6).2, fun q hm => (hq q hm).1, fun q hm => (hq q hm).2⟩
end

end Go.Proofs.Ythjblniabnjfhaa
