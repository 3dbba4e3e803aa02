/-
  A script of calls that came in: tholeref13's Call, read as a list.
  Conditions: none; these are lemmas for the walk.
  An object that came in.
  Conditions: none.
-/
import Derived.Test.YtofnomkedpagfaaRowOwn
section
namespace Go.Proofs.Ytofnomkedpagfaa
open Go.RowKit Go.ChangeShapes Go.WideShapes
set_option maxRecDepth 100000

/-- A call of a thread. -/
structure Cs where
  t : Int
  k : Int
  o : Int
  n : Int
  wt : Int
  br : Bool
def Cs.cells (x : Cs) : List Value := [.int .i64 x.t, .int .i64 x.k, .int .i64 x.o, .int .i64 x.n, .int .i64 x.wt, .bool x.br]
theorem Cs.six (x : Cs) : x.cells.length = 6 := rfl
/-- Its thread is a number of the machine. -/
def Cs64 (x : Cs) : Prop := -9223372036854775808 ≤ x.t ∧ x.t ≤ 9223372036854775807
theorem Try.cs_int : Try.prog.cellsOf 3 = 1 := by kernel_rfl
theorem Try.cs_int64 : Try.prog.cellsOf 2 = 1 := by kernel_rfl
theorem Try.cs_bool : Try.prog.cellsOf 4 = 1 := by kernel_rfl
theorem Try.cs_op : Try.prog.cellsOf 32 = 5 := by kernel_rfl
theorem Try.cs_cells : Try.prog.cellsOf 34 = 6 := by kernel_rfl
theorem calls_of {H : Type} {enc : TypeId × Value → H} {w : World} {s : Option Addr} {len cap : Nat} {d : DataW H} {p : List MemPlace}
    (h : DataW.Trod enc Try.prog w 0 (fun _ => true) true 24 (.slice s len cap) d p) : ∃ xs : List Cs, xs.length = len ∧ Elems w w.heap.size s 6 Cs.cells xs ∧ ∀ x ∈ xs, Cs64 x := by
  refine elems_of (Q := Cs64) Try.underlying24 Try.cs_cells (by omega) (fun k cs y hl ht => ?_) h
  obtain ⟨xs, k', _, _, _, hxl, hfld⟩ := DataW.trod_struct Try.underlying34 ht
  match cs, hl, xs, hxl with
  | [c0, c1, c2, c3, c4, c5], _, [y0, y1], _ =>
    have f0 : DataW.trod enc Try.prog w 0 (fun _ => true) true k' 3 (([c0, c1, c2, c3, c4, c5].drop 0).take (Try.prog.cellsOf 3)) = some y0 := hfld 0 _ rfl
    have f1 : DataW.trod enc Try.prog w 0 (fun _ => true) true k' 32 (([c0, c1, c2, c3, c4, c5].drop 1).take (Try.prog.cellsOf 32)) = some y1 := hfld 1 _ rfl
    rw [Try.cs_int] at f0
    rw [Try.cs_op] at f1
    simp only [List.drop_zero, List.drop_succ_cons, List.take_succ_cons, List.take_zero] at f0 f1
    obtain ⟨zs, k2, _, _, _, hzl, hgld⟩ := DataW.trod_struct Try.underlying32 f1
    match zs, hzl with
    | [z0, z1, z2, z3, z4], _ =>
      have g0 : DataW.trod enc Try.prog w 0 (fun _ => true) true k2 3 (([c1, c2, c3, c4, c5].drop 0).take (Try.prog.cellsOf 3)) = some z0 := hgld 0 _ rfl
      have g1 : DataW.trod enc Try.prog w 0 (fun _ => true) true k2 3 (([c1, c2, c3, c4, c5].drop 1).take (Try.prog.cellsOf 3)) = some z1 := hgld 1 _ rfl
      have g2 : DataW.trod enc Try.prog w 0 (fun _ => true) true k2 3 (([c1, c2, c3, c4, c5].drop 2).take (Try.prog.cellsOf 3)) = some z2 := hgld 2 _ rfl
      have g3 : DataW.trod enc Try.prog w 0 (fun _ => true) true k2 2 (([c1, c2, c3, c4, c5].drop 3).take (Try.prog.cellsOf 2)) = some z3 := hgld 3 _ rfl
      have g4 : DataW.trod enc Try.prog w 0 (fun _ => true) true k2 4 (([c1, c2, c3, c4, c5].drop 4).take (Try.prog.cellsOf 4)) = some z4 := hgld 4 _ rfl
      rw [Try.cs_int] at g0 g1 g2
      rw [Try.cs_int64] at g3
      rw [Try.cs_bool] at g4
      simp only [List.drop_zero, List.drop_succ_cons, List.take_succ_cons, List.take_zero] at g0 g1 g2 g3 g4
      obtain ⟨a0, e0, _, w0⟩ := DataW.trod_int Try.underlying3 f0
      obtain ⟨a1, e1, _, w1⟩ := DataW.trod_int Try.underlying3 g0
      obtain ⟨a2, e2, _, w2⟩ := DataW.trod_int Try.underlying3 g1
      obtain ⟨a3, e3, _, w3⟩ := DataW.trod_int Try.underlying3 g2
      obtain ⟨a4, e4, _, w4⟩ := DataW.trod_int Try.underlying2 g3
      obtain ⟨a5, e5, _⟩ := DataW.trod_bool Try.underlying4 g4
      simp only [List.cons.injEq, and_true] at e0 e1 e2 e3 e4 e5
      subst e0 e1 e2 e3 e4 e5
      exact ⟨⟨a0, a1, a2, a3, a4, a5⟩, rfl, (bounds_i64 w0).1, (bounds_i64 w0).2⟩

end Go.Proofs.Ytofnomkedpagfaa
end
section
namespace Go.Proofs.Ytofnomkedpagfaa
open Go.RowKit Go.ChangeShapes Go.WideShapes
set_option maxRecDepth 100000

theorem Try.cs_object : Try.prog.cellsOf 23 = 3 := by kernel_rfl
section
variable {H : Type} {enc : TypeId × Value → H} {w : World}
theorem object13_of {v : Value} {d : DataW H} {p : List MemPlace} (hv : ∃ cs : Array Value, v = .agg cs ∧ cs.size = Try.prog.cellsOf 23)
    (h : DataW.Trod enc Try.prog w 0 (fun _ => true) true 23 v d p) : ∃ (k : Int) (f : Bool) (n : Int), v = .agg #[.int .i64 k, .bool f, .int .i64 n] := by
  obtain ⟨⟨cs⟩, rfl, hs⟩ := hv
  rw [Try.cs_object] at hs
  obtain ⟨k, hk⟩ := h
  obtain ⟨ys, k', _, _, _, hyl, hfld⟩ := DataW.trod_struct Try.underlying23 hk
  match cs, hs, ys, hyl with
  | [c0, c1, c2], _, [y0, y1, y2], _ =>
    have f0 : DataW.trod enc Try.prog w 0 (fun _ => true) true k' 3 (([c0, c1, c2].drop 0).take (Try.prog.cellsOf 3)) = some y0 := hfld 0 _ rfl
    have f1 : DataW.trod enc Try.prog w 0 (fun _ => true) true k' 4 (([c0, c1, c2].drop 1).take (Try.prog.cellsOf 4)) = some y1 := hfld 1 _ rfl
    have f2 : DataW.trod enc Try.prog w 0 (fun _ => true) true k' 3 (([c0, c1, c2].drop 2).take (Try.prog.cellsOf 3)) = some y2 := hfld 2 _ rfl
    rw [Try.cs_int] at f0
    rw [Try.cs_bool] at f1
    rw [Try.cs_int] at f2
    simp only [List.drop_zero, List.drop_succ_cons, List.take_succ_cons, List.take_zero] at f0 f1 f2
    obtain ⟨a0, ea0, _, wa0⟩ := DataW.trod_int Try.underlying3 f0
    obtain ⟨a1, ea1, _⟩ := DataW.trod_bool Try.underlying4 f1
    obtain ⟨a2, ea2, _, wa2⟩ := DataW.trod_int Try.underlying3 f2
    simp only [List.cons.injEq, and_true] at ea0 ea1 ea2
    subst ea0 ea1 ea2
    exact ⟨a0, a1, a2, rfl⟩

end

end Go.Proofs.Ytofnomkedpagfaa
end
