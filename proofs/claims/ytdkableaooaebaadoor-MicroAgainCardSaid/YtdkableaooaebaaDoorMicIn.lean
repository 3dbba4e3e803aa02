/-
  Code that came in.
  Conditions: none.
-/
import Derived.Test.YtdkableaooaebaaDoorMicM
import Derived.Test.YtdkableaooaebaaDoorRowOwn
import Derived.ProofKit
namespace Go.Proofs.YtdkableaooaebaaDoor
open Go.RowKit Go.ChangeShapes Go.WideShapes

theorem mic_cells_int : Tryd.prog.cellsOf 3 = 1 := by kernel_rfl
theorem mic_cells_int64 : Tryd.prog.cellsOf 2 = 1 := by kernel_rfl
theorem mic_cells_ins : Tryd.prog.cellsOf 46 = 5 := by kernel_rfl

set_option maxRecDepth 100000 in
theorem code_of {H : Type} {enc : TypeId × Value → H} {w : World} {s : Option Addr} {len cap : Nat} {d : DataW H} {p : List MemPlace}
    (h : DataW.Trod enc Tryd.prog w 0 (fun _ => true) true 22 (.slice s len cap) d p) : ∃ xs, xs.length = len ∧ Elems w w.heap.size s 5 Ix.cells xs ∧ ∀ x ∈ xs, Ix.wide x := by
  refine elems_of Tryd.underlying22 mic_cells_ins (by omega) (fun k cs y hl ht => ?_) h
  obtain ⟨xs, k', _, _, _, hxl, hfld⟩ := DataW.trod_struct Tryd.underlying46 ht
  match cs, hl, xs, hxl with
  | [c0, c1, c2, c3, c4], _, [y0, y1, y2, y3, y4], _ =>
    have f0 : DataW.trod enc Tryd.prog w 0 (fun _ => true) true k' 3 (([c0, c1, c2, c3, c4].drop 0).take (Tryd.prog.cellsOf 3)) = some y0 := hfld 0 _ rfl
    have f1 : DataW.trod enc Tryd.prog w 0 (fun _ => true) true k' 3 (([c0, c1, c2, c3, c4].drop 1).take (Tryd.prog.cellsOf 3)) = some y1 := hfld 1 _ rfl
    have f2 : DataW.trod enc Tryd.prog w 0 (fun _ => true) true k' 3 (([c0, c1, c2, c3, c4].drop 2).take (Tryd.prog.cellsOf 3)) = some y2 := hfld 2 _ rfl
    have f3 : DataW.trod enc Tryd.prog w 0 (fun _ => true) true k' 3 (([c0, c1, c2, c3, c4].drop 3).take (Tryd.prog.cellsOf 3)) = some y3 := hfld 3 _ rfl
    have f4 : DataW.trod enc Tryd.prog w 0 (fun _ => true) true k' 2 (([c0, c1, c2, c3, c4].drop 4).take (Tryd.prog.cellsOf 2)) = some y4 := hfld 4 _ rfl
    rw [mic_cells_int] at f0 f1 f2 f3
    rw [mic_cells_int64] at f4
    simp only [List.drop_zero, List.drop_succ_cons, List.take_succ_cons, List.take_zero] at f0 f1 f2 f3 f4
    obtain ⟨t0, e0, _, w0⟩ := DataW.trod_int Tryd.underlying3 f0
    obtain ⟨t1, e1, _, w1⟩ := DataW.trod_int Tryd.underlying3 f1
    obtain ⟨t2, e2, _, w2⟩ := DataW.trod_int Tryd.underlying3 f2
    obtain ⟨t3, e3, _, w3⟩ := DataW.trod_int Tryd.underlying3 f3
    obtain ⟨t4, e4, _, w4⟩ := DataW.trod_int Tryd.underlying2 f4
    simp only [List.cons.injEq, and_true] at e0 e1 e2 e3 e4
    subst e0 e1 e2 e3 e4
    exact ⟨⟨t0, t1, t2, t3, t4⟩, rfl, ⟨(bounds_i64 w0).1, (bounds_i64 w0).2⟩⟩

end Go.Proofs.YtdkableaooaebaaDoor
