/-
  The document's Parse in parts: its frame, its code's loops, a line in memory.
  Conditions: none; these are lemmas for the walks.
-/
import Derived.Test.YtibgkhfadlgonaaDoorLineSplit
import Derived.Test.YtibgkhfadlgonaaDoorLineReg
import Derived.Test.YtibgkhfadlgonaaDoorLineName
import Derived.Test.YtibgkhfadlgonaaDoorLineNum
import Derived.Test.YtibgkhfadlgonaaDoorLineWords
import Derived.Test.YtibgkhfadlgonaaDoorLineMem
import Derived.Test.YtibgkhfadlgonaaDoorDown
namespace Go.Proofs.YtibgkhfadlgonaaDoor
open Go.RowKit

noncomputable def parseA : Code := down [1, 1, 0, 0, 0] (Tryd.f7.body.getD .skip)
noncomputable def parseB : Code := down [1, 1, 1, 0, 0, 0] (Tryd.f7.body.getD .skip)
noncomputable def parseC : Code := down [1, 1, 1, 1, 1, 1, 1, 1, 0, 1, 0, 0] (Tryd.f7.body.getD .skip)
noncomputable def parseD : Code := down [1, 0, 0, 1, 1, 1, 0, 1, 0, 0] parseC

/-- Parse's frame: what is read later stands as it is, all else is any. -/
def frP (s : ByteArray) (b : Nat) (v6 v7 v8 v9 v10 v11 : Value) (u : Nat → Value) : Act := ⟨#[.string s, u 1, .pointer (some ⟨b, 0, none⟩), .bool false, .pointer (some ⟨b + 1, 0, none⟩), u 5, v6, v7, v8, v9, v10, v11, u 12, u 13, u 14, u 15, u 16, u 17, u 18, u 19, u 20, u 21, u 22, u 23, u 24, u 25, u 26, u 27, u 28, u 29, u 30, u 31, u 32, u 33, u 34, u 35, u 36, u 37, u 38, u 39, u 40, u 41, u 42, u 43, u 44, u 45, u 46, u 47, u 48, u 49, u 50, u 51, u 52, u 53, u 54, u 55, u 56, u 57, u 58, u 59, u 60, u 61, u 62, u 63, u 64, u 65, u 66, u 67, u 68, u 69, u 70, u 71, u 72, u 73, u 74, u 75, u 76, u 77, u 78, u 79, u 80, u 81, u 82, u 83, u 84, u 85, u 86, u 87, u 88, u 89, u 90, u 91, u 92, u 93, u 94, u 95, u 96, u 97, u 98, u 99, u 100, u 101, u 102, u 103, u 104, u 105, u 106, u 107, u 108, u 109, u 110, u 111, u 112, u 113, u 114, u 115, u 116, u 117, u 118, u 119, u 120, u 121, u 122, u 123, u 124, u 125, u 126, u 127, u 128, u 129, u 130, u 131, u 132, u 133, u 134, u 135, u 136, u 137, u 138, u 139, u 140, u 141, u 142, u 143, u 144, u 145, u 146, u 147, u 148, u 149, u 150, u 151, u 152, u 153, u 154, u 155, u 156, u 157, u 158, u 159, u 160, u 161, u 162, u 163, u 164, u 165, u 166, u 167, u 168, u 169, u 170, u 171, u 172, u 173, u 174, u 175, u 176, u 177, u 178, u 179, u 180, u 181, u 182, u 183, u 184, u 185, u 186, u 187, u 188, u 189, u 190, u 191, u 192, u 193, u 194], []⟩
/-- The same where it returns. -/
def frQ (b : Nat) (ok : Bool) (u : Nat → Value) : Act := ⟨#[u 0, u 1, .pointer (some ⟨b, 0, none⟩), .bool ok, u 4, u 5, u 6, u 7, u 8, u 9, u 10, u 11, u 12, u 13, u 14, u 15, u 16, u 17, u 18, u 19, u 20, u 21, u 22, u 23, u 24, u 25, u 26, u 27, u 28, u 29, u 30, u 31, u 32, u 33, u 34, u 35, u 36, u 37, u 38, u 39, u 40, u 41, u 42, u 43, u 44, u 45, u 46, u 47, u 48, u 49, u 50, u 51, u 52, u 53, u 54, u 55, u 56, u 57, u 58, u 59, u 60, u 61, u 62, u 63, u 64, u 65, u 66, u 67, u 68, u 69, u 70, u 71, u 72, u 73, u 74, u 75, u 76, u 77, u 78, u 79, u 80, u 81, u 82, u 83, u 84, u 85, u 86, u 87, u 88, u 89, u 90, u 91, u 92, u 93, u 94, u 95, u 96, u 97, u 98, u 99, u 100, u 101, u 102, u 103, u 104, u 105, u 106, u 107, u 108, u 109, u 110, u 111, u 112, u 113, u 114, u 115, u 116, u 117, u 118, u 119, u 120, u 121, u 122, u 123, u 124, u 125, u 126, u 127, u 128, u 129, u 130, u 131, u 132, u 133, u 134, u 135, u 136, u 137, u 138, u 139, u 140, u 141, u 142, u 143, u 144, u 145, u 146, u 147, u 148, u 149, u 150, u 151, u 152, u 153, u 154, u 155, u 156, u 157, u 158, u 159, u 160, u 161, u 162, u 163, u 164, u 165, u 166, u 167, u 168, u 169, u 170, u 171, u 172, u 173, u 174, u 175, u 176, u 177, u 178, u 179, u 180, u 181, u 182, u 183, u 184, u 185, u 186, u 187, u 188, u 189, u 190, u 191, u 192, u 193, u 194], []⟩
theorem frP_of {s : ByteArray} {b : Nat} {v6 v7 v8 v9 v10 v11 : Value} {a : Act} (h : a = frP s b v6 v7 v8 v9 v10 v11 (lett a)) : ∃ u, a = frP s b v6 v7 v8 v9 v10 v11 u := ⟨_, h⟩
theorem frQ_of {b : Nat} {ok : Bool} {a : Act} (h : a = frQ b ok (lett a)) : ∃ u, a = frQ b ok u := ⟨_, h⟩

/-- The line's variable holds x; the result's is as it was made. -/
structure VarL (w wr : World) (x : Ln) : Prop where
  var : wr.heap[w.heap.size + 1]? = some (.cells #[.string (strS x.label), .int .i64 x.op, .int .i64 x.a, .int .i64 x.b, .int .i64 x.c, .int .i64 x.n, .string (strS x.target)] 26 (0, 0))
  res : wr.heap[w.heap.size]? = some (.cells #[.string (strS []), .int .i64 0, .int .i64 0, .int .i64 0, .int .i64 0, .int .i64 0, .string (strS [])] 26 (0, 0))
  kept : Kept (fun _ => False) w wr
theorem VarL.on {w wr w' : World} {x : Ln} (h : VarL w wr x) (hk : Kept (fun _ => False) wr w') : VarL w w' x :=
  ⟨(hk.block _ (Array.getElem?_eq_some_iff.1 h.var).1 (fun f => f)).trans h.var, (hk.block _ (Array.getElem?_eq_some_iff.1 h.res).1 (fun f => f)).trans h.res, h.kept.trans hk (fun _ _ f => f)⟩
/-- One of the line's cells is stored. -/
theorem VarL.set {w wr : World} {x x' : Ln} {o : Nat} {v : Value} (h : VarL w wr x) (he : (#[.string (strS x.label), .int .i64 x.op, .int .i64 x.a, .int .i64 x.b, .int .i64 x.c, .int .i64 x.n, .string (strS x.target)] : Array Value).setIfInBounds o v = #[.string (strS x'.label), .int .i64 x'.op, .int .i64 x'.a, .int .i64 x'.b, .int .i64 x'.c, .int .i64 x'.n, .string (strS x'.target)]) :
    VarL w (wr.setCell ⟨w.heap.size + 1, o, none⟩ v) x' := by
  have hk : Kept (fun q => q = w.heap.size + 1) wr (wr.setCell ⟨w.heap.size + 1, o, none⟩ v) := (Kept.refl _ wr).setCell _ _ (fun _ => rfl)
  refine ⟨by rw [set_cellB h.var, he], (hk.block _ (Array.getElem?_eq_some_iff.1 h.res).1 (fun e => by omega)).trans h.res, h.kept.trans hk (fun q hq e => by omega)⟩

/-- How it ends. -/
def FinL (w : World) (l : Str) (ok : Bool) (w' : World) : Prop :=
  Kept (fun _ => False) w w' ∧ ∃ x : Ln, w'.heap[w.heap.size]? = some (.cells #[.string (strS x.label), .int .i64 x.op, .int .i64 x.a, .int .i64 x.b, .int .i64 x.c, .int .i64 x.n, .string (strS x.target)] 26 (0, 0)) ∧ parseL l = (if ok then some x else none) ∧ (ok = false → x = zeroLn)
def RetL (w : World) (l : Str) (Q : Exit → Act → World → Prop) : Prop := ∀ a w' ok, (∃ u, a = frQ w.heap.size ok u) → FinL w l ok w' → Q .ret a w'

/-- It returns what the variable holds. -/
theorem VarL.yes {w wr : World} {x : Ln} {l : Str} (h : VarL w wr x) (hp : parseL l = some x) : FinL w l true (set7 wr w.heap.size (.string (strS x.label)) (.int .i64 x.op) (.int .i64 x.a) (.int .i64 x.b) (.int .i64 x.c) (.int .i64 x.n) (.string (strS x.target))) :=
  ⟨set7_kept (Nat.le_refl _) h.kept, x, set7_at h.res, hp, fun e => by cases e⟩
/-- It returns nothing. -/
theorem VarL.no {w wr : World} {x : Ln} {l : Str} (h : VarL w wr x) (hp : parseL l = none) : FinL w l false (set7 wr w.heap.size (.string (strS [])) (.int .i64 0) (.int .i64 0) (.int .i64 0) (.int .i64 0) (.int .i64 0) (.string (strS []))) :=
  ⟨set7_kept (Nat.le_refl _) h.kept, zeroLn, set7_at h.res, hp, fun _ => rfl⟩

end Go.Proofs.YtibgkhfadlgonaaDoor
