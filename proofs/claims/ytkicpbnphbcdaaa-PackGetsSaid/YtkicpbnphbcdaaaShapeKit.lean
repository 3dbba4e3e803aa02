/-
  The document's shape in parts: its frame, its code's loops, what stands in memory.
  Conditions: none; these are lemmas for the walks.
-/
import Derived.Test.YtkicpbnphbcdaaaRefRead
import Derived.Test.YtkicpbnphbcdaaaIntParse
import Derived.Test.YtkicpbnphbcdaaaStaysKit
import Derived.Test.YtkicpbnphbcdaaaInv
import Derived.Deep.RegionHeld3
namespace Go.Proofs.Ytkicpbnphbcdaaa
open Go.RowKit

/-- A part of a piece of code: which way to go at each turn. -/
def down : List Nat → Code → Code
  | [], c => c
  | i :: l, c => down l (match c, i with
    | .seq a _, 0 => a
    | .seq _ b, _ => b
    | .cond _ a _, 0 => a
    | .cond _ _ b, _ => b
    | .loop a, _ => a
    | .block _ a, _ => a
    | .scope a, _ => a
    | c, _ => c)
/-- What shape's three loops do each time. -/
noncomputable def loopA : Code := down [1, 1, 1, 0, 1, 0, 0] (Try.f37.body.getD .skip)
noncomputable def loopB : Code := down [1, 0, 0, 1, 1, 1, 1, 0, 0] loopA
noncomputable def loopC : Code := down [1, 0, 0, 1, 0, 1, 1, 1, 0, 1, 1, 1, 1, 0, 1, 0, 0] loopB

/-- shape's frame: what is read later stands as it is, all else is any. -/
def frS (A : Option Addr) (n c b : Nat) (v5 v6 v7 v8 v9 v10 v11 v46 : Value) (u : Nat → Value) : Act := ⟨#[.slice A n c, u 1, .pointer (some ⟨b, 0, none⟩), .bool false, .pointer (some ⟨b + 1, 0, none⟩), v5, v6, v7, v8, v9, v10, v11, u 12, u 13, u 14, u 15, u 16, u 17, u 18, u 19, u 20, u 21, u 22, u 23, u 24, u 25, u 26, u 27, u 28, u 29, u 30, u 31, u 32, u 33, u 34, u 35, u 36, u 37, u 38, u 39, u 40, u 41, u 42, u 43, u 44, u 45, v46, u 47, u 48, u 49, u 50, u 51, u 52, u 53, u 54, u 55, u 56, u 57, u 58, u 59, u 60, u 61, u 62, u 63, u 64, u 65, u 66, u 67, u 68, u 69, u 70, u 71, u 72, u 73, u 74, u 75, u 76, u 77, u 78, u 79, u 80, u 81, u 82, u 83, u 84, u 85, u 86, u 87, u 88, u 89, u 90, u 91, u 92, u 93, u 94, u 95, u 96, u 97, u 98, u 99, u 100, u 101, u 102, u 103, u 104, u 105, u 106, u 107, u 108, u 109, u 110, u 111, u 112, u 113, u 114, u 115, u 116, u 117, u 118, u 119, u 120, u 121, u 122, u 123, u 124, u 125, u 126, u 127, u 128, u 129, u 130, u 131, u 132, u 133, u 134, u 135, u 136, u 137, u 138, u 139, u 140, u 141, u 142, u 143, u 144, u 145, u 146, u 147, u 148, u 149, u 150, u 151, u 152, u 153, u 154, u 155, u 156, u 157, u 158, u 159, u 160, u 161, u 162, u 163, u 164, u 165, u 166, u 167, u 168, u 169, u 170, u 171, u 172, u 173, u 174, u 175, u 176, u 177, u 178, u 179, u 180, u 181, u 182, u 183, u 184, u 185, u 186, u 187, u 188, u 189, u 190, u 191, u 192, u 193, u 194, u 195, u 196, u 197, u 198, u 199, u 200, u 201, u 202, u 203, u 204, u 205, u 206, u 207, u 208, u 209, u 210, u 211, u 212, u 213, u 214], []⟩
/-- The same where it returns. -/
def frR (A : Option Addr) (n c b : Nat) (u : Nat → Value) : Act := ⟨#[.slice A n c, u 1, .pointer (some ⟨b, 0, none⟩), .bool false, .pointer (some ⟨b + 1, 0, none⟩), u 5, u 6, u 7, u 8, u 9, u 10, u 11, u 12, u 13, u 14, u 15, u 16, u 17, u 18, u 19, u 20, u 21, u 22, u 23, u 24, u 25, u 26, u 27, u 28, u 29, u 30, u 31, u 32, u 33, u 34, u 35, u 36, u 37, u 38, u 39, u 40, u 41, u 42, u 43, u 44, u 45, u 46, u 47, u 48, u 49, u 50, u 51, u 52, u 53, u 54, u 55, u 56, u 57, u 58, u 59, u 60, u 61, u 62, u 63, u 64, u 65, u 66, u 67, u 68, u 69, u 70, u 71, u 72, u 73, u 74, u 75, u 76, u 77, u 78, u 79, u 80, u 81, u 82, u 83, u 84, u 85, u 86, u 87, u 88, u 89, u 90, u 91, u 92, u 93, u 94, u 95, u 96, u 97, u 98, u 99, u 100, u 101, u 102, u 103, u 104, u 105, u 106, u 107, u 108, u 109, u 110, u 111, u 112, u 113, u 114, u 115, u 116, u 117, u 118, u 119, u 120, u 121, u 122, u 123, u 124, u 125, u 126, u 127, u 128, u 129, u 130, u 131, u 132, u 133, u 134, u 135, u 136, u 137, u 138, u 139, u 140, u 141, u 142, u 143, u 144, u 145, u 146, u 147, u 148, u 149, u 150, u 151, u 152, u 153, u 154, u 155, u 156, u 157, u 158, u 159, u 160, u 161, u 162, u 163, u 164, u 165, u 166, u 167, u 168, u 169, u 170, u 171, u 172, u 173, u 174, u 175, u 176, u 177, u 178, u 179, u 180, u 181, u 182, u 183, u 184, u 185, u 186, u 187, u 188, u 189, u 190, u 191, u 192, u 193, u 194, u 195, u 196, u 197, u 198, u 199, u 200, u 201, u 202, u 203, u 204, u 205, u 206, u 207, u 208, u 209, u 210, u 211, u 212, u 213, u 214], []⟩
def lett (a : Act) (k : Nat) : Value := a.tmps.getD k undef
theorem frS_of {A : Option Addr} {n c b : Nat} {v5 v6 v7 v8 v9 v10 v11 v46 : Value} {a : Act} (h : a = frS A n c b v5 v6 v7 v8 v9 v10 v11 v46 (lett a)) : ∃ u, a = frS A n c b v5 v6 v7 v8 v9 v10 v11 v46 u := ⟨_, h⟩
/-- The same at the parts' head. -/
def frT (A : Option Addr) (n c b : Nat) (v5 v6 : Value) (u : Nat → Value) : Act := frS A n c b v5 v6 (u 7) (u 8) (u 9) (u 10) (u 11) (u 46) u
theorem frT_of {A : Option Addr} {n c b : Nat} {v5 v6 : Value} {a : Act} (h : a = frT A n c b v5 v6 (lett a)) : ∃ u, a = frT A n c b v5 v6 u := ⟨_, h⟩
theorem frR_of {A : Option Addr} {n c b : Nat} {a : Act} (h : a = frR A n c b (lett a)) : ∃ u, a = frR A n c b u := ⟨_, h⟩

theorem int_at {w : World} {B : Nat} {A : Option Addr} {l : List Int} (h : Elems w B A 1 iC l) {k : Nat} {n : Int} (hn : l[k]? = some n) : ∃ g off, A = some ⟨g, off, none⟩ ∧ g < B ∧ w.cell? ⟨g, off + k, none⟩ = some (.int .i64 n) := by
  obtain ⟨g, off, e, hg, hc⟩ := h.2 k n hn
  have := hc 0 _ rfl
  rw [Nat.mul_one, Nat.add_zero] at this
  exact ⟨g, off, e, hg, this⟩
theorem int_same {w : World} {B g off : Nat} {l : List Int} (h : Elems w B (some ⟨g, off, none⟩) 1 iC l) {k : Nat} {n : Int} (hn : l[k]? = some n) : w.cell? ⟨g, off + k, none⟩ = some (.int .i64 n) := by
  obtain ⟨g', off', e, _, hc⟩ := int_at h hn
  simp only [Option.some.injEq, Addr.mk.injEq, and_true] at e
  obtain ⟨rfl, rfl⟩ := e
  exact hc

/-- What shape leaves: a script, and whether the numbers are one. -/
def ShapeTo (w : World) (l : List Int) (e : Ending) (w' : World) : Prop :=
  ∃ (y : Sc) (ok : Bool), e = .returned (.tuple #[y.agg, .bool ok]) ∧ Kept (fun _ => False) w w' ∧
    (ok = true → scP intTok (some l) = (partsOf y, some []) ∧ ∀ w2, Kept (fun g => g < w.heap.size) w' w2 → Lies w2 w2.heap.size y) ∧ (ok = false → (scP intTok (some l)).2 ≠ some [])

/-- The numbers that came in. -/
structure ShapeIn (w : World) (B : Nat) (A : Option Addr) (l : List Int) : Prop where
  elems : Elems w B A 1 iC l
  low : B ≤ w.heap.size
  inr : ∀ n ∈ l, InR n
  few : l.length ≤ 4000
theorem ShapeIn.at {w : World} {B : Nat} {A : Option Addr} {l : List Int} (h : ShapeIn w B A l) {w' : World} (hk : Kept (fun _ => False) w w') : Elems w' B A 1 iC l := h.elems.kept hk h.low (fun _ _ f => f)

@[reducible] def scCells (y : Sc) : Array Value := #[.slice y.os y.obs.length y.oc, .slice y.ps y.prs.length y.pc, .slice y.ks y.pis.length y.kc]
/-- The script's variable holds y; the result's is as it was made. -/
structure Var (w wr : World) (y : Sc) : Prop where
  var : wr.heap[w.heap.size + 1]? = some (.cells #[.slice y.os y.obs.length y.oc, .slice y.ps y.prs.length y.pc, .slice y.ks y.pis.length y.kc] 26 (0, 0))
  res : wr.heap[w.heap.size]? = some (.cells #[.slice none 0 0, .slice none 0 0, .slice none 0 0] 26 (0, 0))
  kept : Kept (fun _ => False) w wr
/-- Where it returns false. -/
def RetNo (w : World) (l : List Int) (w' : World) : Prop :=
  (scP intTok (some l)).2 = none ∧ Kept (fun _ => False) w w' ∧ ∃ y : Sc, w'.heap[w.heap.size]? = some (.cells #[.slice y.os y.obs.length y.oc, .slice y.ps y.prs.length y.pc, .slice y.ks y.pis.length y.kc] 26 (0, 0))
def RetTo (w : World) (A : Option Addr) (c : Nat) (l : List Int) (Q : Exit → Act → World → Prop) : Prop := ∀ a w', (∃ u, a = frR A l.length c w.heap.size u) → RetNo w l w' → Q .ret a w'

/-- What a way out that fails needs, and leaves. -/
theorem Var.bad {w wr : World} {y : Sc} {l : List Int} (h : Var w wr y) (hn : (scP intTok (some l)).2 = none) :
    (wr.frozen? ⟨w.heap.size, 0, none⟩ = false ∧ wr.frozen? ⟨w.heap.size, 1, none⟩ = false ∧ wr.frozen? ⟨w.heap.size, 2, none⟩ = false) ∧
    (wr.cell? ⟨w.heap.size, 0, none⟩ = some (.slice none 0 0) ∧ wr.cell? ⟨w.heap.size, 1, none⟩ = some (.slice none 0 0) ∧ wr.cell? ⟨w.heap.size, 2, none⟩ = some (.slice none 0 0)) ∧
    (wr.cell? ⟨w.heap.size + 1, 0, none⟩ = some (.slice y.os y.obs.length y.oc) ∧ wr.cell? ⟨w.heap.size + 1, 1, none⟩ = some (.slice y.ps y.prs.length y.pc) ∧ wr.cell? ⟨w.heap.size + 1, 2, none⟩ = some (.slice y.ks y.pis.length y.kc)) ∧
    RetNo w l (((wr.setCell ⟨w.heap.size, 0, none⟩ (.slice y.os y.obs.length y.oc)).setCell ⟨w.heap.size, 1, none⟩ (.slice y.ps y.prs.length y.pc)).setCell ⟨w.heap.size, 2, none⟩ (.slice y.ks y.pis.length y.kc)) := by
  have hs := res_set h.res h.kept (.slice y.os y.obs.length y.oc) (.slice y.ps y.prs.length y.pc) (.slice y.ks y.pis.length y.kc)
  exact ⟨⟨frozen_at wr _ 0 _ _ h.res, frozen_at wr _ 1 _ _ h.res, frozen_at wr _ 2 _ _ h.res⟩, res_cells h.res, res_cells h.var, hn, hs.2, y, hs.1⟩

end Go.Proofs.Ytkicpbnphbcdaaa
