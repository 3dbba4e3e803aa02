/-
  What an instruction of the document's machine comes to, one by one.
  Conditions: the world lies in memory, and the frame in a block of its own; registers' numbers are below 16.
-/
import Derived.Test.YtofnomkedpagfaaMachW
import Derived.Test.YtofnomkedpagfaaZeros
import Derived.WalkKit
import Derived.RegionTactic
import Derived.Handy
import Derived.Deep.CutBlock
namespace Go.Proofs.Ytofnomkedpagfaa
open Go.RowKit
set_option linter.unusedVariables false
set_option linter.unusedSimpArgs false

/-- A world, and a frame in a block of its own. -/
structure OneAt (P : Wp) (og oc : Nat) (zs : List Int) (ps : List Pk) (fb : Nat) (f : Fr) (w : World) : Prop where
  rw : RW P og oc zs ps w
  fr : Row w fb 1 72 17 Fr.cells [f]
  far : ¬ P.foot og fb
section
variable {P : Wp} {og oc : Nat} {zs : List Int} {ps : List Pk} {fb : Nat} {f : Fr} {w w' : World}
theorem OneAt.kept {S : Nat → Prop} (h : OneAt P og oc zs ps fb f w) (hk : Kept S w w') (hS : ∀ k, P.foot og k → ¬ S k) (hf : ¬ S fb) : OneAt P og oc zs ps fb f w' := ⟨h.rw.kept hk hS, h.fr.kept hk hf, h.far⟩
theorem OneAt.kept0 (h : OneAt P og oc zs ps fb f w) (hk : Kept (fun _ => False) w w') : OneAt P og oc zs ps fb f w' := h.kept hk (fun _ _ f => f) (fun f => f)
theorem OneAt.pcAt (h : OneAt P og oc zs ps fb f w) : w.cell? ⟨fb, 0, none⟩ = some (.int .i64 f.pc) := by
  have := h.fr.cell Fr.len (i := 0) (x := f) rfl (j := 0) (v := .int .i64 f.pc) rfl
  simpa using this
theorem OneAt.regAt (h : OneAt P og oc zs ps fb f w) {j : Nat} (hj : j < 16) : w.cell? ⟨fb, 1 + j, none⟩ = some (.int .i64 (f.r j)) := by
  have := h.fr.cell Fr.len (i := 0) (x := f) rfl (f.at_r hj)
  rw [Nat.zero_mul, Nat.zero_add, Nat.add_comm] at this
  exact this
theorem OneAt.free (h : OneAt P og oc zs ps fb f w) (o : Nat) : w.frozen? ⟨fb, o, none⟩ = false := h.fr.free o
theorem OneAt.setF (h : OneAt P og oc zs ps fb f w) {j : Nat} (hj : j < 17) (f' : Fr) {v : Value} (hf : f'.cells = f.cells.set j v) :
    OneAt P og oc zs ps fb f' (w.setCell ⟨fb, j, none⟩ v) ∧ Kept (fun k => k = fb) w (w.setCell ⟨fb, j, none⟩ v) := by
  have hk : Kept (fun k => k = fb) w (w.setCell ⟨fb, j, none⟩ v) := (Kept.refl _ w).setCell _ _ (fun _ => rfl)
  have hr := h.fr.set Fr.len (i := 0) (x := f) rfl hj hf
  rw [Nat.zero_mul, Nat.zero_add] at hr
  exact ⟨⟨h.rw.kept hk (fun k hk2 e => h.far (by rw [← e]; exact hk2)), hr, h.far⟩, hk⟩
theorem OneAt.put (h : OneAt P og oc zs ps fb f w) {j : Nat} (hj : j < 16) (v : Int) :
    OneAt P og oc zs ps fb (f.put j v) (w.setCell ⟨fb, 1 + j, none⟩ (.int .i64 v)) ∧ Kept (fun k => k = fb) w (w.setCell ⟨fb, 1 + j, none⟩ (.int .i64 v)) := by
  rw [Nat.add_comm]
  exact h.setF (by omega) _ (f.put_cells j v)
theorem OneAt.go (h : OneAt P og oc zs ps fb f w) (p : Int) : OneAt P og oc zs ps fb (f.go p) (w.setCell ⟨fb, 0, none⟩ (.int .i64 p)) ∧ Kept (fun k => k = fb) w (w.setCell ⟨fb, 0, none⟩ (.int .i64 p)) :=
  h.setF (by decide) _ (f.go_cells p)
end

/-- What an instruction leaves: how it ended, its note, what came; the world and the frame, turned; all else as it was. -/
def OneTo (P : Wp) (og : Nat) (fb : Nat) (w : World) (k : Int) (note : Nt) (came : Int) (zs' : List Int) (ps' : List Pk) (f' : Fr) (e : Ending) (w' : World) : Prop :=
  e = .returned (.tuple #[.int .i64 k, .agg #[.int .i64 note.kind, .int .i64 note.value], .int .i64 came]) ∧ ∃ og' oc', OneAt P og' oc' zs' ps' fb f' w' ∧ Kept (fun q => P.foot og q ∨ q = fb) w w' ∧ (og' = og ∨ w.heap.size ≤ og')
/-- No note. -/
def noNt : Nt := ⟨-1, 0⟩

section
variable {P : Wp} {og oc : Nat} {zs : List Int} {ps : List Pk} {fb : Nat} {f : Fr} {w : World}
theorem OneTo.of {w1 w2 : World} {k came : Int} {note : Nt} {zs' : List Int} {ps' : List Pk} {f' : Fr} {og' oc' : Nat} {S : Nat → Prop} (hk1 : Kept (fun _ => False) w w1) (h2 : OneAt P og' oc' zs' ps' fb f' w2) (hk2 : Kept S w1 w2) (hS : ∀ q, S q → P.foot og q ∨ q = fb)
    (ho : og' = og ∨ w.heap.size ≤ og') (hl : fb < w.heap.size ∧ ∀ q, P.foot og q → q < w.heap.size) (hn : og' ≠ w.heap.size + 1) : ∀ w3, Kept (fun q => q = w.heap.size + 1) w2 w3 → OneTo P og fb w k note came zs' ps' f' (.returned (.tuple #[.int .i64 k, .agg #[.int .i64 note.kind, .int .i64 note.value], .int .i64 came])) w3 := fun w3 hk3 => by
  have hf : ∀ q, P.foot og' q → q ≠ w.heap.size + 1 := fun q hq => by
    rcases hq with rfl | rfl | rfl | rfl
    · have := hl.2 _ (.inl rfl); omega
    · exact hn
    · have := hl.2 _ (.inr (.inr (.inl rfl))); omega
    · have := hl.2 _ (.inr (.inr (.inr rfl))); omega
  exact ⟨rfl, og', oc', h2.kept hk3 hf (by have := hl.1; omega), ((hk1.mono (T := fun q => P.foot og q ∨ q = fb) (fun _ _ f => f.elim)).trans (hk2.mono (fun q _ h => hS q h)) (fun _ _ h => h)).trans hk3 (fun q hq e => by omega), ho⟩

theorem one_results {tmps : Array Value} {g : Nat} {k came : Int} {x : Nt} {w : World} (h8 : tmps.getD 8 undef = .int .i64 k) (h9 : tmps.getD 9 undef = .pointer (some ⟨g, 0, none⟩)) (h10 : tmps.getD 10 undef = .int .i64 came) (hR : w.rangeAt g 0 x.cells) :
    (results Try.f36 tmps).run Try.prog w = .ok (.tuple #[.int .i64 k, .agg #[.int .i64 x.kind, .int .i64 x.value], .int .i64 came]) w := by
  obtain ⟨d, hu, hd⟩ := und_note
  have h1 := run_loadVar_mid (P := Try.prog) w g 0 77 x.cells d hR hu hd size_note
  have hr : Try.f36.results = #[.tmp 8, .cell 9 77, .tmp 10] := rfl
  unfold results
  rw [hr]
  rw [Array.getD_eq_getD_getElem?] at h8 h9 h10
  simp [h8, h9, h10, h1, asAddr, Nt.cells]

/-- Two cells that were stored. -/
theorem range2 {W : World} (g : Nat) (x : Nt) (v0 v1 : Value) (h0 : W.cell? ⟨g, 0, none⟩ = some v0) (h1 : W.cell? ⟨g, 1, none⟩ = some v1) (hf : ∀ o, W.frozen? ⟨g, o, none⟩ = false) :
    ((W.setCell ⟨g, 0, none⟩ (.int .i64 x.kind)).setCell ⟨g, 1, none⟩ (.int .i64 x.value)).drew.rangeAt g 0 x.cells := by
  rw [World.rangeAt_drew]
  exact World.rangeAt_setCells_same W g 0 [.int .i64 x.kind, .int .i64 x.value] (fun j hj => ⟨by
    match j, hj with
    | 0, _ => rw [h0]; rfl
    | 1, _ => rw [h1]; rfl, hf _⟩)
/-- How it stands when an instruction's body begins: its own blocks. -/
structure Began (P : Wp) (og oc : Nat) (zs : List Int) (ps : List Pk) (fb : Nat) (f : Fr) (w : World) (x : Ix) (W : World) : Prop where
  at_ : OneAt P og oc zs ps fb f W
  k : Kept (fun _ => False) w W
  b : W.heap[w.heap.size]? = some (.cells #[.int .i64 x.op, .int .i64 x.a, .int .i64 x.b, .int .i64 x.c, .int .i64 x.n] 87 (0, 0))
  n1 : W.heap[w.heap.size + 1]? = some (.cells #[.int .i64 0, .int .i64 0] 77 (0, 0))
  n2 : W.heap[w.heap.size + 1 + 1]? = some (.cells #[.int .i64 (-1), .int .i64 0] 77 (0, 0))
  lt : fb < w.heap.size ∧ ∀ q, P.foot og q → q < w.heap.size
theorem began (h : OneAt P og oc zs ps fb f w) {x : Ix} {W : World}
    (hW : ((w.alloc (.cells #[.int .i64 x.op, .int .i64 x.a, .int .i64 x.b, .int .i64 x.c, .int .i64 x.n] 87)).alloc (.cells #[.int .i64 0, .int .i64 0] 77)).alloc (.cells #[.int .i64 (-1), .int .i64 0] 77) = W) : Began P og oc zs ps fb f w x W := by
  have hk := ((((Kept.refl (fun _ => False) w).alloc (.cells #[.int .i64 x.op, .int .i64 x.a, .int .i64 x.b, .int .i64 x.c, .int .i64 x.n] 87)).alloc (.cells #[.int .i64 0, .int .i64 0] 77)).alloc (.cells #[.int .i64 (-1), .int .i64 0] 77))
  have k2 : Kept (fun _ => False) (w.alloc (.cells #[.int .i64 x.op, .int .i64 x.a, .int .i64 x.b, .int .i64 x.c, .int .i64 x.n] 87)) W := by
    rw [← hW]; exact (((Kept.refl (fun _ => False) _).alloc _).alloc _)
  have k3 : Kept (fun _ => False) ((w.alloc (.cells #[.int .i64 x.op, .int .i64 x.a, .int .i64 x.b, .int .i64 x.c, .int .i64 x.n] 87)).alloc (.cells #[.int .i64 0, .int .i64 0] 77)) W := by
    rw [← hW]; exact ((Kept.refl (fun _ => False) _).alloc _)
  rw [hW] at hk
  have e1 : (w.alloc (.cells #[.int .i64 x.op, .int .i64 x.a, .int .i64 x.b, .int .i64 x.c, .int .i64 x.n] 87)).heap.size = w.heap.size + 1 := by simp
  refine ⟨h.kept0 hk, hk, k2.at0 (heap_new1 w _), ?_, ?_, h.fr.lt, fun q hq => h.rw.foot_lt hq⟩
  · rw [← e1]; exact k3.at0 (heap_new1 _ _)
  · rw [← hW]
    have := heap_new1 ((w.alloc (.cells #[.int .i64 x.op, .int .i64 x.a, .int .i64 x.b, .int .i64 x.c, .int .i64 x.n] 87)).alloc (.cells #[.int .i64 0, .int .i64 0] 77)) (.cells #[.int .i64 (-1), .int .i64 0] 77)
    simp only [World.size_alloc] at this
    exact this
theorem Began.on {x : Ix} {W W2 : World} (h : Began P og oc zs ps fb f w x W) (hk : Kept (fun _ => False) W W2) : Began P og oc zs ps fb f w x W2 :=
  ⟨h.at_.kept0 hk, h.k.tr0 hk, hk.at0 h.b, hk.at0 h.n1, hk.at0 h.n2, h.lt⟩
theorem Began.drewN {x : Ix} {W : World} (h : Began P og oc zs ps fb f w x W) (n : Nat) : Began P og oc zs ps fb f w x (W.drewN n) := h.on ((Kept.refl _ W).drewN n)
/-- What an instruction's end needs of its own blocks. -/
structure Ends (w : World) (W : World) : Prop where
  n1 : W.cell? ⟨w.heap.size + 1, 0, none⟩ = some (.int .i64 0) ∧ W.cell? ⟨w.heap.size + 1, 1, none⟩ = some (.int .i64 0)
  n2 : W.cell? ⟨w.heap.size + 1 + 1, 0, none⟩ = some (.int .i64 (-1)) ∧ W.cell? ⟨w.heap.size + 1 + 1, 1, none⟩ = some (.int .i64 0)
  f1 : ∀ o, W.frozen? ⟨w.heap.size + 1, o, none⟩ = false
theorem Began.ends {x : Ix} {W W2 : World} {S : Nat → Prop} (h : Began P og oc zs ps fb f w x W) (hk : Kept S W W2) (hS : ∀ q, S q → q < w.heap.size) : Ends w W2 := by
  have q1 : W2.heap[w.heap.size + 1]? = some (.cells #[.int .i64 0, .int .i64 0] 77 (0, 0)) := (hk.block _ (Array.getElem?_eq_some_iff.1 h.n1).1 (fun e => by have := hS _ e; omega)).trans h.n1
  have q2 : W2.heap[w.heap.size + 1 + 1]? = some (.cells #[.int .i64 (-1), .int .i64 0] 77 (0, 0)) := (hk.block _ (Array.getElem?_eq_some_iff.1 h.n2).1 (fun e => by have := hS _ e; omega)).trans h.n2
  exact ⟨⟨by rw [cell_at W2 _ 0 _ _ q1]; rfl, by rw [cell_at W2 _ 1 _ _ q1]; rfl⟩, ⟨by rw [cell_at W2 _ 0 _ _ q2]; rfl, by rw [cell_at W2 _ 1 _ _ q2]; rfl⟩, fun o => frozen_at W2 _ o _ _ q1⟩

end

end Go.Proofs.Ytofnomkedpagfaa
