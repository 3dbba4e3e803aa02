/-
  Package permit's table in memory, and what each of its calls comes to.
  Conditions: the two blocks given hold a table.
-/
import Derived.Test.YtdkableaooaebaaDoorRowOwn
import Derived.Test.YtdkableaooaebaaDoorDue
import Derived.WalkKit
import Derived.RegionTactic
namespace Go.Proofs.YtdkableaooaebaaDoor
open Go.RowKit

/-- How a thread stands. -/
structure Pk where
  permit : Bool
  flag : Bool
  blocked : Bool
  deadline : Int
deriving DecidableEq

def Pk.cells (p : Pk) : List Value := [.bool p.permit, .bool p.flag, .bool p.blocked, .int .i64 p.deadline]
theorem Pk.four (p : Pk) : p.cells.length = 4 := rfl

/-- Block b holds a table: the time, and threads that lie in block g. -/
def Tab (w : World) (b g c : Nat) (now : Int) (ps : List Pk) : Prop :=
  w.heap[b]? = some (.cells #[.int .i64 now, .slice (some ⟨g, 0, none⟩) ps.length c] 73 (0, 0)) ∧ Row w g c 76 4 Pk.cells ps ∧ g ≠ b ∧ ps.length ≤ 8

theorem Tab.lt {w : World} {b g c : Nat} {now : Int} {ps : List Pk} (h : Tab w b g c now ps) : b < w.heap.size ∧ g < w.heap.size := ⟨(Array.getElem?_eq_some_iff.1 h.1).1, h.2.1.lt⟩

theorem Tab.kept {S : Nat → Prop} {w w' : World} {b g c : Nat} {now : Int} {ps : List Pk} (h : Tab w b g c now ps) (hk : Kept S w w') (h0 : ¬ S b) (h1 : ¬ S g) : Tab w' b g c now ps :=
  ⟨(hk.block b h.lt.1 h0).trans h.1, h.2.1.kept hk h1, h.2.2⟩

theorem Tab.c0 {w : World} {b g c : Nat} {now : Int} {ps : List Pk} (h : Tab w b g c now ps) : w.cell? ⟨b, 0, none⟩ = some (.int .i64 now) := by rw [cell_at w b 0 _ _ h.1]; rfl
theorem Tab.c1 {w : World} {b g c : Nat} {now : Int} {ps : List Pk} (h : Tab w b g c now ps) : w.cell? ⟨b, 1, none⟩ = some (.slice (some ⟨g, 0, none⟩) ps.length c) := by rw [cell_at w b 1 _ _ h.1]; rfl
theorem Tab.f0 {w : World} {b g c : Nat} {now : Int} {ps : List Pk} (h : Tab w b g c now ps) : w.frozen? ⟨b, 0, none⟩ = false := frozen_at w b 0 _ _ h.1

theorem Tab.p0 {w : World} {b g c : Nat} {now : Int} {ps : List Pk} (h : Tab w b g c now ps) {i : Nat} {p : Pk} (hp : ps[i]? = some p) : w.cell? ⟨g, i * 4, none⟩ = some (.bool p.permit) := h.2.1.cell Pk.four hp (j := 0) rfl
theorem Tab.p1 {w : World} {b g c : Nat} {now : Int} {ps : List Pk} (h : Tab w b g c now ps) {i : Nat} {p : Pk} (hp : ps[i]? = some p) : w.cell? ⟨g, i * 4 + 1, none⟩ = some (.bool p.flag) := h.2.1.cell Pk.four hp (j := 1) rfl
theorem Tab.p2 {w : World} {b g c : Nat} {now : Int} {ps : List Pk} (h : Tab w b g c now ps) {i : Nat} {p : Pk} (hp : ps[i]? = some p) : w.cell? ⟨g, i * 4 + 2, none⟩ = some (.bool p.blocked) := h.2.1.cell Pk.four hp (j := 2) rfl
theorem Tab.p3 {w : World} {b g c : Nat} {now : Int} {ps : List Pk} (h : Tab w b g c now ps) {i : Nat} {p : Pk} (hp : ps[i]? = some p) : w.cell? ⟨g, i * 4 + 3, none⟩ = some (.int .i64 p.deadline) := h.2.1.cell Pk.four hp (j := 3) rfl
theorem Tab.free {w : World} {b g c : Nat} {now : Int} {ps : List Pk} (h : Tab w b g c now ps) (o : Nat) : w.frozen? ⟨g, o, none⟩ = false := h.2.1.free o

/-- A store into a thread. -/
theorem Tab.set {w : World} {b g c : Nat} {now : Int} {ps : List Pk} (h : Tab w b g c now ps) {i : Nat} (j : Nat) {p : Pk} (p' : Pk) {v : Value} (hp : ps[i]? = some p) (hj : j < 4) (hp' : p'.cells = p.cells.set j v) :
    Tab (w.setCell ⟨g, i * 4 + j, none⟩ v) b g c now (ps.set i p') := by
  have hk : Kept (fun k => k = g) w (w.setCell ⟨g, i * 4 + j, none⟩ v) := (Kept.refl _ _).setCell _ _ (fun _ => rfl)
  refine ⟨?_, h.2.1.set Pk.four hp hj hp', h.2.2.1, by simpa using h.2.2.2⟩
  rw [hk.block b h.lt.1 (Ne.symm h.2.2.1), h.1, List.length_set]

/-- A table with one thread turned: what else there was stays. -/
def Turned (w : World) (b g c : Nat) (now : Int) (ps : List Pk) (w' : World) : Prop := Tab w' b g c now ps ∧ Kept (fun k => k = g) w w'

theorem Turned.refl {w : World} {b g c : Nat} {now : Int} {ps : List Pk} (h : Tab w b g c now ps) : Turned w b g c now ps w := ⟨h, Kept.refl _ _⟩
theorem Turned.set {w w' : World} {b g c : Nat} {now : Int} {ps : List Pk} (h : Turned w b g c now ps w') {i : Nat} (j : Nat) {p : Pk} (p' : Pk) {v : Value} (hp : ps[i]? = some p) (hj : j < 4) (hp' : p'.cells = p.cells.set j v) :
    Turned w b g c now (ps.set i p') (w'.setCell ⟨g, i * 4 + j, none⟩ v) := ⟨h.1.set j p' hp hj hp', h.2.setCell _ _ (fun _ => rfl)⟩

theorem set_at {α : Type} {ps : List α} {i : Nat} {p : α} (hp : ps[i]? = some p) (p' : α) : (ps.set i p')[i]? = some p' := by
  have := (List.getElem?_eq_some_iff.1 hp).1
  simp [this]

def Pk.on (p : Pk) : Pk := { p with blocked := false, deadline := 0 }

theorem thread_in {w : World} {b g c : Nat} {now : Int} {ps : List Pk} {i : Nat} (h : Tab w b g c now ps) (hi : i < ps.length) :
    Calls Tryd.prog 33 #[.pointer (some ⟨b, 0, none⟩), .int .i64 i] w fun e w' => e = .returned (.pointer (some ⟨g, i * 4, none⟩)) ∧ w = w' := by
  have c1 := h.c1
  have hl := h.2.2.2
  have h1 : ¬ ((i : Int) < 0) := by omega
  clear h
  go_enter Tryd.func33, Tryd.ntmps33
  go_wp2_with fail
  go_ret
  exact ⟨rfl, rfl⟩

theorem thread_out {w : World} {b g c : Nat} {now : Int} {ps : List Pk} {i : Int} (h : Tab w b g c now ps) (hi : ¬ (0 ≤ i ∧ i < (ps.length : Int))) :
    Calls Tryd.prog 33 #[.pointer (some ⟨b, 0, none⟩), .int .i64 i] w fun e w' => e = .returned (.pointer none) ∧ w = w' := by
  have c1 := h.c1
  have hl := h.2.2.2
  have HI := Lib.hid hi
  clear h hi
  by_cases h1 : i < 0
  · go_enter Tryd.func33, Tryd.ntmps33
    go_wp2_with fail
    go_ret
    exact ⟨rfl, rfl⟩
  · have h2 : (ps.length : Int) ≤ i := by have := HI.out; omega
    go_enter Tryd.func33, Tryd.ntmps33
    go_wp2_with fail
    go_ret
    exact ⟨rfl, rfl⟩

theorem unblock_at {w : World} {b g c : Nat} {now : Int} {ps : List Pk} {i : Nat} {p : Pk} (h : Tab w b g c now ps) (hp : ps[i]? = some p) :
    Calls Tryd.prog 55 #[.pointer (some ⟨g, i * 4, none⟩)] w fun e w' => e = .returned (.tuple #[]) ∧ Turned w b g c now (ps.set i p.on) w' := by
  have c2 := h.p2 hp
  have c3 := h.p3 hp
  have f2 := h.free (i * 4 + 2)
  have f3 := h.free (i * 4 + 3)
  have hf : Turned w b g c now (ps.set i p.on) ((w.setCell ⟨g, i * 4 + 2, none⟩ (.bool false)).setCell ⟨g, i * 4 + 3, none⟩ (.int .i64 0)) := by
    have := ((Turned.refl h).set 2 { p with blocked := false } hp (by omega) rfl).set 3 p.on (set_at hp _) (by omega) rfl
    rwa [List.set_set] at this
  have HF := Lib.hid hf; clear hf h
  have HP := Lib.hid hp; clear hp
  go_enter Tryd.func55, Tryd.ntmps55
  go_wp2_with fail
  go_end0
  exact ⟨rfl, HF.out⟩

end Go.Proofs.YtdkableaooaebaaDoor
