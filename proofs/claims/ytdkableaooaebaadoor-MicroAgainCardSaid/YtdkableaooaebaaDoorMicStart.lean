/-
  What the program's Start comes to.
  Conditions: none.
-/
import Derived.Test.YtdkableaooaebaaDoorMicBlk
import Derived.Test.YtdkableaooaebaaDoorNums
import Derived.Laws.CopyOwn
namespace Go.Proofs.YtdkableaooaebaaDoor
open Go.RowKit
set_option linter.unusedVariables false

/-- A thread's first frame. -/
def firstF (p : Int) (rs : List Int) : Fr := ⟨p, fun k => rs.getD k 0⟩
/-- What Start leaves. -/
def StartTo (w : World) (f : Fr) (e : Ending) (w' : World) : Prop :=
  ∃ g c, e = .returned (.slice (some ⟨g, 0, none⟩) 1 c) ∧ w.heap.size ≤ g ∧ Row w' g c 60 17 Fr.cells [f] ∧ Kept (fun _ => False) w w'

/-- The registers that count. -/
def firstR (rs : List Int) : List Value := (rs.take 16).map (Value.int .i64)
theorem firstR_len (rs : List Int) : (firstR rs).length = Nat.min rs.length 16 := by unfold firstR; rw [List.length_map, List.length_take, Nat.min_comm]
theorem firstR_one (rs : List Int) : ∀ v ∈ firstR rs, v.oneCell' = true := by
  intro v hv
  unfold firstR at hv
  rw [List.mem_map] at hv
  obtain ⟨z, _, rfl⟩ := hv
  rfl
@[reducible] def zero17 (p : Int) : List Value := [.int .i64 p, .int .i64 0, .int .i64 0, .int .i64 0, .int .i64 0, .int .i64 0, .int .i64 0, .int .i64 0, .int .i64 0, .int .i64 0, .int .i64 0, .int .i64 0, .int .i64 0, .int .i64 0, .int .i64 0, .int .i64 0, .int .i64 0]
theorem zero17_at (p : Int) (j : Nat) (hj : j < 16) : (zero17 p)[j + 1]? = some (.int .i64 0) := by
  have : j = 0 ∨ j = 1 ∨ j = 2 ∨ j = 3 ∨ j = 4 ∨ j = 5 ∨ j = 6 ∨ j = 7 ∨ j = 8 ∨ j = 9 ∨ j = 10 ∨ j = 11 ∨ j = 12 ∨ j = 13 ∨ j = 14 ∨ j = 15 := by omega
  rcases this with rfl | rfl | rfl | rfl | rfl | rfl | rfl | rfl | rfl | rfl | rfl | rfl | rfl | rfl | rfl | rfl <;> rfl
/-- The frame's cells behind the copy. -/
theorem first_cells (p : Int) (rs : List Int) : splice (zero17 p) 1 (firstR rs) = (firstF p rs).cells := by
  have hl := firstR_len rs
  have hm : Nat.min rs.length 16 ≤ 16 := Nat.min_le_right _ _
  apply List.ext_getElem?
  intro i
  unfold splice
  rcases i with _ | j
  · rfl
  · rw [List.getElem?_append_right (by simp)]
    simp only [List.length_take, List.length_cons, List.length_nil]
    rw [show j + 1 - min 1 (0 + 1 + 1 + 1 + 1 + 1 + 1 + 1 + 1 + 1 + 1 + 1 + 1 + 1 + 1 + 1 + 1 + 1) = j by omega]
    by_cases hj : j < 16
    · rw [(firstF p rs).at_r hj]
      by_cases h1 : j < (firstR rs).length
      · rw [List.getElem?_append_left h1]
        have h2 : j < rs.length := by rw [hl] at h1; exact Nat.lt_of_lt_of_le h1 (Nat.min_le_left _ _)
        unfold firstR
        show _ = some (Value.int IntKind.i64 (rs.getD j 0))
        rw [List.getElem?_map, List.getElem?_take, if_pos hj, List.getD_eq_getElem?_getD, List.getElem?_eq_getElem h2]
        rfl
      · rw [List.getElem?_append_right (by omega), List.getElem?_drop, show 1 + (firstR rs).length + (j - (firstR rs).length) = j + 1 by omega, zero17_at p j hj]
        have h2 : rs.length ≤ j := by
          rw [hl] at h1
          rcases Nat.le_total rs.length 16 with h | h
          · rw [show Nat.min rs.length 16 = rs.length from Nat.min_eq_left h] at h1; omega
          · rw [show Nat.min rs.length 16 = 16 from Nat.min_eq_right h] at h1; omega
        show _ = some (Value.int IntKind.i64 (rs.getD j 0))
        rw [List.getD_eq_getElem?_getD, List.getElem?_eq_none h2]
        rfl
    · rw [List.getElem?_eq_none (l := (firstF p rs).cells) (by rw [(firstF p rs).len]; omega)]
      refine List.getElem?_eq_none ?_
      rw [List.length_append, List.length_drop]
      simp only [List.length_cons, List.length_nil]
      omega

/-- A frame's cells, one by one. -/
theorem Fr.all {w : World} {g : Nat} {f : Fr} {t : TypeId} (h : w.heap[g]? = some (.cells f.cells.toArray t (0, 0))) : w.cell? ⟨g, 0, none⟩ = some (.int .i64 f.pc) ∧ w.cell? ⟨g, 1, none⟩ = some (.int .i64 (f.r 0)) ∧ w.cell? ⟨g, 2, none⟩ = some (.int .i64 (f.r 1)) ∧
    w.cell? ⟨g, 3, none⟩ = some (.int .i64 (f.r 2)) ∧ w.cell? ⟨g, 4, none⟩ = some (.int .i64 (f.r 3)) ∧ w.cell? ⟨g, 5, none⟩ = some (.int .i64 (f.r 4)) ∧ w.cell? ⟨g, 6, none⟩ = some (.int .i64 (f.r 5)) ∧
    w.cell? ⟨g, 7, none⟩ = some (.int .i64 (f.r 6)) ∧ w.cell? ⟨g, 8, none⟩ = some (.int .i64 (f.r 7)) ∧ w.cell? ⟨g, 9, none⟩ = some (.int .i64 (f.r 8)) ∧ w.cell? ⟨g, 10, none⟩ = some (.int .i64 (f.r 9)) ∧
    w.cell? ⟨g, 11, none⟩ = some (.int .i64 (f.r 10)) ∧ w.cell? ⟨g, 12, none⟩ = some (.int .i64 (f.r 11)) ∧ w.cell? ⟨g, 13, none⟩ = some (.int .i64 (f.r 12)) ∧ w.cell? ⟨g, 14, none⟩ = some (.int .i64 (f.r 13)) ∧
    w.cell? ⟨g, 15, none⟩ = some (.int .i64 (f.r 14)) ∧ w.cell? ⟨g, 16, none⟩ = some (.int .i64 (f.r 15)) := by
  have q : ∀ j, w.cell? ⟨g, j, none⟩ = f.cells[j]? := fun j => by rw [cell_at w g j _ _ h, ← Array.getElem?_toList]
  exact ⟨q 0, q 1, q 2, q 3, q 4, q 5, q 6, q 7, q 8, q 9, q 10, q 11, q 12, q 13, q 14, q 15, q 16⟩

theorem info_int64 : (Tryd.prog.info? 2).map (·.size) = some 1 := by kernel_rfl

set_option maxHeartbeats 2000000 in
set_option maxRecDepth 100000 in
theorem start_any {w : World} {so : Option Addr} {cap : Nat} (p : Int) (rs : List Int) (hz : Nums w w.heap.size so rs) :
    Calls Tryd.prog 9 #[.int .i64 p, .slice so rs.length cap] w (StartTo w (firstF p rs)) := by
  have HZ := Lib.hid hz; clear hz
  have hl := firstR_len rs
  have HCS : Hid (∀ j v, (firstR rs)[j]? = some v → 0 < rs.length ∧ ∃ g off, so = some ⟨g, off, none⟩ ∧ g < w.heap.size ∧ w.cell? ⟨g, off + j, none⟩ = some v) := Lib.hid (fun j v hj => by
    have h1 : j < (firstR rs).length := (List.getElem?_eq_some_iff.1 hj).1
    rw [hl] at h1
    have h2 : j < rs.length := Nat.lt_of_lt_of_le h1 (Nat.min_le_left _ _)
    have h3 : j < 16 := Nat.lt_of_lt_of_le h1 (Nat.min_le_right _ _)
    obtain ⟨g, off, e, hg, hc⟩ := HZ.out.2 j h2
    refine ⟨by omega, g, off, e, hg, ?_⟩
    rw [hc]
    unfold firstR at hj
    rw [List.getElem?_map, List.getElem?_take, if_pos h3, List.getElem?_eq_getElem h2] at hj
    rw [List.getD_eq_getElem?_getD, List.getElem?_eq_getElem h2]
    exact hj)
  have HL := Lib.hid hl; clear hl
  obtain ⟨cs, hcs⟩ : ∃ cs, firstR rs = cs := ⟨_, rfl⟩
  have H1 : Hid (∀ v ∈ cs, v.oneCell' = true) := Lib.hid (by rw [← hcs]; exact firstR_one rs)
  have HFC : Hid (splice (zero17 p) 1 cs = (firstF p rs).cells) := Lib.hid (by rw [← hcs]; exact first_cells p rs)
  rw [hcs] at HCS HL
  clear hcs
  have HLE : Hid (cs.length ≤ 16) := Lib.hid (by rw [HL.out]; exact Nat.min_le_right _ _)
  go_enter Tryd.func9, Tryd.ntmps9
  go_wp2_with (refine wpList_copy_splice rfl (.tmp 9) (.tmp 10) 23 23 rfl 2 Tryd.underlying23 info_int64 (some ⟨w.heap.size, 1, none⟩) so 16 16 rs.length cap rfl rfl w.heap.size 1 (zero17 p) 60 (heap_new1 w _) cs HL.out ?hpos ?hfit H1.out w.heap.size w (((Kept.refl (fun _ => False) w).alloc _).below (Nat.le_refl _) (fun _ f => f.elim)) (Nat.le_refl _) ?_)
  case hpos =>
    intro hpos
    obtain ⟨v0, hv0⟩ : ∃ v, cs[0]? = some v := ⟨_, List.getElem?_eq_getElem hpos⟩
    obtain ⟨_, g, off, rfl, hg, _⟩ := HCS.out 0 v0 hv0
    refine ⟨⟨g, off, none⟩, rfl, fun j v hj => ?_⟩
    obtain ⟨_, g', off', e, _, hc⟩ := HCS.out j v hj
    simp only [Option.some.injEq, Addr.mk.injEq, and_true] at e
    obtain ⟨rfl, rfl⟩ := e
    rw [Addr.add_lit, World.cell?_alloc_past _ _ _ hg]
    exact hc
  case hfit =>
    have := HLE.out
    show 1 + cs.length ≤ 17
    omega
  intro w1 hg1 hb1
  have hg2 : w1.heap[w.heap.size]? = some (.cells (firstF p rs).cells.toArray 60 (0, 0)) := by rw [← HFC.out]; exact hg1.out
  obtain ⟨y0, y1, y2, y3, y4, y5, y6, y7, y8, y9, y10, y11, y12, y13, y14, y15, y16⟩ := Fr.all hg2
  have hk1 : Kept (fun _ => False) w w1 := ⟨hb1.os, hb1.tape, hb1.output, hb1.size, fun k hk _ => hb1.block k hk⟩
  have HK1 := Lib.hid hk1
  have HE : Hid (StartTo w (firstF p rs) (.returned (.slice (some ⟨w1.heap.size, 0, none⟩) 1 1)) (w1.alloc (.cells (firstF p rs).cells.toArray 60 (0, 0)))) := Lib.hid (by
    refine ⟨_, _, rfl, hk1.size, ?_, hk1.alloc _⟩
    have := World.ownsRow_lit (base := 0) (e := 60) (size := 17) w1 (firstF p rs).cells.toArray 1 (Nat.zero_le _) (by decide) (by simp [(firstF p rs).len])
    exact Row.made rfl (by simpa [flat] using this))
  clear hg1 hb1 hg2 hk1 HCS HL H1 HFC HLE HZ
  have hpc : (firstF p rs).pc = p := rfl
  generalize firstF p rs = f at *
  have HE2 : Hid (StartTo w f (.returned (.slice (some ⟨w1.heap.size, 0, none⟩) 1 1)) (w1.alloc (.cells #[.int .i64 p, .int .i64 (f.r 0), .int .i64 (f.r 1), .int .i64 (f.r 2), .int .i64 (f.r 3), .int .i64 (f.r 4), .int .i64 (f.r 5), .int .i64 (f.r 6), .int .i64 (f.r 7), .int .i64 (f.r 8), .int .i64 (f.r 9), .int .i64 (f.r 10), .int .i64 (f.r 11), .int .i64 (f.r 12), .int .i64 (f.r 13), .int .i64 (f.r 14), .int .i64 (f.r 15)] 60 (0, 0)))) := Lib.hid (by rw [← hpc]; exact HE.out)
  rw [hpc] at y0
  clear hpc HE
  go_wp2_with fail
  go_ret
  exact HE2.out

end Go.Proofs.YtdkableaooaebaaDoor
