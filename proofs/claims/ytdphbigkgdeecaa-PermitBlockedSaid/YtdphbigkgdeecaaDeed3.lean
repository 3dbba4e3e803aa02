/-
  The step of layer 3's statements: a deed is done with a table and with its model, and both answer alike.
  Conditions: the time is 0 to 2^63 - 1; the deed's numbers are of 64 bits.
-/
import Derived.Test.YtdphbigkgdeecaaBoth
import Derived.Deep.QuietTactic
import Derived.BigQuiet
import Derived.RegionTactic
import Derived.ChangeAlike
import Derived.Outline
namespace Go.Proofs.Ytdphbigkgdeecaa
open Go.RowKit
set_option linter.unusedVariables false

def deed (t i n : Int) : Value := .agg #[.int .i64 t, .int .i64 i, .int .i64 n]
structure In64 (x : Int) : Prop where
  lo : -9223372036854775808 ≤ x
  hi : x ≤ 9223372036854775807

def turnAt (ps : List Pk) (i : Int) (f : Pk → Pk) : List Pk := if 0 ≤ i then (match ps[i.toNat]? with | some p => ps.set i.toNat (f p) | none => ps) else ps
theorem turnAt_in {ps : List Pk} {i : Nat} {p : Pk} (h : ps[i]? = some p) (f : Pk → Pk) : turnAt ps i f = ps.set i (f p) := by
  simp [turnAt, h]
theorem turnAt_out {ps : List Pk} {i : Int} (h : ¬ (0 ≤ i ∧ i < (ps.length : Int))) (f : Pk → Pk) : turnAt ps i f = ps := by
  unfold turnAt
  by_cases h0 : 0 ≤ i
  · rw [if_pos h0, List.getElem?_eq_none (by omega)]
  · rw [if_neg h0]

def step (now : Int) (ps : List Pk) (t i n : Int) : Int × List Pk :=
  if pickF t 6 = 0 then (now, turnAt ps i (fun p => if p.blocked || decide (n < -1) then p else p.park now n))
  else if pickF t 6 = 1 then (now, turnAt ps i Pk.unpark)
  else if pickF t 6 = 2 then (now, turnAt ps i Pk.broken)
  else if pickF t 6 = 3 then (now, turnAt ps i Pk.clear)
  else if pickF t 6 = 4 then (now, turnAt ps i Pk.on)
  else if n < 0 then (now, ps) else (laterF now n, ps.map (Pk.tick (laterF now n)))

/-- The table and its model stand alike again, and the step says true. -/
def Done (w : World) (b g c mb mg mc : Nat) (s : Int × List Pk) (e : Ending) (w' : World) : Prop :=
  e = .returned (.bool true) ∧ Both w' b g c mb mg mc s.1 s.2 ∧ Kept (Foot b g mb mg) w w'

section
variable {w : World} {b g c mb mg mc : Nat} {now : Int} {ps : List Pk} {t n : Int}

/-- The world in which the deed lies in memory, after some draws. -/
theorem boxed (w : World) (t i n : Int) (k : Nat) : Kept (fun _ => False) w ((w.alloc (.cells #[.int .i64 t, .int .i64 i, .int .i64 n] 36)).drewN k) :=
  ((Kept.refl _ w).alloc _).drawn k

theorem box_cell {S : Nat → Prop} {w w' : World} {t i n : Int} {k : Nat} (hk : Kept S ((w.alloc (.cells #[.int .i64 t, .int .i64 i, .int .i64 n] 36)).drewN k) w') (hS : ∀ j, S j → j < w.heap.size) :
    w'.cell? ⟨w.heap.size, 1, none⟩ = some (.int .i64 i) ∧ w'.cell? ⟨w.heap.size, 2, none⟩ = some (.int .i64 n) := by
  have h := (hk.block w.heap.size (by simp) (fun s => by have := hS _ s; omega)).trans (heap_alloc_new w _)
  exact ⟨by rw [cell_at _ _ 1 _ _ h]; rfl, by rw [cell_at _ _ 2 _ _ h]; rfl⟩

set_option maxHeartbeats 1000000 in
set_option maxRecDepth 100000 in
theorem one_unpark_in {i : Nat} {p : Pk} (hB : Both w b g c mb mg mc now ps) (ht : In64 t) (hq : pickF t 6 = 1) (hp : ps[i]? = some p) :
    Calls Try.prog 9 #[.pointer (some ⟨b, 0, none⟩), .pointer (some ⟨mb, 0, none⟩), deed t i n] w (Done w b g c mb mg mc (now, ps.set i p.unpark)) := by
  have hi := at_lt hp
  have hl := hB.tab.2.2.2
  have hmb := hB.ref.lt.1
  have hmg := hB.ref.lt.2
  have r0 := hB.ref.c0
  have hB1 : ∀ k, Both ((w.alloc (.cells #[.int .i64 t, .int .i64 (i : Int), .int .i64 n] 36)).drewN k) b g c mb mg mc now ps := fun k => hB.off (boxed w t i n k)
  have HB1 := Lib.hid hB1; clear hB1
  have HB := Lib.hid hB; clear hB
  have HQ := Lib.hid hq; clear hq
  have HP := Lib.hid hp; clear hp
  have he := codes_eq
  obtain ⟨t1, t2⟩ := ht
  have i0 : (0 : Int) ≤ (i : Int) := by omega
  have i1 : (i : Int) < (ps.length : Int) := by omega
  unfold deed
  go_enter Try.func9, Try.ntmps9
  go_wp2_with fail
  go_quiet (fail)
  go_wp2_with fail
  refine (pick_any t 6 _ t1 t2 (by omega) (by omega)).mono ?_
  rintro e w' ⟨rfl, rfl⟩
  rw [HQ.out]
  go_wp2_with fail
  refine (unpark_at (HB1.out _).tab HP.out).mono ?_
  rintro e w2 ⟨rfl, ht⟩
  have hbc := box_cell ht.2 (fun j e => by rw [e]; exact HB.out.tab.lt.2)
  obtain ⟨hb1, hb2⟩ := hbc
  have HT := Lib.hid ht; clear ht
  go_wp2_with fail
  refine (ref_unpark ((HB1.out _).ref.kept HT.out.2 (fun e => HB.out.ne3 e.symm) (fun e => HB.out.ne4 e.symm)) HP.out).mono ?_
  rintro e w3 ⟨rfl, ht3⟩
  have HT3 := Lib.hid ht3; clear ht3
  go_wp2_with fail
  go_ret
  have hfin := (HB1.out _).turn HT.out (fun _ => HT3.out)
  exact ⟨rfl, hfin.1, (boxed w t i n _).mono (fun _ _ f => f.elim) |>.trans hfin.2 (fun _ _ e => e)⟩

set_option maxHeartbeats 1000000 in
set_option maxRecDepth 100000 in
theorem one_wake_in {i : Nat} {p : Pk} (hB : Both w b g c mb mg mc now ps) (ht : In64 t) (hq : pickF t 6 = 4) (hp : ps[i]? = some p) :
    Calls Try.prog 9 #[.pointer (some ⟨b, 0, none⟩), .pointer (some ⟨mb, 0, none⟩), deed t i n] w (Done w b g c mb mg mc (now, ps.set i p.on)) := by
  have hi := at_lt hp
  have hl := hB.tab.2.2.2
  have hmb := hB.ref.lt.1
  have hmg := hB.ref.lt.2
  have r0 := hB.ref.c0
  have hB1 : ∀ k, Both ((w.alloc (.cells #[.int .i64 t, .int .i64 (i : Int), .int .i64 n] 36)).drewN k) b g c mb mg mc now ps := fun k => hB.off (boxed w t i n k)
  have HB1 := Lib.hid hB1; clear hB1
  have HB := Lib.hid hB; clear hB
  have HQ := Lib.hid hq; clear hq
  have HP := Lib.hid hp; clear hp
  have he := codes_eq
  obtain ⟨t1, t2⟩ := ht
  have i0 : (0 : Int) ≤ (i : Int) := by omega
  have i1 : (i : Int) < (ps.length : Int) := by omega
  unfold deed
  go_enter Try.func9, Try.ntmps9
  go_wp2_with fail
  go_quiet (fail)
  go_wp2_with fail
  refine (pick_any t 6 _ t1 t2 (by omega) (by omega)).mono ?_
  rintro e w' ⟨rfl, rfl⟩
  rw [HQ.out]
  go_wp2_with fail
  refine (wake_at (HB1.out _).tab HP.out).mono ?_
  rintro e w2 ⟨rfl, ht⟩
  have hbc := box_cell ht.2 (fun j e => by rw [e]; exact HB.out.tab.lt.2)
  obtain ⟨hb1, hb2⟩ := hbc
  have HT := Lib.hid ht; clear ht
  go_wp2_with fail
  refine (ref_on ((HB1.out _).ref.kept HT.out.2 (fun e => HB.out.ne3 e.symm) (fun e => HB.out.ne4 e.symm)) HP.out).mono ?_
  rintro e w3 ⟨rfl, ht3⟩
  have HT3 := Lib.hid ht3; clear ht3
  go_wp2_with fail
  go_ret
  have hfin := (HB1.out _).turn HT.out (fun _ => HT3.out)
  exact ⟨rfl, hfin.1, (boxed w t i n _).mono (fun _ _ f => f.elim) |>.trans hfin.2 (fun _ _ e => e)⟩

set_option maxHeartbeats 1000000 in
set_option maxRecDepth 100000 in
theorem one_interrupt_in {i : Nat} {p : Pk} (hB : Both w b g c mb mg mc now ps) (ht : In64 t) (hq : pickF t 6 = 2) (hp : ps[i]? = some p) :
    Calls Try.prog 9 #[.pointer (some ⟨b, 0, none⟩), .pointer (some ⟨mb, 0, none⟩), deed t i n] w (Done w b g c mb mg mc (now, ps.set i p.broken)) := by
  have hi := at_lt hp
  have hl := hB.tab.2.2.2
  have hmb := hB.ref.lt.1
  have hmg := hB.ref.lt.2
  have r0 := hB.ref.c0
  have hB1 : ∀ k, Both ((w.alloc (.cells #[.int .i64 t, .int .i64 (i : Int), .int .i64 n] 36)).drewN k) b g c mb mg mc now ps := fun k => hB.off (boxed w t i n k)
  have HB1 := Lib.hid hB1; clear hB1
  have HB := Lib.hid hB; clear hB
  have HQ := Lib.hid hq; clear hq
  have HP := Lib.hid hp; clear hp
  have he := codes_eq
  obtain ⟨t1, t2⟩ := ht
  have i0 : (0 : Int) ≤ (i : Int) := by omega
  have i1 : (i : Int) < (ps.length : Int) := by omega
  unfold deed
  go_enter Try.func9, Try.ntmps9
  go_wp2_with fail
  go_quiet (fail)
  go_wp2_with fail
  refine (pick_any t 6 _ t1 t2 (by omega) (by omega)).mono ?_
  rintro e w' ⟨rfl, rfl⟩
  rw [HQ.out]
  go_wp2_with fail
  refine (interrupt_at (HB1.out _).tab HP.out).mono ?_
  rintro e w2 ⟨rfl, ht⟩
  have hbc := box_cell ht.2 (fun j e => by rw [e]; exact HB.out.tab.lt.2)
  obtain ⟨hb1, hb2⟩ := hbc
  have HT := Lib.hid ht; clear ht
  have hr := (HB1.out _).ref.kept HT.out.2 (fun e => HB.out.ne3 e.symm) (fun e => HB.out.ne4 e.symm)
  have s0 := hr.c0
  have s1 := hr.p1 HP.out
  have sf := hr.free (i * 4 + 1)
  have HR := Lib.hid hr; clear hr
  go_wp2_with fail
  go_region
  all_goals
    go_wp2_with fail
    have hrs : TurnedRef w2 mb mg mc now (ps.set i { p with flag := true }) ((w2.setCell ⟨mg, i * 4 + 1, none⟩ (.bool true)).drew) := by
      have h := (TurnedRef.refl HR.out).set 1 { p with flag := true } HP.out (by omega) rfl
      exact ⟨h.1.kept (Kept.refl (fun _ => False) _).drew (fun f => f) (fun f => f), h.2.drew⟩
    have HRS := Lib.hid hrs; clear hrs
    refine (ref_on HRS.out.1 (set_at HP.out _)).mono ?_
    rintro e w3 ⟨rfl, ht3⟩
    rw [List.set_set] at ht3
    have HT3 := Lib.hid ht3; clear ht3
    go_wp2_with fail
    go_ret
    have hfin := (HB1.out _).turn HT.out (fun _ => ⟨HT3.out.1, HRS.out.2.trans HT3.out.2 (fun _ _ e => e)⟩)
    exact ⟨rfl, hfin.1, (boxed w t i n _).mono (fun _ _ f => f.elim) |>.trans hfin.2 (fun _ _ e => e)⟩

set_option maxHeartbeats 1000000 in
set_option maxRecDepth 100000 in
theorem one_clear_in {i : Nat} {p : Pk} (hB : Both w b g c mb mg mc now ps) (ht : In64 t) (hq : pickF t 6 = 3) (hp : ps[i]? = some p) :
    Calls Try.prog 9 #[.pointer (some ⟨b, 0, none⟩), .pointer (some ⟨mb, 0, none⟩), deed t i n] w (Done w b g c mb mg mc (now, ps.set i p.clear)) := by
  have hi := at_lt hp
  have hl := hB.tab.2.2.2
  have hmb := hB.ref.lt.1
  have hmg := hB.ref.lt.2
  have r0 := hB.ref.c0
  have hB1 : ∀ k, Both ((w.alloc (.cells #[.int .i64 t, .int .i64 (i : Int), .int .i64 n] 36)).drewN k) b g c mb mg mc now ps := fun k => hB.off (boxed w t i n k)
  have HB1 := Lib.hid hB1; clear hB1
  have HB := Lib.hid hB; clear hB
  have HQ := Lib.hid hq; clear hq
  have HP := Lib.hid hp; clear hp
  have he := codes_eq
  obtain ⟨t1, t2⟩ := ht
  have i0 : (0 : Int) ≤ (i : Int) := by omega
  have i1 : (i : Int) < (ps.length : Int) := by omega
  unfold deed
  go_enter Try.func9, Try.ntmps9
  go_wp2_with fail
  go_quiet (fail)
  go_wp2_with fail
  refine (pick_any t 6 _ t1 t2 (by omega) (by omega)).mono ?_
  rintro e w' ⟨rfl, rfl⟩
  rw [HQ.out]
  go_wp2_with fail
  refine (clear_at (HB1.out _).tab HP.out).mono ?_
  rintro e w2 ⟨rfl, ht⟩
  have hbc := box_cell ht.2 (fun j e => by rw [e]; exact HB.out.tab.lt.2)
  obtain ⟨hb1, hb2⟩ := hbc
  have HT := Lib.hid ht; clear ht
  have hr := (HB1.out _).ref.kept HT.out.2 (fun e => HB.out.ne3 e.symm) (fun e => HB.out.ne4 e.symm)
  have s0 := hr.c0
  have s1 := hr.p1 HP.out
  have sf := hr.free (i * 4 + 1)
  have HR := Lib.hid hr; clear hr
  generalize hfl : p.flag = fl at *
  go_wp2_with fail
  go_quiet (fail)
  go_wp2_with fail
  go_region
  all_goals
    go_wp2_with fail
    go_ret
    have hrs : ∀ k, TurnedRef w2 mb mg mc now (ps.set i p.clear) (((w2.setCell ⟨mg, i * 4 + 1, none⟩ (.bool false)).drewN k).drew) := by
      intro k
      have h := (TurnedRef.refl HR.out).set 1 p.clear HP.out (by omega) rfl
      exact ⟨h.1.kept ((Kept.refl (fun _ => False) _).drawn k).drew (fun f => f) (fun f => f), (h.2.drawn k).drew⟩
    have hfin := (HB1.out _).turn HT.out (fun _ => hrs nq)
    exact ⟨rfl, hfin.1, (boxed w t i n _).mono (fun _ _ f => f.elim) |>.trans hfin.2 (fun _ _ e => e)⟩

set_option maxHeartbeats 1000000 in
set_option maxRecDepth 100000 in
theorem one_unpark_out {i : Int} (hB : Both w b g c mb mg mc now ps) (ht : In64 t) (hq : pickF t 6 = 1) (hi : ¬ (0 ≤ i ∧ i < (ps.length : Int))) :
    Calls Try.prog 9 #[.pointer (some ⟨b, 0, none⟩), .pointer (some ⟨mb, 0, none⟩), deed t i n] w (Done w b g c mb mg mc (now, ps)) := by
  have hl := hB.tab.2.2.2
  have hmb := hB.ref.lt.1
  have hmg := hB.ref.lt.2
  have r0 := hB.ref.c0
  have hB1 : ∀ k, Both ((w.alloc (.cells #[.int .i64 t, .int .i64 i, .int .i64 n] 36)).drewN k) b g c mb mg mc now ps := fun k => hB.off (boxed w t i n k)
  have HB1 := Lib.hid hB1; clear hB1
  have HB := Lib.hid hB; clear hB
  have HQ := Lib.hid hq; clear hq
  have HI := Lib.hid hi; clear hi
  have he := codes_eq
  obtain ⟨t1, t2⟩ := ht
  unfold deed
  by_cases i0 : 0 ≤ i
  · have i1 : decide (i < (ps.length : Int)) = false := by have := HI.out; simp; omega
    go_enter Try.func9, Try.ntmps9
    go_wp2_with fail
    go_quiet (fail)
    go_wp2_with fail
    refine (pick_any t 6 _ t1 t2 (by omega) (by omega)).mono ?_
    rintro e w' ⟨rfl, rfl⟩
    rw [HQ.out]
    go_wp2_with fail
    refine (unpark_out (HB1.out _).tab HI.out).mono ?_
    rintro e w2 ⟨rfl, rfl⟩
    go_wp2_with fail
    go_ret
    exact ⟨rfl, HB1.out _, (boxed w t i n _).mono (fun _ _ f => f.elim)⟩
  · have i1 : decide (0 ≤ i) = false := by simpa using i0
    go_enter Try.func9, Try.ntmps9
    go_wp2_with fail
    go_quiet (fail)
    go_wp2_with fail
    refine (pick_any t 6 _ t1 t2 (by omega) (by omega)).mono ?_
    rintro e w' ⟨rfl, rfl⟩
    rw [HQ.out]
    go_wp2_with fail
    refine (unpark_out (HB1.out _).tab HI.out).mono ?_
    rintro e w2 ⟨rfl, rfl⟩
    go_wp2_with fail
    go_ret
    exact ⟨rfl, HB1.out _, (boxed w t i n _).mono (fun _ _ f => f.elim)⟩

set_option maxHeartbeats 1000000 in
set_option maxRecDepth 100000 in
theorem one_interrupt_out {i : Int} (hB : Both w b g c mb mg mc now ps) (ht : In64 t) (hq : pickF t 6 = 2) (hi : ¬ (0 ≤ i ∧ i < (ps.length : Int))) :
    Calls Try.prog 9 #[.pointer (some ⟨b, 0, none⟩), .pointer (some ⟨mb, 0, none⟩), deed t i n] w (Done w b g c mb mg mc (now, ps)) := by
  have hl := hB.tab.2.2.2
  have hmb := hB.ref.lt.1
  have hmg := hB.ref.lt.2
  have r0 := hB.ref.c0
  have hB1 : ∀ k, Both ((w.alloc (.cells #[.int .i64 t, .int .i64 i, .int .i64 n] 36)).drewN k) b g c mb mg mc now ps := fun k => hB.off (boxed w t i n k)
  have HB1 := Lib.hid hB1; clear hB1
  have HB := Lib.hid hB; clear hB
  have HQ := Lib.hid hq; clear hq
  have HI := Lib.hid hi; clear hi
  have he := codes_eq
  obtain ⟨t1, t2⟩ := ht
  unfold deed
  by_cases i0 : 0 ≤ i
  · have i1 : decide (i < (ps.length : Int)) = false := by have := HI.out; simp; omega
    go_enter Try.func9, Try.ntmps9
    go_wp2_with fail
    go_quiet (fail)
    go_wp2_with fail
    refine (pick_any t 6 _ t1 t2 (by omega) (by omega)).mono ?_
    rintro e w' ⟨rfl, rfl⟩
    rw [HQ.out]
    go_wp2_with fail
    refine (interrupt_out (HB1.out _).tab HI.out).mono ?_
    rintro e w2 ⟨rfl, rfl⟩
    go_wp2_with fail
    go_ret
    exact ⟨rfl, HB1.out _, (boxed w t i n _).mono (fun _ _ f => f.elim)⟩
  · have i1 : decide (0 ≤ i) = false := by simpa using i0
    go_enter Try.func9, Try.ntmps9
    go_wp2_with fail
    go_quiet (fail)
    go_wp2_with fail
    refine (pick_any t 6 _ t1 t2 (by omega) (by omega)).mono ?_
    rintro e w' ⟨rfl, rfl⟩
    rw [HQ.out]
    go_wp2_with fail
    refine (interrupt_out (HB1.out _).tab HI.out).mono ?_
    rintro e w2 ⟨rfl, rfl⟩
    go_wp2_with fail
    go_ret
    exact ⟨rfl, HB1.out _, (boxed w t i n _).mono (fun _ _ f => f.elim)⟩

set_option maxHeartbeats 1000000 in
set_option maxRecDepth 100000 in
theorem one_clear_out {i : Int} (hB : Both w b g c mb mg mc now ps) (ht : In64 t) (hq : pickF t 6 = 3) (hi : ¬ (0 ≤ i ∧ i < (ps.length : Int))) :
    Calls Try.prog 9 #[.pointer (some ⟨b, 0, none⟩), .pointer (some ⟨mb, 0, none⟩), deed t i n] w (Done w b g c mb mg mc (now, ps)) := by
  have hl := hB.tab.2.2.2
  have hmb := hB.ref.lt.1
  have hmg := hB.ref.lt.2
  have r0 := hB.ref.c0
  have hB1 : ∀ k, Both ((w.alloc (.cells #[.int .i64 t, .int .i64 i, .int .i64 n] 36)).drewN k) b g c mb mg mc now ps := fun k => hB.off (boxed w t i n k)
  have HB1 := Lib.hid hB1; clear hB1
  have HB := Lib.hid hB; clear hB
  have HQ := Lib.hid hq; clear hq
  have HI := Lib.hid hi; clear hi
  have he := codes_eq
  obtain ⟨t1, t2⟩ := ht
  unfold deed
  by_cases i0 : 0 ≤ i
  · have i1 : decide (i < (ps.length : Int)) = false := by have := HI.out; simp; omega
    go_enter Try.func9, Try.ntmps9
    go_wp2_with fail
    go_quiet (fail)
    go_wp2_with fail
    refine (pick_any t 6 _ t1 t2 (by omega) (by omega)).mono ?_
    rintro e w' ⟨rfl, rfl⟩
    rw [HQ.out]
    go_wp2_with fail
    refine (clear_out (HB1.out _).tab HI.out).mono ?_
    rintro e w2 ⟨rfl, rfl⟩
    go_wp2_with fail
    go_ret
    exact ⟨rfl, HB1.out _, (boxed w t i n _).mono (fun _ _ f => f.elim)⟩
  · have i1 : decide (0 ≤ i) = false := by simpa using i0
    go_enter Try.func9, Try.ntmps9
    go_wp2_with fail
    go_quiet (fail)
    go_wp2_with fail
    refine (pick_any t 6 _ t1 t2 (by omega) (by omega)).mono ?_
    rintro e w' ⟨rfl, rfl⟩
    rw [HQ.out]
    go_wp2_with fail
    refine (clear_out (HB1.out _).tab HI.out).mono ?_
    rintro e w2 ⟨rfl, rfl⟩
    go_wp2_with fail
    go_ret
    exact ⟨rfl, HB1.out _, (boxed w t i n _).mono (fun _ _ f => f.elim)⟩

set_option maxHeartbeats 1000000 in
set_option maxRecDepth 100000 in
theorem one_wake_out {i : Int} (hB : Both w b g c mb mg mc now ps) (ht : In64 t) (hq : pickF t 6 = 4) (hi : ¬ (0 ≤ i ∧ i < (ps.length : Int))) :
    Calls Try.prog 9 #[.pointer (some ⟨b, 0, none⟩), .pointer (some ⟨mb, 0, none⟩), deed t i n] w (Done w b g c mb mg mc (now, ps)) := by
  have hl := hB.tab.2.2.2
  have hmb := hB.ref.lt.1
  have hmg := hB.ref.lt.2
  have r0 := hB.ref.c0
  have hB1 : ∀ k, Both ((w.alloc (.cells #[.int .i64 t, .int .i64 i, .int .i64 n] 36)).drewN k) b g c mb mg mc now ps := fun k => hB.off (boxed w t i n k)
  have HB1 := Lib.hid hB1; clear hB1
  have HB := Lib.hid hB; clear hB
  have HQ := Lib.hid hq; clear hq
  have HI := Lib.hid hi; clear hi
  have he := codes_eq
  obtain ⟨t1, t2⟩ := ht
  unfold deed
  by_cases i0 : 0 ≤ i
  · have i1 : decide (i < (ps.length : Int)) = false := by have := HI.out; simp; omega
    go_enter Try.func9, Try.ntmps9
    go_wp2_with fail
    go_quiet (fail)
    go_wp2_with fail
    refine (pick_any t 6 _ t1 t2 (by omega) (by omega)).mono ?_
    rintro e w' ⟨rfl, rfl⟩
    rw [HQ.out]
    go_wp2_with fail
    refine (wake_out (HB1.out _).tab HI.out).mono ?_
    rintro e w2 ⟨rfl, rfl⟩
    go_wp2_with fail
    go_ret
    exact ⟨rfl, HB1.out _, (boxed w t i n _).mono (fun _ _ f => f.elim)⟩
  · have i1 : decide (0 ≤ i) = false := by simpa using i0
    go_enter Try.func9, Try.ntmps9
    go_wp2_with fail
    go_quiet (fail)
    go_wp2_with fail
    refine (pick_any t 6 _ t1 t2 (by omega) (by omega)).mono ?_
    rintro e w' ⟨rfl, rfl⟩
    rw [HQ.out]
    go_wp2_with fail
    refine (wake_out (HB1.out _).tab HI.out).mono ?_
    rintro e w2 ⟨rfl, rfl⟩
    go_wp2_with fail
    go_ret
    exact ⟨rfl, HB1.out _, (boxed w t i n _).mono (fun _ _ f => f.elim)⟩

end
end Go.Proofs.Ytdphbigkgdeecaa
