/-
  The step of layer 3's statements: to park, and to let time pass; and the step whole.
  Conditions: the time is 0 to 2^63 - 1; the deed's numbers are of 64 bits.
-/
import Derived.Test.YtdphbigkgdeecaaDeed3
namespace Go.Proofs.Ytdphbigkgdeecaa
open Go.RowKit
set_option linter.unusedVariables false

section
variable {w : World} {b g c mb mg mc : Nat} {now : Int} {ps : List Pk} {t n : Int}

set_option maxHeartbeats 1000000 in
set_option maxRecDepth 100000 in
theorem parks_out {i : Int} (hB : Both w b g c mb mg mc now ps) (hi : ¬ (0 ≤ i ∧ i < (ps.length : Int))) :
    Calls Try.prog 20 #[.pointer (some ⟨b, 0, none⟩), .pointer (some ⟨mb, 0, none⟩), deed t i n] w (Done w b g c mb mg mc (now, ps)) := by
  have hl := hB.tab.2.2.2
  have hmb := hB.ref.lt.1
  have hmg := hB.ref.lt.2
  have r0 := hB.ref.c0
  have hB1 : ∀ k, Both ((w.alloc (.cells #[.int .i64 t, .int .i64 i, .int .i64 n] 36)).drewN k) b g c mb mg mc now ps := fun k => hB.off (boxed w t i n k)
  have HB1 := Lib.hid hB1; clear hB1
  have HB := Lib.hid hB; clear hB
  have HI := Lib.hid hi; clear hi
  have he := codes_eq
  unfold deed
  by_cases i0 : i < 0
  · go_enter Try.func20, Try.ntmps20
    go_wp2_with fail
    refine (park_out n (HB1.out 0).tab HI.out).mono ?_
    rintro e w2 ⟨rfl, rfl⟩
    go_wp2_with fail
    go_quiet (fail)
    go_wp2_with fail
    go_ret
    exact ⟨rfl, HB1.out _, (boxed w t i n _).mono (fun _ _ f => f.elim)⟩
  · have i1 : decide (i < 0) = false := by simpa using i0
    have i2 : (ps.length : Int) ≤ i := by have := HI.out; omega
    go_enter Try.func20, Try.ntmps20
    go_wp2_with fail
    refine (park_out n (HB1.out 0).tab HI.out).mono ?_
    rintro e w2 ⟨rfl, rfl⟩
    go_wp2_with fail
    go_quiet (fail)
    go_wp2_with fail
    go_ret
    exact ⟨rfl, HB1.out _, (boxed w t i n _).mono (fun _ _ f => f.elim)⟩

set_option maxHeartbeats 1000000 in
set_option maxRecDepth 100000 in
theorem parks_arg {i : Nat} {p : Pk} (hB : Both w b g c mb mg mc now ps) (hp : ps[i]? = some p) (ha : p.blocked = true ∨ n < -1) :
    Calls Try.prog 20 #[.pointer (some ⟨b, 0, none⟩), .pointer (some ⟨mb, 0, none⟩), deed t i n] w (Done w b g c mb mg mc (now, ps)) := by
  have hi := at_lt hp
  have hl := hB.tab.2.2.2
  have hmb := hB.ref.lt.1
  have hmg := hB.ref.lt.2
  have r0 := hB.ref.c0
  have r2 := hB.ref.p2 hp
  have hB1 : ∀ k, Both ((w.alloc (.cells #[.int .i64 t, .int .i64 (i : Int), .int .i64 n] 36)).drewN k) b g c mb mg mc now ps := fun k => hB.off (boxed w t i n k)
  have HB1 := Lib.hid hB1; clear hB1
  have HB := Lib.hid hB; clear hB
  have HP := Lib.hid hp; clear hp
  have HA := Lib.hid ha; clear ha
  have he := codes_eq
  have i1 : decide ((i : Int) < 0) = false := by simp
  have i2 : decide ((ps.length : Int) ≤ (i : Int)) = false := by simp; omega
  have i3 : (i : Int) < (ps.length : Int) := by omega
  unfold deed
  cases hb : p.blocked
  · have hn : n < -1 := by have := HA.out; rw [hb] at this; simpa using this
    rw [hb] at r2
    clear hb
    go_enter Try.func20, Try.ntmps20
    go_wp2_with fail
    refine (park_arg n (HB1.out 0).tab HP.out HA.out).mono ?_
    rintro e w2 ⟨rfl, rfl⟩
    go_wp2_with fail
    go_quiet (fail)
    go_wp2_with fail
    go_quiet (fail)
    go_wp2_with fail
    go_ret
    exact ⟨rfl, HB1.out _, (boxed w t i n _).mono (fun _ _ f => f.elim)⟩
  · rw [hb] at r2
    clear hb
    go_enter Try.func20, Try.ntmps20
    go_wp2_with fail
    refine (park_arg n (HB1.out 0).tab HP.out HA.out).mono ?_
    rintro e w2 ⟨rfl, rfl⟩
    go_wp2_with fail
    go_quiet (fail)
    go_wp2_with fail
    go_quiet (fail)
    go_wp2_with fail
    go_ret
    exact ⟨rfl, HB1.out _, (boxed w t i n _).mono (fun _ _ f => f.elim)⟩

set_option maxHeartbeats 1000000 in
set_option maxRecDepth 100000 in
theorem parks_ok {i : Nat} {p : Pk} (hB : Both w b g c mb mg mc now ps) (hp : ps[i]? = some p) (hb : p.blocked = false) (hn : -1 ≤ n) :
    Calls Try.prog 20 #[.pointer (some ⟨b, 0, none⟩), .pointer (some ⟨mb, 0, none⟩), deed t i n] w (Done w b g c mb mg mc (now, ps.set i (p.park now n))) := by
  have hi := at_lt hp
  have hl := hB.tab.2.2.2
  have hmb := hB.ref.lt.1
  have hmg := hB.ref.lt.2
  have hB1 : ∀ k, Both ((w.alloc (.cells #[.int .i64 t, .int .i64 (i : Int), .int .i64 n] 36)).drewN k) b g c mb mg mc now ps := fun k => hB.off (boxed w t i n k)
  have HB1 := Lib.hid hB1; clear hB1
  have HB := Lib.hid hB; clear hB
  have HP := Lib.hid hp; clear hp
  have he := codes_eq
  have i1 : decide ((i : Int) < 0) = false := by simp
  have i2 : decide ((ps.length : Int) ≤ (i : Int)) = false := by simp; omega
  have i3 : (i : Int) < (ps.length : Int) := by omega
  have hn1 : decide (n < -1) = false := by simp; omega
  have HBL := Lib.hid hb; clear hb
  unfold deed
  go_enter Try.func20, Try.ntmps20
  go_wp2_with fail
  refine (park_at n (HB1.out 0).tab HP.out HBL.out hn).mono ?_
  rintro e w2 ⟨rfl, ht⟩
  have hbc := box_cell (k := 0) ht.2 (fun j e => by rw [e]; exact HB.out.tab.lt.2)
  obtain ⟨hb1, hb2⟩ := hbc
  have hr := (HB1.out 0).ref.kept ht.2 (fun e => HB.out.ne3 e.symm) (fun e => HB.out.ne4 e.symm)
  have s0 := hr.c0
  have s2 := hr.p2 HP.out
  rw [HBL.out] at s2
  have HT := Lib.hid ht; clear ht
  have HR := Lib.hid hr; clear hr
  generalize hr : p.parks now n = r at *
  have HPR := Lib.hid hr; clear hr
  go_wp2_with fail
  go_quiet (fail)
  go_wp2_with fail
  go_quiet (fail)
  go_wp2_with fail
  have hr2 : ∀ k, Ref (w2.drewN k) mb mg mc now ps := fun k => HR.out.kept ((Kept.refl (fun _ => False) _).drawn k) (fun f => f) (fun f => f)
  have HR2 := Lib.hid hr2; clear hr2
  refine (ref_park n (HR2.out _) HP.out HBL.out).mono ?_
  rintro e w3 ⟨rfl, ht3⟩
  rw [HPR.out]
  have HT3 := Lib.hid ht3; clear ht3
  cases r
  all_goals
    go_wp2_with fail
    go_ret
    have hfin := (HB1.out 0).turn HT.out (fun _ => ⟨HT3.out.1, ((Kept.refl (fun k => k = mg) w2).drawn _).trans HT3.out.2 (fun _ _ e => e)⟩)
    exact ⟨rfl, hfin.1, (boxed w t i n 0).mono (fun _ _ f => f.elim) |>.trans hfin.2 (fun _ _ e => e)⟩

theorem Done.off {w w1 : World} {b g c mb mg mc : Nat} {s : Int × List Pk} {e : Ending} {w' : World} (hk : Kept (fun _ => False) w w1) (h : Done w1 b g c mb mg mc s e w') : Done w b g c mb mg mc s e w' :=
  ⟨h.1, h.2.1, (hk.mono (fun _ _ f => f.elim)).trans h.2.2 (fun _ _ e => e)⟩

/-- What the park of a deed does. -/
def parked (now : Int) (ps : List Pk) (i n : Int) : List Pk := turnAt ps i (fun p => if p.blocked || decide (n < -1) then p else p.park now n)

theorem parks_any {i : Int} (hB : Both w b g c mb mg mc now ps) :
    Calls Try.prog 20 #[.pointer (some ⟨b, 0, none⟩), .pointer (some ⟨mb, 0, none⟩), deed t i n] w (Done w b g c mb mg mc (now, parked now ps i n)) := by
  unfold parked
  by_cases hi : 0 ≤ i ∧ i < (ps.length : Int)
  · obtain ⟨k, rfl⟩ : ∃ k : Nat, i = k := ⟨i.toNat, by omega⟩
    obtain ⟨p, hp⟩ : ∃ p, ps[k]? = some p := ⟨_, List.getElem?_eq_getElem (by omega)⟩
    rw [turnAt_in hp]
    by_cases ha : p.blocked = true ∨ n < -1
    · rw [if_pos (by simpa using ha), set_self hp]
      exact parks_arg hB hp ha
    · rw [if_neg (by simpa using ha)]
      have ha' : p.blocked = false ∧ ¬ n < -1 := by simpa using ha
      exact parks_ok hB hp ha'.1 (by omega)
  · rw [turnAt_out hi]
    exact parks_out hB hi

set_option maxHeartbeats 1000000 in
set_option maxRecDepth 100000 in
theorem one_park {i : Int} (hB : Both w b g c mb mg mc now ps) (ht : In64 t) (hq : pickF t 6 = 0) :
    Calls Try.prog 9 #[.pointer (some ⟨b, 0, none⟩), .pointer (some ⟨mb, 0, none⟩), deed t i n] w (Done w b g c mb mg mc (now, parked now ps i n)) := by
  have hl := hB.tab.2.2.2
  have hmb := hB.ref.lt.1
  have hmg := hB.ref.lt.2
  have r0 := hB.ref.c0
  have hB1 : ∀ k, Both ((w.alloc (.cells #[.int .i64 t, .int .i64 i, .int .i64 n] 36)).drewN k) b g c mb mg mc now ps := fun k => hB.off (boxed w t i n k)
  have HB1 := Lib.hid hB1; clear hB1
  have HB := Lib.hid hB; clear hB
  have HQ := Lib.hid hq; clear hq
  have he := codes_eq
  obtain ⟨t1, t2⟩ := ht
  rw [deed]
  generalize hps : parked now ps i n = qs
  have HPS := Lib.hid hps; clear hps
  by_cases i0 : 0 ≤ i
  · by_cases i1 : i < (ps.length : Int)
    · go_enter Try.func9, Try.ntmps9
      go_wp2_with fail
      go_quiet (fail)
      go_wp2_with fail
      refine (pick_any t 6 _ t1 t2 (by omega) (by omega)).mono ?_
      rintro e w' ⟨rfl, rfl⟩
      rw [HQ.out]
      go_wp2_with fail
      refine (parks_any (t := t) (i := i) (n := n) (HB1.out _)).mono ?_
      rintro e w2 hd
      rw [HPS.out] at hd
      have HD := Lib.hid (hd.off (boxed w t i n _))
      obtain ⟨rfl, _, _⟩ := hd
      go_wp2_with fail
      go_ret
      exact HD.out
    · have i2 : decide (i < (ps.length : Int)) = false := by simpa using i1
      go_enter Try.func9, Try.ntmps9
      go_wp2_with fail
      go_quiet (fail)
      go_wp2_with fail
      refine (pick_any t 6 _ t1 t2 (by omega) (by omega)).mono ?_
      rintro e w' ⟨rfl, rfl⟩
      rw [HQ.out]
      go_wp2_with fail
      refine (parks_any (t := t) (i := i) (n := n) (HB1.out _)).mono ?_
      rintro e w2 hd
      rw [HPS.out] at hd
      have HD := Lib.hid (hd.off (boxed w t i n _))
      obtain ⟨rfl, _, _⟩ := hd
      go_wp2_with fail
      go_ret
      exact HD.out
  · have i2 : decide (0 ≤ i) = false := by simpa using i0
    go_enter Try.func9, Try.ntmps9
    go_wp2_with fail
    go_quiet (fail)
    go_wp2_with fail
    refine (pick_any t 6 _ t1 t2 (by omega) (by omega)).mono ?_
    rintro e w' ⟨rfl, rfl⟩
    rw [HQ.out]
    go_wp2_with fail
    refine (parks_any (t := t) (i := i) (n := n) (HB1.out _)).mono ?_
    rintro e w2 hd
    rw [HPS.out] at hd
    have HD := Lib.hid (hd.off (boxed w t i n _))
    obtain ⟨rfl, _, _⟩ := hd
    go_wp2_with fail
    go_ret
    exact HD.out

theorem Both.tick {w1 w2 : World} {ps' : List Pk} {r : Int} (h : Both w b g c mb mg mc now ps) (ht : Ticked w b g c r ps' w1) (hr : Ref w1 mb mg mc now ps → TickedRef w1 mb mg mc r ps' w2) : Both w2 b g c mb mg mc r ps' ∧ Kept (Foot b g mb mg) w w2 := by
  have h1 := h.ref.kept ht.2 (fun e => e.elim (fun e => h.ne1 e.symm) (fun e => h.ne3 e.symm)) (fun e => e.elim (fun e => h.ne2 e.symm) (fun e => h.ne4 e.symm))
  have h2 := hr h1
  refine ⟨⟨ht.1.kept h2.2 (fun e => e.elim h.ne1 h.ne2) (fun e => e.elim h.ne3 h.ne4), h2.1, h.ne1, h.ne2, h.ne3, h.ne4⟩, (ht.2.mono (fun _ _ e => e.elim .inl (fun e => .inr (.inl e)))).trans h2.2 (fun _ _ e => .inr (.inr e))⟩

def tickedDeed (now : Int) (ps : List Pk) (n : Int) : Int × List Pk := if n < 0 then (now, ps) else (laterF now n, ps.map (Pk.tick (laterF now n)))

set_option maxHeartbeats 2000000 in
set_option maxRecDepth 100000 in
theorem one_tick {i : Int} (hB : Both w b g c mb mg mc now ps) (hw0 : 0 ≤ now) (hw1 : now ≤ 9223372036854775807) (ht : In64 t) (hn2 : n ≤ 9223372036854775807) (hq0 : pickF t 6 ≠ 0) (hq1 : pickF t 6 ≠ 1) (hq2 : pickF t 6 ≠ 2) (hq3 : pickF t 6 ≠ 3) (hq4 : pickF t 6 ≠ 4) :
    Calls Try.prog 9 #[.pointer (some ⟨b, 0, none⟩), .pointer (some ⟨mb, 0, none⟩), deed t i n] w (Done w b g c mb mg mc (tickedDeed now ps n)) := by
  have hl := hB.tab.2.2.2
  have hmb := hB.ref.lt.1
  have hmg := hB.ref.lt.2
  have r0 := hB.ref.c0
  have hB1 : ∀ k, Both ((w.alloc (.cells #[.int .i64 t, .int .i64 i, .int .i64 n] 36)).drewN k) b g c mb mg mc now ps := fun k => hB.off (boxed w t i n k)
  have HB1 := Lib.hid hB1; clear hB1
  have HB := Lib.hid hB; clear hB
  have he := codes_eq
  obtain ⟨t1, t2⟩ := ht
  have hpos := pickF_in t 6 (by omega)
  obtain hq : pickF t 6 = 5 := by omega
  clear hq0 hq1 hq2 hq3 hq4 hpos
  have HQ := Lib.hid hq; clear hq
  rw [deed]
  by_cases i0 : 0 ≤ i
  · by_cases i1 : i < (ps.length : Int)
    · go_enter Try.func9, Try.ntmps9
      go_wp2_with fail
      go_quiet (fail)
      go_wp2_with fail
      refine (pick_any t 6 _ t1 t2 (by omega) (by omega)).mono ?_
      rintro e w' ⟨rfl, rfl⟩
      rw [HQ.out]
      go_wp2_with fail
      by_cases hn : n < 0
      · refine (tick_arg n (HB1.out _).tab hn).mono ?_
        rintro e w2 ⟨rfl, rfl⟩
        go_wp2_with fail
        go_ret
        have hq : tickedDeed now ps n = (now, ps) := if_pos hn
        rw [hq]
        exact ⟨rfl, HB1.out _, (boxed w t i n _).mono (fun _ _ f => f.elim)⟩
      · refine (tick_at n (HB1.out _).tab hw0 hw1 (by omega) hn2 _ rfl).mono ?_
        rintro e w2 ⟨rfl, ht⟩
        have hbc := box_cell ht.2 (fun j e => e.elim (fun e => by rw [e]; exact HB.out.tab.lt.1) (fun e => by rw [e]; exact HB.out.tab.lt.2))
        obtain ⟨hb1, hb2⟩ := hbc
        have HT := Lib.hid ht; clear ht
        have hrr := (HB1.out _).ref.kept HT.out.2 (fun e => e.elim (fun e => HB.out.ne1 e.symm) (fun e => HB.out.ne3 e.symm)) (fun e => e.elim (fun e => HB.out.ne2 e.symm) (fun e => HB.out.ne4 e.symm))
        have HRR := Lib.hid hrr; clear hrr
        go_wp2_with fail
        refine (ref_tick n HRR.out hw0 hw1 (by omega) hn2 _ rfl).mono ?_
        rintro e w3 ⟨rfl, ht3⟩
        have HT3 := Lib.hid ht3; clear ht3
        go_wp2_with fail
        go_ret
        have hq : tickedDeed now ps n = (laterF now n, ps.map (Pk.tick (laterF now n))) := if_neg (by omega)
        rw [hq]
        have hfin := (HB1.out _).tick HT.out (fun _ => HT3.out)
        exact ⟨rfl, hfin.1, (boxed w t i n _).mono (fun _ _ f => f.elim) |>.trans hfin.2 (fun _ _ e => e)⟩
    · have i2 : decide (i < (ps.length : Int)) = false := by simpa using i1
      go_enter Try.func9, Try.ntmps9
      go_wp2_with fail
      go_quiet (fail)
      go_wp2_with fail
      refine (pick_any t 6 _ t1 t2 (by omega) (by omega)).mono ?_
      rintro e w' ⟨rfl, rfl⟩
      rw [HQ.out]
      go_wp2_with fail
      by_cases hn : n < 0
      · refine (tick_arg n (HB1.out _).tab hn).mono ?_
        rintro e w2 ⟨rfl, rfl⟩
        go_wp2_with fail
        go_ret
        have hq : tickedDeed now ps n = (now, ps) := if_pos hn
        rw [hq]
        exact ⟨rfl, HB1.out _, (boxed w t i n _).mono (fun _ _ f => f.elim)⟩
      · refine (tick_at n (HB1.out _).tab hw0 hw1 (by omega) hn2 _ rfl).mono ?_
        rintro e w2 ⟨rfl, ht⟩
        have hbc := box_cell ht.2 (fun j e => e.elim (fun e => by rw [e]; exact HB.out.tab.lt.1) (fun e => by rw [e]; exact HB.out.tab.lt.2))
        obtain ⟨hb1, hb2⟩ := hbc
        have HT := Lib.hid ht; clear ht
        have hrr := (HB1.out _).ref.kept HT.out.2 (fun e => e.elim (fun e => HB.out.ne1 e.symm) (fun e => HB.out.ne3 e.symm)) (fun e => e.elim (fun e => HB.out.ne2 e.symm) (fun e => HB.out.ne4 e.symm))
        have HRR := Lib.hid hrr; clear hrr
        go_wp2_with fail
        refine (ref_tick n HRR.out hw0 hw1 (by omega) hn2 _ rfl).mono ?_
        rintro e w3 ⟨rfl, ht3⟩
        have HT3 := Lib.hid ht3; clear ht3
        go_wp2_with fail
        go_ret
        have hq : tickedDeed now ps n = (laterF now n, ps.map (Pk.tick (laterF now n))) := if_neg (by omega)
        rw [hq]
        have hfin := (HB1.out _).tick HT.out (fun _ => HT3.out)
        exact ⟨rfl, hfin.1, (boxed w t i n _).mono (fun _ _ f => f.elim) |>.trans hfin.2 (fun _ _ e => e)⟩
  · have i2 : decide (0 ≤ i) = false := by simpa using i0
    go_enter Try.func9, Try.ntmps9
    go_wp2_with fail
    go_quiet (fail)
    go_wp2_with fail
    refine (pick_any t 6 _ t1 t2 (by omega) (by omega)).mono ?_
    rintro e w' ⟨rfl, rfl⟩
    rw [HQ.out]
    go_wp2_with fail
    by_cases hn : n < 0
    · refine (tick_arg n (HB1.out _).tab hn).mono ?_
      rintro e w2 ⟨rfl, rfl⟩
      go_wp2_with fail
      go_ret
      have hq : tickedDeed now ps n = (now, ps) := if_pos hn
      rw [hq]
      exact ⟨rfl, HB1.out _, (boxed w t i n _).mono (fun _ _ f => f.elim)⟩
    · refine (tick_at n (HB1.out _).tab hw0 hw1 (by omega) hn2 _ rfl).mono ?_
      rintro e w2 ⟨rfl, ht⟩
      have hbc := box_cell ht.2 (fun j e => e.elim (fun e => by rw [e]; exact HB.out.tab.lt.1) (fun e => by rw [e]; exact HB.out.tab.lt.2))
      obtain ⟨hb1, hb2⟩ := hbc
      have HT := Lib.hid ht; clear ht
      have hrr := (HB1.out _).ref.kept HT.out.2 (fun e => e.elim (fun e => HB.out.ne1 e.symm) (fun e => HB.out.ne3 e.symm)) (fun e => e.elim (fun e => HB.out.ne2 e.symm) (fun e => HB.out.ne4 e.symm))
      have HRR := Lib.hid hrr; clear hrr
      go_wp2_with fail
      refine (ref_tick n HRR.out hw0 hw1 (by omega) hn2 _ rfl).mono ?_
      rintro e w3 ⟨rfl, ht3⟩
      have HT3 := Lib.hid ht3; clear ht3
      go_wp2_with fail
      go_ret
      have hq : tickedDeed now ps n = (laterF now n, ps.map (Pk.tick (laterF now n))) := if_neg (by omega)
      rw [hq]
      have hfin := (HB1.out _).tick HT.out (fun _ => HT3.out)
      exact ⟨rfl, hfin.1, (boxed w t i n _).mono (fun _ _ f => f.elim) |>.trans hfin.2 (fun _ _ e => e)⟩

theorem one_any {i : Int} (hB : Both w b g c mb mg mc now ps) (hw0 : 0 ≤ now) (hw1 : now ≤ 9223372036854775807) (ht : In64 t) (hn2 : n ≤ 9223372036854775807) :
    Calls Try.prog 9 #[.pointer (some ⟨b, 0, none⟩), .pointer (some ⟨mb, 0, none⟩), deed t i n] w (Done w b g c mb mg mc (step now ps t i n)) := by
  unfold step
  by_cases h0 : pickF t 6 = 0
  · rw [if_pos h0]; exact one_park hB ht h0
  rw [if_neg h0]
  by_cases hi : 0 ≤ i ∧ i < (ps.length : Int)
  · obtain ⟨k, rfl⟩ : ∃ k : Nat, i = k := ⟨i.toNat, by omega⟩
    obtain ⟨p, hp⟩ : ∃ p, ps[k]? = some p := ⟨_, List.getElem?_eq_getElem (by omega)⟩
    simp only [turnAt_in hp]
    by_cases h1 : pickF t 6 = 1
    · rw [if_pos h1]; exact one_unpark_in hB ht h1 hp
    rw [if_neg h1]
    by_cases h2 : pickF t 6 = 2
    · rw [if_pos h2]; exact one_interrupt_in hB ht h2 hp
    rw [if_neg h2]
    by_cases h3 : pickF t 6 = 3
    · rw [if_pos h3]; exact one_clear_in hB ht h3 hp
    rw [if_neg h3]
    by_cases h4 : pickF t 6 = 4
    · rw [if_pos h4]; exact one_wake_in hB ht h4 hp
    rw [if_neg h4]
    exact one_tick hB hw0 hw1 ht hn2 h0 h1 h2 h3 h4
  · simp only [turnAt_out hi]
    by_cases h1 : pickF t 6 = 1
    · rw [if_pos h1]; exact one_unpark_out hB ht h1 hi
    rw [if_neg h1]
    by_cases h2 : pickF t 6 = 2
    · rw [if_pos h2]; exact one_interrupt_out hB ht h2 hi
    rw [if_neg h2]
    by_cases h3 : pickF t 6 = 3
    · rw [if_pos h3]; exact one_clear_out hB ht h3 hi
    rw [if_neg h3]
    by_cases h4 : pickF t 6 = 4
    · rw [if_pos h4]; exact one_wake_out hB ht h4 hi
    rw [if_neg h4]
    exact one_tick hB hw0 hw1 ht hn2 h0 h1 h2 h3 h4

theorem turnAt_len (ps : List Pk) (i : Int) (f : Pk → Pk) : (turnAt ps i f).length = ps.length := by
  unfold turnAt
  split
  · split <;> simp
  · rfl

theorem step_len (now : Int) (ps : List Pk) (t i n : Int) : (step now ps t i n).2.length = ps.length := by
  unfold step
  repeat' split
  all_goals simp [turnAt_len]

theorem step_now (now : Int) (ps : List Pk) (t i n : Int) (h0 : 0 ≤ now) (h1 : now ≤ 9223372036854775807) : 0 ≤ (step now ps t i n).1 ∧ (step now ps t i n).1 ≤ 9223372036854775807 := by
  unfold step
  repeat' split
  all_goals first | exact ⟨h0, h1⟩ | (have := laterF_in now n h0 h1 (by omega); exact ⟨by simp only []; omega, this.2⟩)

end
end Go.Proofs.Ytdphbigkgdeecaa
