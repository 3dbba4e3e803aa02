/-
  What the small calls of package prog come to: of a number, an object, a call, a pick.
  Conditions: none.
  What package prog's calls of whole lists and of a script come to.
  Conditions: the slices read as these lists, in blocks that were there.
-/
import Derived.Test.YtbodlaiakcoabaaGreatDoorScr
import Derived.LoopTactic
section
namespace Go.Proofs.YtbodlaiakcoabaaGreatDoor
open Go.RowKit

/-- What the document says of numbers, kinds, objects, calls and picks. -/
def cntF (n : Int) : Bool := decide (0 ≤ n) && decide (n ≤ 1000)
def waitsF (k : Int) : Bool := decide (k = 1 ∨ k = 4 ∨ k = 8 ∨ k = 10 ∨ k = 13 ∨ k = 16 ∨ k = 19)
def ofF (k : Int) : Int :=
  if k = 1 ∨ k = 2 ∨ k = 3 ∨ k = 16 ∨ k = 17 ∨ k = 18 then 1 else if k = 4 ∨ k = 5 ∨ k = 6 ∨ k = 7 then 2 else if k = 8 ∨ k = 9 then 3
  else if k = 10 ∨ k = 11 ∨ k = 12 ∨ k = 13 ∨ k = 14 ∨ k = 15 then 4 else if k = 19 then 5 else 0
def obF (x : Ob) : Bool :=
  if x.kind = 1 ∨ x.kind = 4 then x.n == 0 else if x.kind = 2 then cntF x.n else if x.kind = 3 then cntF x.n && !x.fair else if x.kind = 5 then x.n == 0 && !x.fair else false
def numF (x : Cl) : Bool := if x.kind = 4 ∨ x.kind = 5 ∨ x.kind = 6 then cntF x.n && x.n != 0 else if x.kind = 19 then cntF x.n else x.n == 0
def stayF (x : Cl) : Bool := if waitsF x.kind then decide (-1 ≤ x.wait) && decide (x.wait ≤ 1099511627776) else x.wait == 0 && !x.breaks
def clF (m : Nat) (x : Cl) : Bool := ofF x.kind != 0 && decide (0 ≤ x.obj) && decide (x.obj < m) && numF x && stayF x
def piF (x : Pi) : Bool := if x.kind = 1 ∨ x.kind = 3 ∨ x.kind = 4 then decide (0 ≤ x.n) && decide (x.n ≤ 8) else if x.kind = 2 then decide (0 ≤ x.n) && decide (x.n ≤ 1099511627776) else false

theorem kinds (k : Int) : k = 1 ∨ k = 2 ∨ k = 3 ∨ k = 4 ∨ k = 5 ∨ k = 6 ∨ k = 7 ∨ k = 8 ∨ k = 9 ∨ k = 10 ∨ k = 11 ∨ k = 12 ∨ k = 13 ∨ k = 14 ∨ k = 15 ∨ k = 16 ∨ k = 17 ∨ k = 18 ∨ k = 19 ∨
    (k ≠ 1 ∧ k ≠ 2 ∧ k ≠ 3 ∧ k ≠ 4 ∧ k ≠ 5 ∧ k ≠ 6 ∧ k ≠ 7 ∧ k ≠ 8 ∧ k ≠ 9 ∧ k ≠ 10 ∧ k ≠ 11 ∧ k ≠ 12 ∧ k ≠ 13 ∧ k ≠ 14 ∧ k ≠ 15 ∧ k ≠ 16 ∧ k ≠ 17 ∧ k ≠ 18 ∧ k ≠ 19) := by omega

theorem count_any (n : Int) (w : World) (r : Bool) (hr : cntF n = r) : Calls Tryz.prog 50 #[.int .i64 n] w fun e w' => e = .returned (.bool r) ∧ w = w' := by
  subst hr
  by_cases h : 0 ≤ n
  · have e : cntF n = decide (n ≤ 1000) := by unfold cntF; rw [decide_eq_true h, Bool.true_and]
    rw [e]
    clear e
    go_enter Tryz.func50, Tryz.ntmps50
    go_wp2_with fail
    go_ret
    exact ⟨rfl, rfl⟩
  · have e : cntF n = false := by unfold cntF; rw [decide_eq_false h, Bool.false_and]
    rw [e]
    clear e
    go_enter Tryz.func50, Tryz.ntmps50
    go_wp2_with fail
    go_ret
    exact ⟨rfl, rfl⟩

set_option maxHeartbeats 1000000 in
theorem waits_any (k : Int) (w : World) (r : Bool) (hr : waitsF k = r) : Calls Tryz.prog 68 #[.int .i64 k] w fun e w' => e = .returned (.bool r) ∧ w = w' := by
  subst hr
  rcases kinds k with rfl | rfl | rfl | rfl | rfl | rfl | rfl | rfl | rfl | rfl | rfl | rfl | rfl | rfl | rfl | rfl | rfl | rfl | rfl | h
  rotate_left 19
  · have e : waitsF k = false := by unfold waitsF; exact decide_eq_false (by omega)
    rw [e]
    clear e
    obtain ⟨h1, h2, h3, h4, h5, h6, h7, h8, h9, h10, h11, h12, h13, h14, h15, h16, h17, h18, h19⟩ := h
    go_enter Tryz.func68, Tryz.ntmps68
    go_wp2_with fail
    go_ret
    exact ⟨rfl, rfl⟩
  all_goals
    go_enter Tryz.func68, Tryz.ntmps68
    go_wp2_with fail
    go_ret
    exact ⟨rfl, rfl⟩

set_option maxHeartbeats 2000000 in
theorem of_any (k : Int) (w : World) (r : Int) (hr : ofF k = r) : Calls Tryz.prog 51 #[.int .i64 k] w fun e w' => e = .returned (.int .i64 r) ∧ w = w' := by
  subst hr
  rcases kinds k with rfl | rfl | rfl | rfl | rfl | rfl | rfl | rfl | rfl | rfl | rfl | rfl | rfl | rfl | rfl | rfl | rfl | rfl | rfl | h
  rotate_left 19
  · have e : ofF k = 0 := by unfold ofF; rw [if_neg (by omega), if_neg (by omega), if_neg (by omega), if_neg (by omega), if_neg (by omega)]
    rw [e]
    clear e
    obtain ⟨h1, h2, h3, h4, h5, h6, h7, h8, h9, h10, h11, h12, h13, h14, h15, h16, h17, h18, h19⟩ := h
    go_enter Tryz.func51, Tryz.ntmps51
    go_wp2_with fail
    go_ret
    exact ⟨rfl, rfl⟩
  all_goals
    go_enter Tryz.func51, Tryz.ntmps51
    go_wp2_with fail
    go_ret
    exact ⟨rfl, rfl⟩

theorem object_any (x : Ob) (w : World) (r : Bool) (hr : obF x = r) : Calls Tryz.prog 41 #[x.agg] w fun e w' => e = .returned (.bool r) ∧ Kept (fun _ => False) w w' := by
  subst hr
  obtain ⟨kind, fair, n⟩ := x
  unfold Ob.agg
  have hc : kind = 1 ∨ kind = 4 ∨ kind = 2 ∨ kind = 3 ∨ kind = 5 ∨ (kind ≠ 1 ∧ kind ≠ 4 ∧ kind ≠ 2 ∧ kind ≠ 3 ∧ kind ≠ 5) := by omega
  rcases hc with rfl | rfl | rfl | rfl | rfl | ⟨h1, h2, h3, h4, h5⟩
  · go_enter Tryz.func41, Tryz.ntmps41
    go_wp2_with fail
    go_ret
    exact ⟨rfl, (Kept.refl _ w).alloc _⟩
  · go_enter Tryz.func41, Tryz.ntmps41
    go_wp2_with fail
    go_ret
    exact ⟨rfl, (Kept.refl _ w).alloc _⟩
  · go_enter Tryz.func41, Tryz.ntmps41
    go_wp2_with fail
    refine (count_any n _ _ rfl).mono ?_
    rintro e wx ⟨rfl, rfl⟩
    go_wp2_with fail
    go_ret
    exact ⟨rfl, (Kept.refl _ w).alloc _⟩
  · cases hn : cntF n
    · have e : obF ⟨3, fair, n⟩ = false := by show (cntF n && !fair) = false; rw [hn, Bool.false_and]
      rw [e]
      clear e
      go_enter Tryz.func41, Tryz.ntmps41
      go_wp2_with fail
      refine (count_any n _ _ hn).mono ?_
      rintro e wx ⟨rfl, rfl⟩
      go_wp2_with fail
      go_ret
      exact ⟨rfl, (Kept.refl _ w).alloc _⟩
    · have e : obF ⟨3, fair, n⟩ = !fair := by show (cntF n && !fair) = !fair; rw [hn, Bool.true_and]
      rw [e]
      clear e
      go_enter Tryz.func41, Tryz.ntmps41
      go_wp2_with fail
      refine (count_any n _ _ hn).mono ?_
      rintro e wx ⟨rfl, rfl⟩
      go_wp2_with fail
      go_ret
      exact ⟨rfl, (Kept.refl _ w).alloc _⟩
  · by_cases hn : n = 0
    · subst hn
      go_enter Tryz.func41, Tryz.ntmps41
      go_wp2_with fail
      go_ret
      exact ⟨rfl, (Kept.refl _ w).alloc _⟩
    · have e : obF ⟨5, fair, n⟩ = false := by show (n == 0 && !fair) = false; rw [beq_eq_false_iff_ne.2 hn, Bool.false_and]
      rw [e]
      clear e
      go_enter Tryz.func41, Tryz.ntmps41
      go_wp2_with fail
      go_ret
      exact ⟨rfl, (Kept.refl _ w).alloc _⟩
  · have e : obF ⟨kind, fair, n⟩ = false := by simp only [obF]; rw [if_neg (by omega), if_neg h3, if_neg h4, if_neg h5]
    rw [e]
    clear e
    go_enter Tryz.func41, Tryz.ntmps41
    go_wp2_with fail
    go_ret
    exact ⟨rfl, (Kept.refl _ w).alloc _⟩

theorem num_any (x : Cl) (w : World) (r : Bool) (hr : numF x = r) : Calls Tryz.prog 52 #[x.agg] w fun e w' => e = .returned (.bool r) ∧ Kept (fun _ => False) w w' := by
  subst hr
  obtain ⟨kind, obj, n, wait, breaks⟩ := x
  unfold Cl.agg
  have hc : (kind = 4 ∨ kind = 5 ∨ kind = 6) ∨ kind = 19 ∨ (kind ≠ 4 ∧ kind ≠ 5 ∧ kind ≠ 6 ∧ kind ≠ 19) := by omega
  rcases hc with h | rfl | ⟨h1, h2, h3, h4⟩
  · cases hn : cntF n
    · have e : numF ⟨kind, obj, n, wait, breaks⟩ = false := by simp only [numF]; rw [if_pos h, hn, Bool.false_and]
      rw [e]
      clear e
      rcases h with rfl | rfl | rfl
      all_goals
        go_enter Tryz.func52, Tryz.ntmps52
        go_wp2_with fail
        refine (count_any n _ _ hn).mono ?_
        rintro e wx ⟨rfl, rfl⟩
        go_wp2_with fail
        go_ret
        exact ⟨rfl, (Kept.refl _ w).alloc _⟩
    · have e : numF ⟨kind, obj, n, wait, breaks⟩ = (n != 0) := by simp only [numF]; rw [if_pos h, hn, Bool.true_and]
      rw [e]
      clear e
      rcases h with rfl | rfl | rfl
      all_goals
        go_enter Tryz.func52, Tryz.ntmps52
        go_wp2_with fail
        refine (count_any n _ _ hn).mono ?_
        rintro e wx ⟨rfl, rfl⟩
        go_wp2_with fail
        go_ret
        exact ⟨rfl, (Kept.refl _ w).alloc _⟩
  · go_enter Tryz.func52, Tryz.ntmps52
    go_wp2_with fail
    refine (count_any n _ _ rfl).mono ?_
    rintro e wx ⟨rfl, rfl⟩
    go_wp2_with fail
    go_ret
    exact ⟨rfl, (Kept.refl _ w).alloc _⟩
  · have e : numF ⟨kind, obj, n, wait, breaks⟩ = (n == 0) := by simp only [numF]; rw [if_neg (by omega), if_neg h4]
    rw [e]
    clear e
    go_enter Tryz.func52, Tryz.ntmps52
    go_wp2_with fail
    go_ret
    exact ⟨rfl, (Kept.refl _ w).alloc _⟩

theorem stay_any (x : Cl) (w : World) (r : Bool) (hr : stayF x = r) : Calls Tryz.prog 53 #[x.agg] w fun e w' => e = .returned (.bool r) ∧ Kept (fun _ => False) w w' := by
  subst hr
  obtain ⟨kind, obj, n, wait, breaks⟩ := x
  unfold Cl.agg
  cases hw : waitsF kind
  · have e : stayF ⟨kind, obj, n, wait, breaks⟩ = (wait == 0 && !breaks) := by simp only [stayF, hw]; rfl
    rw [e]
    clear e
    by_cases h : wait = 0
    · subst h
      go_enter Tryz.func53, Tryz.ntmps53
      go_wp2_with fail
      refine (waits_any kind _ _ hw).mono ?_
      rintro e wx ⟨rfl, rfl⟩
      go_wp2_with fail
      go_ret
      exact ⟨rfl, (Kept.refl _ w).alloc _⟩
    · rw [beq_eq_false_iff_ne.2 h, Bool.false_and]
      go_enter Tryz.func53, Tryz.ntmps53
      go_wp2_with fail
      refine (waits_any kind _ _ hw).mono ?_
      rintro e wx ⟨rfl, rfl⟩
      go_wp2_with fail
      go_ret
      exact ⟨rfl, (Kept.refl _ w).alloc _⟩
  · have e : stayF ⟨kind, obj, n, wait, breaks⟩ = (decide (-1 ≤ wait) && decide (wait ≤ 1099511627776)) := by simp only [stayF, hw]; rfl
    rw [e]
    clear e
    by_cases h : -1 ≤ wait
    · rw [decide_eq_true h, Bool.true_and]
      go_enter Tryz.func53, Tryz.ntmps53
      go_wp2_with fail
      refine (waits_any kind _ _ hw).mono ?_
      rintro e wx ⟨rfl, rfl⟩
      go_wp2_with fail
      go_ret
      exact ⟨rfl, (Kept.refl _ w).alloc _⟩
    · rw [decide_eq_false h, Bool.false_and]
      go_enter Tryz.func53, Tryz.ntmps53
      go_wp2_with fail
      refine (waits_any kind _ _ hw).mono ?_
      rintro e wx ⟨rfl, rfl⟩
      go_wp2_with fail
      go_ret
      exact ⟨rfl, (Kept.refl _ w).alloc _⟩

theorem pick_may (x : Pi) (w : World) (r : Bool) (hr : piF x = r) : Calls Tryz.prog 43 #[x.agg] w fun e w' => e = .returned (.bool r) ∧ Kept (fun _ => False) w w' := by
  subst hr
  obtain ⟨kind, n⟩ := x
  unfold Pi.agg
  have hc : (kind = 1 ∨ kind = 3 ∨ kind = 4) ∨ kind = 2 ∨ (kind ≠ 1 ∧ kind ≠ 2 ∧ kind ≠ 3 ∧ kind ≠ 4) := by omega
  rcases hc with h | rfl | ⟨h1, h2, h3, h4⟩
  · by_cases hn : 0 ≤ n
    · have e : piF ⟨kind, n⟩ = decide (n ≤ 8) := by simp only [piF]; rw [if_pos h, decide_eq_true hn, Bool.true_and]
      rw [e]
      clear e
      rcases h with rfl | rfl | rfl
      all_goals
        go_enter Tryz.func43, Tryz.ntmps43
        go_wp2_with fail
        go_ret
        exact ⟨rfl, (Kept.refl _ w).alloc _⟩
    · have e : piF ⟨kind, n⟩ = false := by simp only [piF]; rw [if_pos h, decide_eq_false hn, Bool.false_and]
      rw [e]
      clear e
      rcases h with rfl | rfl | rfl
      all_goals
        go_enter Tryz.func43, Tryz.ntmps43
        go_wp2_with fail
        go_ret
        exact ⟨rfl, (Kept.refl _ w).alloc _⟩
  · by_cases hn : 0 ≤ n
    · have e : piF ⟨2, n⟩ = decide (n ≤ 1099511627776) := by show (decide (0 ≤ n) && decide (n ≤ 1099511627776)) = _; rw [decide_eq_true hn, Bool.true_and]
      rw [e]
      clear e
      go_enter Tryz.func43, Tryz.ntmps43
      go_wp2_with fail
      go_ret
      exact ⟨rfl, (Kept.refl _ w).alloc _⟩
    · have e : piF ⟨2, n⟩ = false := by show (decide (0 ≤ n) && decide (n ≤ 1099511627776)) = _; rw [decide_eq_false hn, Bool.false_and]
      rw [e]
      clear e
      go_enter Tryz.func43, Tryz.ntmps43
      go_wp2_with fail
      go_ret
      exact ⟨rfl, (Kept.refl _ w).alloc _⟩
  · have e : piF ⟨kind, n⟩ = false := by simp only [piF]; rw [if_neg (by omega), if_neg h2]
    rw [e]
    clear e
    go_enter Tryz.func43, Tryz.ntmps43
    go_wp2_with fail
    go_ret
    exact ⟨rfl, (Kept.refl _ w).alloc _⟩

set_option maxHeartbeats 400000 in
theorem op_may (x : Cl) (m : Nat) (w : World) (r : Bool) (hr : clF m x = r) : Calls Tryz.prog 42 #[x.agg, .int .i64 m] w fun e w' => e = .returned (.bool r) ∧ Kept (fun _ => False) w w' := by
  subst hr
  cases ho : (ofF x.kind != 0)
  · have e : clF m x = false := by simp only [clF]; rw [ho]; rfl
    rw [e]
    clear e
    have ho : ofF x.kind = 0 := by simpa using ho
    go_enter Tryz.func42, Tryz.ntmps42
    go_wp2_with fail
    refine (of_any x.kind _ _ ho).mono ?_
    rintro e wx ⟨rfl, rfl⟩
    go_wp2_with fail
    go_ret
    exact ⟨rfl, (Kept.refl _ w).alloc _⟩
  obtain ⟨o, hof⟩ : ∃ o, ofF x.kind = o := ⟨_, rfl⟩
  have hne : o ≠ 0 := by simpa [hof] using ho
  by_cases h1 : 0 ≤ x.obj
  case neg =>
    have e : clF m x = false := by simp only [clF]; rw [ho, decide_eq_false h1]; rfl
    rw [e]
    clear e ho
    go_enter Tryz.func42, Tryz.ntmps42
    go_wp2_with fail
    refine (of_any x.kind _ _ hof).mono ?_
    rintro e wx ⟨rfl, rfl⟩
    go_wp2_with fail
    go_ret
    exact ⟨rfl, (Kept.refl _ w).alloc _⟩
  by_cases h2 : x.obj < m
  case neg =>
    have e : clF m x = false := by simp only [clF]; rw [ho, decide_eq_true h1, decide_eq_false h2]; rfl
    rw [e]
    clear e ho
    go_enter Tryz.func42, Tryz.ntmps42
    go_wp2_with fail
    refine (of_any x.kind _ _ hof).mono ?_
    rintro e wx ⟨rfl, rfl⟩
    go_wp2_with fail
    go_ret
    exact ⟨rfl, (Kept.refl _ w).alloc _⟩
  have e : clF m x = (numF x && stayF x) := by simp only [clF]; rw [ho, decide_eq_true h1, decide_eq_true h2]; rfl
  rw [e]
  clear e ho
  cases hn : numF x
  · go_enter Tryz.func42, Tryz.ntmps42
    go_wp2_with fail
    refine (of_any x.kind _ _ hof).mono ?_
    rintro e wx ⟨rfl, rfl⟩
    go_wp2_with fail
    refine (num_any x _ _ hn).mono ?_
    rintro e wx ⟨rfl, hk⟩
    go_wp2_with fail
    go_ret
    exact ⟨rfl, ((Kept.refl _ w).alloc _).trans hk (fun _ _ f => f)⟩
  · have hb : (w.alloc (.cells #[.int .i64 x.kind, .int .i64 x.obj, .int .i64 x.n, .int .i64 x.wait, .bool x.breaks] 72)).heap[w.heap.size]? = some (.cells #[.int .i64 x.kind, .int .i64 x.obj, .int .i64 x.n, .int .i64 x.wait, .bool x.breaks] 72 (0, 0)) := heap_alloc_new w _
    have HB := Lib.hid hb
    clear hb
    go_enter Tryz.func42, Tryz.ntmps42
    go_wp2_with fail
    refine (of_any x.kind _ _ hof).mono ?_
    rintro e wx ⟨rfl, rfl⟩
    go_wp2_with fail
    refine (num_any x _ _ hn).mono ?_
    rintro e w1 ⟨rfl, hk⟩
    have hb1 := (hk.block w.heap.size (by simp) (fun f => f)).trans HB.out
    have p0 : w1.cell? ⟨w.heap.size, 0, none⟩ = some (.int .i64 x.kind) := by rw [cell_at w1 _ 0 _ _ hb1]; rfl
    have p1 : w1.cell? ⟨w.heap.size, 1, none⟩ = some (.int .i64 x.obj) := by rw [cell_at w1 _ 1 _ _ hb1]; rfl
    have p2 : w1.cell? ⟨w.heap.size, 2, none⟩ = some (.int .i64 x.n) := by rw [cell_at w1 _ 2 _ _ hb1]; rfl
    have p3 : w1.cell? ⟨w.heap.size, 3, none⟩ = some (.int .i64 x.wait) := by rw [cell_at w1 _ 3 _ _ hb1]; rfl
    have p4 : w1.cell? ⟨w.heap.size, 4, none⟩ = some (.bool x.breaks) := by rw [cell_at w1 _ 4 _ _ hb1]; rfl
    have HK := Lib.hid hk
    clear hb1 hk
    go_wp2_with fail
    refine (stay_any x _ _ rfl).mono ?_
    rintro e w2 ⟨rfl, hk2⟩
    have hne2 : (o != 0) = true := by simpa using hne
    go_wp2_with fail
    go_ret
    exact ⟨rfl, (((Kept.refl _ w).alloc _).trans HK.out (fun _ _ f => f)).trans hk2 (fun _ _ f => f)⟩

end Go.Proofs.YtbodlaiakcoabaaGreatDoor
end
section
namespace Go.Proofs.YtbodlaiakcoabaaGreatDoor
open Go.RowKit

theorem all_next {α : Type} (f : α → Bool) {xs : List α} {k : Nat} {x : α} (hx : xs[k]? = some x) : (xs.take (k + 1)).all f = ((xs.take k).all f && f x) := by
  obtain ⟨hk, e⟩ := List.getElem?_eq_some_iff.1 hx
  rw [List.take_succ_eq_append_getElem hk, List.all_append, e]; simp
theorem all_false {α : Type} {f : α → Bool} {xs : List α} {k : Nat} {x : α} (hx : xs[k]? = some x) (hf : f x = false) : xs.all f = false :=
  List.all_eq_false.2 ⟨x, List.mem_of_getElem? hx, by simp [hf]⟩
theorem all_done {α : Type} {f : α → Bool} {xs : List α} {k : Nat} (hk : ¬ k < xs.length) (h : (xs.take k).all f = true) : xs.all f = true := by
  rwa [List.take_of_length_le (by omega)] at h

def progF (m : Nat) (p : Pr) : Bool := p.ops.all (clF m)
def smallF (p : Pr) : Bool := decide (p.ops.length ≤ 16)
/-- There is more of something than there may be. -/
def largeF (x : Sc) : Bool := !(decide (x.obs.length ≤ 6) && decide (x.prs.length ≤ 8) && decide (x.pis.length ≤ 4000) && x.prs.all smallF)
/-- There is some of all that there must be, and all is as it may be. -/
def goodF (x : Sc) : Bool := x.obs.length != 0 && x.prs.length != 0 && x.obs.all obF && x.prs.all (progF x.obs.length) && x.pis.all piF

theorem objects_may {w : World} {B : Nat} {s : Option Addr} {xs : List Ob} (cap : Nat) (h : Elems w B s 3 Ob.cells xs) (hB : B ≤ w.heap.size) (r : Bool) (hr : xs.all obF = r) :
    Calls Tryz.prog 31 #[.slice s xs.length cap] w fun e w' => e = .returned (.bool r) ∧ Kept (fun _ => False) w w' := by
  have hmax := h.1
  unfold maxLen at hmax
  have HX := Lib.hid h; clear h
  have HR := Lib.hid hr; clear hr
  go_enter Tryz.func31, Tryz.ntmps31
  go_wp2_with fail
  go_loopw [7] (fun i wr => ∃ k : Nat, i = .int .i64 k ∧ k ≤ xs.length ∧ (xs.take k).all obF = true ∧ Kept (fun _ => False) w wr) (fun i _ => xs.length - (intOf i).toNat)
  case atStart => exact ⟨0, rfl, by omega, rfl, Kept.refl _ _⟩
  case round =>
    obtain ⟨k, rfl, hk1, hall, hk⟩ := hrel
    have HALL := Lib.hid hall; clear hall
    by_cases hkk : k < xs.length
    · obtain ⟨x, hx⟩ : ∃ x, xs[k]? = some x := ⟨_, List.getElem?_eq_getElem hkk⟩
      obtain ⟨g, off, rfl, hg, c0, c1, c2⟩ := ob_at (HX.out.kept hk hB (fun _ _ f => f)) hx
      have HK := Lib.hid hk; clear hk
      have HXX := Lib.hid hx; clear hx
      cases hf : obF x
      · obtain rfl : r = false := by rw [← HR.out]; exact all_false HXX.out hf
        go_wp2_with fail
        refine (object_any x _ _ hf).mono ?_
        rintro e w2 ⟨rfl, hk2⟩
        go_wp2_with fail
        go_ret
        exact ⟨rfl, (HK.out.alloc _).trans hk2 (fun _ _ f => f)⟩
      · go_wp2_with fail
        refine (object_any x _ _ hf).mono ?_
        rintro e w2 ⟨rfl, hk2⟩
        go_wp2_with fail
        go_roundw
        case rel => exact ⟨k + 1, by go_num, by omega, by rw [all_next obF HXX.out, HALL.out, hf]; rfl, (HK.out.alloc _).trans hk2 (fun _ _ f => f)⟩
        case measure => simp [intOf]; omega
    · obtain rfl : r = true := by rw [← HR.out]; exact all_done hkk HALL.out
      go_wp2_with fail
      go_ret
      exact ⟨rfl, hk⟩

theorem picks_may {w : World} {B : Nat} {s : Option Addr} {xs : List Pi} (cap : Nat) (h : Elems w B s 2 Pi.cells xs) (hB : B ≤ w.heap.size) (r : Bool) (hr : xs.all piF = r) :
    Calls Tryz.prog 33 #[.slice s xs.length cap] w fun e w' => e = .returned (.bool r) ∧ Kept (fun _ => False) w w' := by
  have hmax := h.1
  unfold maxLen at hmax
  have HX := Lib.hid h; clear h
  have HR := Lib.hid hr; clear hr
  go_enter Tryz.func33, Tryz.ntmps33
  go_wp2_with fail
  go_loopw [7] (fun i wr => ∃ k : Nat, i = .int .i64 k ∧ k ≤ xs.length ∧ (xs.take k).all piF = true ∧ Kept (fun _ => False) w wr) (fun i _ => xs.length - (intOf i).toNat)
  case atStart => exact ⟨0, rfl, by omega, rfl, Kept.refl _ _⟩
  case round =>
    obtain ⟨k, rfl, hk1, hall, hk⟩ := hrel
    have HALL := Lib.hid hall; clear hall
    by_cases hkk : k < xs.length
    · obtain ⟨x, hx⟩ : ∃ x, xs[k]? = some x := ⟨_, List.getElem?_eq_getElem hkk⟩
      obtain ⟨g, off, rfl, hg, c0, c1⟩ := pi_at (HX.out.kept hk hB (fun _ _ f => f)) hx
      have HK := Lib.hid hk; clear hk
      have HXX := Lib.hid hx; clear hx
      cases hf : piF x
      · obtain rfl : r = false := by rw [← HR.out]; exact all_false HXX.out hf
        go_wp2_with fail
        refine (pick_may x _ _ hf).mono ?_
        rintro e w2 ⟨rfl, hk2⟩
        go_wp2_with fail
        go_ret
        exact ⟨rfl, (HK.out.alloc _).trans hk2 (fun _ _ f => f)⟩
      · go_wp2_with fail
        refine (pick_may x _ _ hf).mono ?_
        rintro e w2 ⟨rfl, hk2⟩
        go_wp2_with fail
        go_roundw
        case rel => exact ⟨k + 1, by go_num, by omega, by rw [all_next piF HXX.out, HALL.out, hf]; rfl, (HK.out.alloc _).trans hk2 (fun _ _ f => f)⟩
        case measure => simp [intOf]; omega
    · obtain rfl : r = true := by rw [← HR.out]; exact all_done hkk HALL.out
      go_wp2_with fail
      go_ret
      exact ⟨rfl, hk⟩

set_option maxHeartbeats 400000 in
theorem programs_may {w : World} {B : Nat} {s : Option Addr} {xs : List Pr} (cap m : Nat) (h : Prs w B s xs) (hB : B ≤ w.heap.size) (r : Bool) (hr : xs.all (progF m) = r) :
    Calls Tryz.prog 32 #[.slice s xs.length cap, .int .i64 m] w fun e w' => e = .returned (.bool r) ∧ Kept (fun _ => False) w w' := by
  have hmax := h.row.1
  unfold maxLen at hmax
  have HX := Lib.hid h; clear h
  have HR := Lib.hid hr; clear hr
  go_enter Tryz.func32, Tryz.ntmps32
  go_wp2_with fail
  go_loopw [11] (fun i wr => ∃ k : Nat, i = .int .i64 k ∧ k ≤ xs.length ∧ (xs.take k).all (progF m) = true ∧ Kept (fun _ => False) w wr) (fun i _ => xs.length - (intOf i).toNat)
  case atStart => exact ⟨0, rfl, by omega, rfl, Kept.refl _ _⟩
  case round =>
    obtain ⟨k, rfl, hk1, hall, hk⟩ := hrel
    have HALL := Lib.hid hall; clear hall
    by_cases hkk : k < xs.length
    · obtain ⟨p, hp⟩ : ∃ p, xs[k]? = some p := ⟨_, List.getElem?_eq_getElem hkk⟩
      obtain ⟨g, off, rfl, hg, c0⟩ := pr_at (HX.out.row.kept hk hB (fun _ _ f => f)) hp
      have HOPS := Lib.hid (HX.out.ops p (List.mem_of_getElem? hp))
      have hpm := HOPS.out.1
      unfold maxLen at hpm
      have HK := Lib.hid hk; clear hk
      have HP := Lib.hid hp; clear hp
      go_wp2_with fail
      go_loopw [17] (fun i wr => ∃ j : Nat, i = .int .i64 j ∧ j ≤ p.ops.length ∧ (p.ops.take j).all (clF m) = true ∧ Kept (fun _ => False) w wr) (fun i _ => p.ops.length - (intOf i).toNat)
      case atStart => exact ⟨0, rfl, by omega, rfl, HK.out⟩
      case round =>
        clear c0 HK
        obtain ⟨j, rfl, hj1, hallj, hk⟩ := hrel
        have HALJ := Lib.hid hallj; clear hallj
        by_cases hjj : j < p.ops.length
        · obtain ⟨x, hx⟩ : ∃ x, p.ops[j]? = some x := ⟨_, List.getElem?_eq_getElem hjj⟩
          obtain ⟨g2, off2, hps, hg2, d0, d1, d2, d3, d4⟩ := cl_at (HOPS.out.kept hk hB (fun _ _ f => f)) hx
          obtain ⟨ps, pcap, pops⟩ := p
          obtain rfl : ps = some ⟨g2, off2, none⟩ := hps
          have HK := Lib.hid hk; clear hk
          have HXX := Lib.hid hx; clear hx
          cases hf : clF m x
          · obtain rfl : r = false := by rw [← HR.out]; exact all_false HP.out (all_false HXX.out hf)
            go_wp2_with fail
            refine (op_may x m _ _ hf).mono ?_
            rintro e w2 ⟨rfl, hk2⟩
            go_wp2_with fail
            go_ret
            exact ⟨rfl, (HK.out.alloc _).trans hk2 (fun _ _ f => f)⟩
          · go_wp2_with fail
            refine (op_may x m _ _ hf).mono ?_
            rintro e w2 ⟨rfl, hk2⟩
            go_wp2_with fail
            go_roundw
            case rel => exact ⟨j + 1, by go_num, by omega, by rw [all_next (clF m) HXX.out, HALJ.out, hf]; rfl, (HK.out.alloc _).trans hk2 (fun _ _ f => f)⟩
            case measure => simp [intOf]; omega
        · have HK := Lib.hid hk; clear hk
          have hpf := Lib.hid (show progF m p = true from all_done hjj HALJ.out)
          go_wp2_with fail
          go_roundw
          case rel =>
            have hrel2 : ∃ k' : Nat, Value.int .i64 ((k : Int) + 1) = .int .i64 k' ∧ k' ≤ xs.length ∧ (xs.take k').all (progF m) = true ∧ Kept (fun _ => False) w wr := ⟨k + 1, by go_num, by omega, by rw [all_next (progF m) HP.out, HALL.out, hpf.out]; rfl, HK.out⟩
            first | exact hrel2 | ((repeat apply Exists.intro); exact ⟨hrel2, rfl⟩)
          case measure => simp [intOf]; omega
    · obtain rfl : r = true := by rw [← HR.out]; exact all_done hkk HALL.out
      go_wp2_with fail
      go_ret
      exact ⟨rfl, hk⟩

end Go.Proofs.YtbodlaiakcoabaaGreatDoor
end
