/-
  Who waits: slices.IndexFunc and ContainsFunc at waiters, with the program's two closures; package model's isWaiting.
  Conditions: the waiters lie in memory.
-/
import Derived.Test.YthjblniabnjfhaaModMem
import Derived.LoopTactic
import Derived.Deep.QuietTactic
import Derived.BigQuiet
import Derived.Outline
namespace Go.Proofs.Ythjblniabnjfhaa
open Go.RowKit
set_option linter.unusedSimpArgs false

/-- Where the first of them waits. -/
def firstAt (t : Int) : List Wt → Option Nat
  | [] => none
  | q :: ws => if q.thread = t then some 0 else (firstAt t ws).map (· + 1)
def atI : Option Nat → Int
  | none => -1
  | some k => k
theorem firstAt_none {t : Int} : ∀ {ws : List Wt}, (∀ j q, j < ws.length → ws[j]? = some q → q.thread ≠ t) → firstAt t ws = none
  | [], _ => rfl
  | q :: ws, h => by
    have h0 := h 0 q (by simp) rfl
    have ih := firstAt_none (t := t) (ws := ws) (fun j q' hj hq => h (j + 1) q' (by simp; omega) (by simpa using hq))
    simp [firstAt, h0, ih]
theorem firstAt_some {t : Int} : ∀ {ws : List Wt} {k : Nat} {q : Wt}, ws[k]? = some q → q.thread = t → (∀ j q, j < k → ws[j]? = some q → q.thread ≠ t) → firstAt t ws = some k
  | [], k, q, h, _, _ => by simp at h
  | q' :: ws, 0, q, h, hq, _ => by
    simp only [List.getElem?_cons_zero, Option.some.injEq] at h
    subst h
    simp [firstAt, hq]
  | q' :: ws, k + 1, q, h, hq, hn => by
    have h0 := hn 0 q' (by omega) rfl
    have ih := firstAt_some (t := t) (ws := ws) (k := k) (q := q) (by simpa using h) hq (fun j q2 hj h2 => hn (j + 1) q2 (by omega) (by simpa using h2))
    simp [firstAt, h0, ih]
theorem waits_first (t : Int) : ∀ ws : List Wt, waitsM ws t = (firstAt t ws).isSome
  | [] => rfl
  | q :: ws => by
    have ih := waits_first t ws
    unfold waitsM at ih ⊢
    by_cases h : q.thread = t
    · simp [firstAt, h]
    · rw [List.any_cons, ih]; simp [firstAt, h]
theorem atI_ge (o : Option Nat) : decide (0 ≤ atI o) = o.isSome := by cases o with | none => rfl | some k => exact decide_eq_true (by simp [atI])

theorem clo_is (q : Wt) (t : Int) (B : Nat) (w : World) (hB : w.cell? ⟨B, 0, none⟩ = some (.int .i64 t)) :
    Calls Try.prog 53 #[q.agg, .pointer (some ⟨B, 0, none⟩)] w fun e w' => e = .returned (.bool (q.thread == t)) ∧ Kept (fun _ => False) w w' := by
  have hlt := World.block_lt_of_cell? w _ hB
  have hB' : (w.alloc (.cells #[.int .i64 q.thread, .int .i64 q.holds] 44)).cell? ⟨B, 0, none⟩ = some (.int .i64 t) :=
    (((Kept.refl (fun _ => False) w).alloc (.cells #[.int .i64 q.thread, .int .i64 q.holds] 44)).cell (p := ⟨B, 0, none⟩) hlt (fun f => f)).trans hB
  clear hB
  go_enter Try.func53, Try.ntmps53
  go_wp2_with fail
  go_ret
  exact ⟨rfl, (Kept.refl _ w).alloc _⟩

set_option maxHeartbeats 1000000 in
theorem idx_is (ws : List Wt) (n : Nat) (hn : ws.length = n) (hl : n ≤ 200) (t : Int) (B C : Nat) (s : Option Addr) (c : Nat) (w : World) (hB : w.cell? ⟨B, 0, none⟩ = some (.int .i64 t)) (hE : Elems w C s 2 Wt.cells ws) (hC : C ≤ w.heap.size) :
    Calls Try.prog 54 #[.slice s n c, .func (.func 53) #[] #[.pointer (some ⟨B, 0, none⟩)]] w fun e w' => e = .returned (.int .i64 (atI (firstAt t ws))) ∧ Kept (fun _ => False) w w' := by
  have hlt := World.block_lt_of_cell? w _ hB
  have HP : Hid (∀ w' i q, Kept (fun _ => False) w w' → ws[i]? = some q → ∃ g off, s = some ⟨g, off, none⟩ ∧ w'.cell? ⟨g, off + i * 2, none⟩ = some (.int .i64 q.thread) ∧ w'.cell? ⟨g, off + i * 2 + 1, none⟩ = some (.int .i64 q.holds)) := Lib.hid (fun w' i q hk hi => by
    obtain ⟨g, off, e, _, h⟩ := (hE.kept hk hC (fun _ _ f => f)).2 i q hi
    exact ⟨g, off, e, h 0 _ rfl, h 1 _ rfl⟩)
  have HB : Hid (∀ w', Kept (fun _ => False) w w' → w'.cell? ⟨B, 0, none⟩ = some (.int .i64 t)) := Lib.hid (fun w' hk => (hk.cell (p := ⟨B, 0, none⟩) hlt (fun f => f)).trans hB)
  have HN := Lib.hid hn
  clear hE hB
  go_enter Try.func54, Try.ntmps54
  go_wp2_with fail
  go_loopw [8] (fun i wr => ∃ k : Nat, i = .int .i64 k ∧ k ≤ n ∧ Kept (fun _ => False) w wr ∧ ∀ j q, j < k → ws[j]? = some q → q.thread ≠ t) (fun i _ => n - (intOf i).toNat)
  case atStart => exact ⟨0, rfl, by omega, Kept.refl _ _, fun j q hj => absurd hj (Nat.not_lt_zero _)⟩
  case round =>
    obtain ⟨k, rfl, hk1, hk, hne⟩ := hrel
    have HK := Lib.hid hk; clear hk
    have HNE := Lib.hid hne; clear hne
    by_cases hkk : k < n
    · obtain ⟨q, hq⟩ : ∃ q, ws[k]? = some q := ⟨_, List.getElem?_eq_getElem (by rw [HN.out]; exact hkk)⟩
      obtain ⟨g, off, rfl, y0, y1⟩ := HP.out wr k q HK.out hq
      have hb := HB.out wr HK.out
      have HQ := Lib.hid hq; clear hq
      have HC := Lib.hid (clo_is q t B wr hb)
      have k0 : (0 : Int) ≤ (k : Int) := by omega
      have k1 : (k : Int) < (n : Int) := by omega
      clear hkk hb
      cases he : (q.thread == t) with
      | true =>
        go_wp2_with fail
        refine HC.out.mono ?_
        rintro e w2 ⟨rfl, hk2⟩
        rw [he]
        have HK2 := Lib.hid hk2; clear hk2
        go_wp2_with fail
        go_ret
        exact ⟨by rw [firstAt_some HQ.out (beq_iff_eq.1 he) HNE.out]; rfl, HK.out.tr0 HK2.out⟩
      | false =>
        go_wp2_with fail
        refine HC.out.mono ?_
        rintro e w2 ⟨rfl, hk2⟩
        rw [he]
        have HK2 := Lib.hid hk2; clear hk2
        go_wp2_with fail
        go_roundw
        case rel =>
          refine ⟨k + 1, by go_num, by omega, HK.out.tr0 HK2.out, fun j q' hj hq' => ?_⟩
          by_cases e : j = k
          · subst e
            have := HQ.out.symm.trans hq'
            simp only [Option.some.injEq] at this
            subst this
            exact beq_eq_false_iff_ne.1 he
          · exact HNE.out j q' (by omega) hq'
        case measure => simp [intOf]; omega
    · have k1 : ¬ ((k : Int) < (n : Int)) := by omega
      have hkn : k = n := by omega
      go_wp2_with fail
      go_ret
      exact ⟨by rw [firstAt_none (fun j q hj => HNE.out j q (by rw [HN.out] at hj; omega))]; rfl, HK.out⟩

theorem clo_cancel (q : Wt) (t : Int) (B : Nat) (w : World) (hB : w.cell? ⟨B, 0, none⟩ = some (.int .i64 t)) :
    Calls Try.prog 51 #[q.agg, .pointer (some ⟨B, 0, none⟩)] w fun e w' => e = .returned (.bool (q.thread == t)) ∧ Kept (fun _ => False) w w' := by
  have hlt := World.block_lt_of_cell? w _ hB
  have hB' : (w.alloc (.cells #[.int .i64 q.thread, .int .i64 q.holds] 44)).cell? ⟨B, 0, none⟩ = some (.int .i64 t) :=
    (((Kept.refl (fun _ => False) w).alloc (.cells #[.int .i64 q.thread, .int .i64 q.holds] 44)).cell (p := ⟨B, 0, none⟩) hlt (fun f => f)).trans hB
  clear hB
  go_enter Try.func51, Try.ntmps51
  go_wp2_with fail
  go_ret
  exact ⟨rfl, (Kept.refl _ w).alloc _⟩

set_option maxHeartbeats 1000000 in
theorem idx_cancel (ws : List Wt) (n : Nat) (hn : ws.length = n) (hl : n ≤ 200) (t : Int) (B C : Nat) (s : Option Addr) (c : Nat) (w : World) (hB : w.cell? ⟨B, 0, none⟩ = some (.int .i64 t)) (hE : Elems w C s 2 Wt.cells ws) (hC : C ≤ w.heap.size) :
    Calls Try.prog 54 #[.slice s n c, .func (.func 51) #[] #[.pointer (some ⟨B, 0, none⟩)]] w fun e w' => e = .returned (.int .i64 (atI (firstAt t ws))) ∧ Kept (fun _ => False) w w' := by
  have hlt := World.block_lt_of_cell? w _ hB
  have HP : Hid (∀ w' i q, Kept (fun _ => False) w w' → ws[i]? = some q → ∃ g off, s = some ⟨g, off, none⟩ ∧ w'.cell? ⟨g, off + i * 2, none⟩ = some (.int .i64 q.thread) ∧ w'.cell? ⟨g, off + i * 2 + 1, none⟩ = some (.int .i64 q.holds)) := Lib.hid (fun w' i q hk hi => by
    obtain ⟨g, off, e, _, h⟩ := (hE.kept hk hC (fun _ _ f => f)).2 i q hi
    exact ⟨g, off, e, h 0 _ rfl, h 1 _ rfl⟩)
  have HB : Hid (∀ w', Kept (fun _ => False) w w' → w'.cell? ⟨B, 0, none⟩ = some (.int .i64 t)) := Lib.hid (fun w' hk => (hk.cell (p := ⟨B, 0, none⟩) hlt (fun f => f)).trans hB)
  have HN := Lib.hid hn
  clear hE hB
  go_enter Try.func54, Try.ntmps54
  go_wp2_with fail
  go_loopw [8] (fun i wr => ∃ k : Nat, i = .int .i64 k ∧ k ≤ n ∧ Kept (fun _ => False) w wr ∧ ∀ j q, j < k → ws[j]? = some q → q.thread ≠ t) (fun i _ => n - (intOf i).toNat)
  case atStart => exact ⟨0, rfl, by omega, Kept.refl _ _, fun j q hj => absurd hj (Nat.not_lt_zero _)⟩
  case round =>
    obtain ⟨k, rfl, hk1, hk, hne⟩ := hrel
    have HK := Lib.hid hk; clear hk
    have HNE := Lib.hid hne; clear hne
    by_cases hkk : k < n
    · obtain ⟨q, hq⟩ : ∃ q, ws[k]? = some q := ⟨_, List.getElem?_eq_getElem (by rw [HN.out]; exact hkk)⟩
      obtain ⟨g, off, rfl, y0, y1⟩ := HP.out wr k q HK.out hq
      have hb := HB.out wr HK.out
      have HQ := Lib.hid hq; clear hq
      have HC := Lib.hid (clo_cancel q t B wr hb)
      have k0 : (0 : Int) ≤ (k : Int) := by omega
      have k1 : (k : Int) < (n : Int) := by omega
      clear hkk hb
      cases he : (q.thread == t) with
      | true =>
        go_wp2_with fail
        refine HC.out.mono ?_
        rintro e w2 ⟨rfl, hk2⟩
        rw [he]
        have HK2 := Lib.hid hk2; clear hk2
        go_wp2_with fail
        go_ret
        exact ⟨by rw [firstAt_some HQ.out (beq_iff_eq.1 he) HNE.out]; rfl, HK.out.tr0 HK2.out⟩
      | false =>
        go_wp2_with fail
        refine HC.out.mono ?_
        rintro e w2 ⟨rfl, hk2⟩
        rw [he]
        have HK2 := Lib.hid hk2; clear hk2
        go_wp2_with fail
        go_roundw
        case rel =>
          refine ⟨k + 1, by go_num, by omega, HK.out.tr0 HK2.out, fun j q' hj hq' => ?_⟩
          by_cases e : j = k
          · subst e
            have := HQ.out.symm.trans hq'
            simp only [Option.some.injEq] at this
            subst this
            exact beq_eq_false_iff_ne.1 he
          · exact HNE.out j q' (by omega) hq'
        case measure => simp [intOf]; omega
    · have k1 : ¬ ((k : Int) < (n : Int)) := by omega
      have hkn : k = n := by omega
      go_wp2_with fail
      go_ret
      exact ⟨by rw [firstAt_none (fun j q hj => HNE.out j q (by rw [HN.out] at hj; omega))]; rfl, HK.out⟩

theorem has_ws (ws : List Wt) (n : Nat) (hn : ws.length = n) (hl : n ≤ 200) (t : Int) (B C : Nat) (s : Option Addr) (c : Nat) (w : World) (hB : w.cell? ⟨B, 0, none⟩ = some (.int .i64 t)) (hE : Elems w C s 2 Wt.cells ws) (hC : C ≤ w.heap.size) :
    Calls Try.prog 52 #[.slice s n c, .func (.func 53) #[] #[.pointer (some ⟨B, 0, none⟩)]] w fun e w' => e = .returned (.bool (waitsM ws t)) ∧ Kept (fun _ => False) w w' := by
  have HC := Lib.hid (idx_is ws n hn hl t B C s c w hB hE hC)
  have HW := Lib.hid (waits_first t ws)
  have HG := Lib.hid (atI_ge (firstAt t ws))
  clear hE hB hn
  go_enter Try.func52, Try.ntmps52
  go_wp2_with fail
  refine (HC.out).mono ?_
  rintro e w1 ⟨rfl, hk⟩
  go_wp2_with fail
  go_ret
  exact ⟨by rw [HW.out, ← HG.out]; rfl, hk⟩

theorem waiting_any (x : Th) (t : Int) (s : Option Addr) (c : Nat) (w : World) (hl : x.ws.length ≤ 200) (hE : InW w x s) (r : Bool) (hr : waitsM x.ws t = r) :
    Calls Try.prog 44 #[x.agg s c, .int .i64 t] w fun e w' => e = .returned (.bool r) ∧ Kept (fun _ => False) w w' := by
  have hk : Kept (fun _ => False) w ((w.alloc (.cells (x.box s c) 27)).alloc (.cells #[.int .i64 t] 3)) := ((Kept.refl _ w).alloc _).alloc _
  have hs : (w.alloc (.cells (x.box s c) 27)).heap.size = w.heap.size + 1 := by simp
  have HC := Lib.hid (has_ws x.ws x.ws.length rfl hl t (w.heap.size + 1) w.heap.size s c ((w.alloc (.cells (x.box s c) 27)).alloc (.cells #[.int .i64 t] 3)) (by
    rw [← hs, cell_at _ _ 0 _ _ (heap_new1 _ _)]; rfl) (Elems.kept hE hk (Nat.le_refl _) (fun _ _ f => f)) (by have := hk.size; omega))
  have HK := Lib.hid hk
  clear hk hE hs
  rw [hr] at HC
  go_enter Try.func44, Try.ntmps44
  go_wp2_with fail
  refine (HC.out).mono ?_
  rintro e w1 ⟨rfl, hk1⟩
  go_wp2_with fail
  go_ret
  exact ⟨rfl, HK.out.tr0 hk1⟩

end Go.Proofs.Ythjblniabnjfhaa
