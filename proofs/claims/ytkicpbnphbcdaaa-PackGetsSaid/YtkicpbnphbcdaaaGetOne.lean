/-
  What package pack's readers of a flag, of a count, of an object, a call and a pick come to.
  Conditions: the bytes lie in blocks that were there before the reader.
-/
import Derived.Test.YtkicpbnphbcdaaaRead
namespace Go.Proofs.Ytkicpbnphbcdaaa
open Go.RowKit

theorem Rd.block {w : World} {r B : Nat} {st : Option (List Nat)} (h : Rd w r B st) : ∃ a b, w.heap[r]? = some (.cells #[a, b] 68 (0, 0)) := by
  match st, h with
  | none, h => exact ⟨_, _, h⟩
  | some bs, ⟨⟨A, c, h, _⟩, _⟩ => exact ⟨_, _, h⟩
theorem Rd.set {w : World} {r B b i : Nat} {v : Value} {st : Option (List Nat)} (h : Rd w r B st) (hB : B ≤ r) (hb : r < b) : Rd (w.setCell ⟨b, i, none⟩ v) r B st :=
  h.kept ((Kept.refl (fun k => k = b) w).setCell ⟨b, i, none⟩ v (fun _ => rfl)) hB (fun k hk e => by omega)
theorem Rd.alloc {w : World} {r B : Nat} {st : Option (List Nat)} (h : Rd w r B st) (hB : B ≤ r) (o : Obj) : Rd (w.alloc o) r B st := h.kept ((Kept.refl (fun _ => False) w).alloc o) hB (fun _ _ f => f)

/-- What is read, and what is left. -/
def GetTo {α : Type} (f : Option (List Nat) → α × Option (List Nat)) (val : α → Value) (w : World) (r B : Nat) (st : Option (List Nat)) (e : Ending) (w' : World) : Prop :=
  e = .returned (val (f st).1) ∧ Rd w' r B (f st).2 ∧ Kept (fun k => k = r) w w'

theorem number_tok {w : World} {r B : Nat} {st : Option (List Nat)} (h : Rd w r B st) (hB : B ≤ r) : Calls Try.prog 50 #[.pointer (some ⟨r, 0, none⟩)] w (GetTo byteTok.tok (Value.int .i64) w r B st) := number_any h hB

theorem flag_any {w : World} {r B : Nat} {st : Option (List Nat)} (h : Rd w r B st) (hB : B ≤ r) : Calls Try.prog 51 #[.pointer (some ⟨r, 0, none⟩)] w (GetTo (flgP byteTok) Value.bool w r B st) := by
  have HN := Lib.hid (number_any h hB)
  clear h
  go_enter Try.func51, Try.ntmps51
  go_wp2_with fail
  refine (HN.out).mono ?_
  rintro e w1 ⟨rfl, h1, hk1⟩
  have hfin : ∀ w2, Rd w2 r B (if (numP st).1 < 0 ∨ 1 < (numP st).1 then none else (numP st).2) → Kept (fun k => k = r) w w2 → GetTo (flgP byteTok) Value.bool w r B st (.returned (.bool ((numP st).1 == 1))) w2 := fun w2 a b => ⟨rfl, a, b⟩
  have HFIN := Lib.hid hfin
  obtain ⟨a, b, hab⟩ := h1.block
  have HS := Lib.hid (spoil_any hab)
  have H1 := Lib.hid h1
  have HK := Lib.hid hk1
  clear hfin h1 hab hk1
  generalize (numP st).1 = n at *
  generalize (numP st).2 = st1 at *
  by_cases hneg : n < 0
  · have hn1 : (n == 1) = false := by rw [beq_eq_false_iff_ne]; omega
    go_wp2_with fail
    refine (HS.out).mono ?_
    rintro e w2 ⟨rfl, h2, hk2⟩
    have HF := Lib.hid (HFIN.out w2 (by rw [if_pos (.inl hneg)]; exact h2) (HK.out.trans hk2 (fun _ _ e => e)))
    rw [hn1] at HF
    clear h2 hk2
    go_wp2_with fail
    go_ret
    exact HF.out
  · by_cases hbig : 1 < n
    · have hn1 : (n == 1) = false := by rw [beq_eq_false_iff_ne]; omega
      go_wp2_with fail
      refine (HS.out).mono ?_
      rintro e w2 ⟨rfl, h2, hk2⟩
      have HF := Lib.hid (HFIN.out w2 (by rw [if_pos (.inr hbig)]; exact h2) (HK.out.trans hk2 (fun _ _ e => e)))
      rw [hn1] at HF
      clear h2 hk2
      go_wp2_with fail
      go_ret
      exact HF.out
    · have HF := Lib.hid (HFIN.out w1 (by rw [if_neg (by omega)]; exact H1.out) HK.out)
      go_wp2_with fail
      go_ret
      exact HF.out

theorem count_any' {w : World} {r B : Nat} {st : Option (List Nat)} (h : Rd w r B st) (hB : B ≤ r) : Calls Try.prog 49 #[.pointer (some ⟨r, 0, none⟩)] w (GetTo (cntP byteTok) (fun n : Nat => Value.int .i64 n) w r B st) := by
  have HN := Lib.hid (number_any h hB)
  clear h
  go_enter Try.func49, Try.ntmps49
  go_wp2_with fail
  refine (HN.out).mono ?_
  rintro e w1 ⟨rfl, h1, hk1⟩
  have hfin : ∀ w2 m, (m : Int) = ((if (numP st).1 < 0 ∨ 65536 < (numP st).1 then (0, none) else ((numP st).1.toNat, (numP st).2) : Nat × Option (List Nat)).1 : Int) → Rd w2 r B (if (numP st).1 < 0 ∨ 65536 < (numP st).1 then (0, none) else ((numP st).1.toNat, (numP st).2) : Nat × Option (List Nat)).2 → Kept (fun k => k = r) w w2 → GetTo (cntP byteTok) (fun n : Nat => Value.int .i64 n) w r B st (.returned (.int .i64 m)) w2 := fun w2 m hm a b => ⟨by rw [hm]; rfl, a, b⟩
  have HFIN := Lib.hid hfin
  obtain ⟨a, b, hab⟩ := h1.block
  have HS := Lib.hid (spoil_any hab)
  have H1 := Lib.hid h1
  have HK := Lib.hid hk1
  clear hfin h1 hab hk1
  generalize (numP st).1 = n at *
  generalize (numP st).2 = st1 at *
  by_cases hneg : n < 0
  · go_wp2_with fail
    refine (HS.out).mono ?_
    rintro e w2 ⟨rfl, h2, hk2⟩
    have HF := Lib.hid (HFIN.out w2 0 (by rw [if_pos (.inl hneg)]; rfl) (by rw [if_pos (.inl hneg)]; exact h2) (HK.out.trans hk2 (fun _ _ e => e)))
    clear h2 hk2
    go_wp2_with fail
    go_ret
    exact HF.out
  · by_cases hbig : 65536 < n
    · go_wp2_with fail
      refine (HS.out).mono ?_
      rintro e w2 ⟨rfl, h2, hk2⟩
      have HF := Lib.hid (HFIN.out w2 0 (by rw [if_pos (.inr hbig)]; rfl) (by rw [if_pos (.inr hbig)]; exact h2) (HK.out.trans hk2 (fun _ _ e => e)))
      clear h2 hk2
      go_wp2_with fail
      go_ret
      exact HF.out
    · have HF := Lib.hid (HFIN.out w1 n (by rw [if_neg (by omega)]; dsimp only; omega) (by rw [if_neg (by omega)]; exact H1.out) HK.out)
      go_wp2_with fail
      go_ret
      exact HF.out

set_option maxHeartbeats 1000000 in
theorem getObject_any {w : World} {r B : Nat} {st : Option (List Nat)} (h : Rd w r B st) (hB : B ≤ r) : Calls Try.prog 31 #[.pointer (some ⟨r, 0, none⟩)] w (GetTo (obP byteTok) Ob.agg w r B st) := by
  have hlt := h.lt
  obtain ⟨W0, hW0⟩ : ∃ W0, (w.alloc (.cells #[.int .i64 0, .bool false, .int .i64 0] 48)).alloc (.cells #[.int .i64 0, .bool false, .int .i64 0] 48) = W0 := ⟨_, rfl⟩
  have hs0 : W0.heap.size = w.heap.size + 1 + 1 := by rw [← hW0]; simp
  have hb0 : W0.heap[w.heap.size + 1]? = some (.cells #[.int .i64 0, .bool false, .int .i64 0] 48 (0, 0)) := by
    rw [← hW0]
    have := heap_alloc_new (w.alloc (.cells #[.int .i64 0, .bool false, .int .i64 0] 48)) (.cells #[.int .i64 0, .bool false, .int .i64 0] 48)
    rwa [World.size_alloc] at this
  have hr0 : W0.heap[w.heap.size]? = some (.cells #[.int .i64 0, .bool false, .int .i64 0] 48 (0, 0)) := by
    rw [← hW0]
    exact ((Kept.refl (fun _ => False) (w.alloc (.cells #[.int .i64 0, .bool false, .int .i64 0] 48))).alloc _).block _ (by simp) (fun f => f) |>.trans (heap_alloc_new w _)
  have hk0 : Kept (fun k => k = r) w W0 := by rw [← hW0]; exact ((Kept.refl _ w).alloc _).alloc _
  have HR0 : Hid (Rd W0 r B st) := Lib.hid (by rw [← hW0]; exact (h.alloc hB _).alloc hB _)
  have HS0 : Hid (w.heap.size + 1 < W0.heap.size ∧ r < w.heap.size) := Lib.hid ⟨by omega, hlt⟩
  have HB0 := Lib.hid hb0
  have HQ0 := Lib.hid hr0
  have HK0 := Lib.hid hk0
  clear h hlt hs0 hb0 hr0 hk0
  go_enter Try.func31, Try.ntmps31
  go_wp2_with fail
  clear hW0
  refine (number_tok HR0.out hB).mono ?_
  rintro e w1 ⟨rfl, hr, hk⟩
  have hb := (hk.block (w.heap.size + 1) HS0.out.1 (by have := HS0.out.2; omega)).trans HB0.out
  have hq := (hk.block w.heap.size (by have := HS0.out.1; omega) (by have := HS0.out.2; omega)).trans HQ0.out
  have f0 : w1.frozen? ⟨w.heap.size + 1, 0, none⟩ = false := frozen_at w1 _ 0 _ _ hb
  have e0 : w1.cell? ⟨w.heap.size + 1, 0, none⟩ = some (.int .i64 0) := by rw [cell_at w1 _ 0 _ _ hb]; rfl
  have HB1 : Hid ((w1.setCell ⟨w.heap.size + 1, 0, none⟩ (.int .i64 (byteTok.tok (st)).1)).heap[w.heap.size + 1]? = some (.cells #[.int .i64 (byteTok.tok (st)).1, .bool false, .int .i64 0] 48 (0, 0))) := Lib.hid (blk_set hb 0 _)
  have HQ1 : Hid ((w1.setCell ⟨w.heap.size + 1, 0, none⟩ (.int .i64 (byteTok.tok (st)).1)).heap[w.heap.size]? = some (.cells #[.int .i64 0, .bool false, .int .i64 0] 48 (0, 0))) := Lib.hid ((Below.heap_setCell _ _ _ _ (by show w.heap.size ≠ w.heap.size + 1; omega)).trans hq)
  have HR1 : Hid (Rd (w1.setCell ⟨w.heap.size + 1, 0, none⟩ (.int .i64 (byteTok.tok (st)).1)) r B (byteTok.tok (st)).2) := Lib.hid (hr.set hB (by have := HS0.out.2; omega))
  have HK1 : Hid (Kept (fun k => k = r) w (w1.setCell ⟨w.heap.size + 1, 0, none⟩ (.int .i64 (byteTok.tok (st)).1))) := Lib.hid ((HK0.out.trans hk (fun _ _ e => e)).setCell _ _ (fun hlt => by have h : w.heap.size + 1 < w.heap.size := hlt; omega))
  have HS1 : Hid (w.heap.size + 1 < (w1.setCell ⟨w.heap.size + 1, 0, none⟩ (.int .i64 (byteTok.tok (st)).1)).heap.size ∧ r < w.heap.size) := Lib.hid ⟨by have h1 := hk.size; have h2 := HS0.out.1; show _ < (Array.modify _ _ _).size; rw [Array.size_modify]; omega, HS0.out.2⟩
  clear hb hq hr hk
  go_wp2_with fail
  clear f0 e0
  refine (flag_any HR1.out hB).mono ?_
  rintro e w2 ⟨rfl, hr, hk⟩
  have hb := (hk.block (w.heap.size + 1) HS1.out.1 (by have := HS0.out.2; omega)).trans HB1.out
  have hq := (hk.block w.heap.size (by have := HS1.out.1; omega) (by have := HS0.out.2; omega)).trans HQ1.out
  have f1 : w2.frozen? ⟨w.heap.size + 1, 1, none⟩ = false := frozen_at w2 _ 1 _ _ hb
  have e1 : w2.cell? ⟨w.heap.size + 1, 1, none⟩ = some (.bool false) := by rw [cell_at w2 _ 1 _ _ hb]; rfl
  have HB2 : Hid ((w2.setCell ⟨w.heap.size + 1, 1, none⟩ (.bool (flgP byteTok ((byteTok.tok (st)).2)).1)).heap[w.heap.size + 1]? = some (.cells #[.int .i64 (byteTok.tok (st)).1, .bool (flgP byteTok ((byteTok.tok (st)).2)).1, .int .i64 0] 48 (0, 0))) := Lib.hid (blk_set hb 1 _)
  have HQ2 : Hid ((w2.setCell ⟨w.heap.size + 1, 1, none⟩ (.bool (flgP byteTok ((byteTok.tok (st)).2)).1)).heap[w.heap.size]? = some (.cells #[.int .i64 0, .bool false, .int .i64 0] 48 (0, 0))) := Lib.hid ((Below.heap_setCell _ _ _ _ (by show w.heap.size ≠ w.heap.size + 1; omega)).trans hq)
  have HR2 : Hid (Rd (w2.setCell ⟨w.heap.size + 1, 1, none⟩ (.bool (flgP byteTok ((byteTok.tok (st)).2)).1)) r B (flgP byteTok ((byteTok.tok (st)).2)).2) := Lib.hid (hr.set hB (by have := HS0.out.2; omega))
  have HK2 : Hid (Kept (fun k => k = r) w (w2.setCell ⟨w.heap.size + 1, 1, none⟩ (.bool (flgP byteTok ((byteTok.tok (st)).2)).1))) := Lib.hid ((HK1.out.trans hk (fun _ _ e => e)).setCell _ _ (fun hlt => by have h : w.heap.size + 1 < w.heap.size := hlt; omega))
  have HS2 : Hid (w.heap.size + 1 < (w2.setCell ⟨w.heap.size + 1, 1, none⟩ (.bool (flgP byteTok ((byteTok.tok (st)).2)).1)).heap.size ∧ r < w.heap.size) := Lib.hid ⟨by have h1 := hk.size; have h2 := HS1.out.1; show _ < (Array.modify _ _ _).size; rw [Array.size_modify]; omega, HS0.out.2⟩
  clear hb hq hr hk
  go_wp2_with fail
  clear f1 e1
  refine (number_tok HR2.out hB).mono ?_
  rintro e w3 ⟨rfl, hr, hk⟩
  have hb := (hk.block (w.heap.size + 1) HS2.out.1 (by have := HS0.out.2; omega)).trans HB2.out
  have hq := (hk.block w.heap.size (by have := HS2.out.1; omega) (by have := HS0.out.2; omega)).trans HQ2.out
  have f2 : w3.frozen? ⟨w.heap.size + 1, 2, none⟩ = false := frozen_at w3 _ 2 _ _ hb
  have e2 : w3.cell? ⟨w.heap.size + 1, 2, none⟩ = some (.int .i64 0) := by rw [cell_at w3 _ 2 _ _ hb]; rfl
  have HB3 : Hid ((w3.setCell ⟨w.heap.size + 1, 2, none⟩ (.int .i64 (byteTok.tok ((flgP byteTok ((byteTok.tok (st)).2)).2)).1)).heap[w.heap.size + 1]? = some (.cells #[.int .i64 (byteTok.tok (st)).1, .bool (flgP byteTok ((byteTok.tok (st)).2)).1, .int .i64 (byteTok.tok ((flgP byteTok ((byteTok.tok (st)).2)).2)).1] 48 (0, 0))) := Lib.hid (blk_set hb 2 _)
  have HQ3 : Hid ((w3.setCell ⟨w.heap.size + 1, 2, none⟩ (.int .i64 (byteTok.tok ((flgP byteTok ((byteTok.tok (st)).2)).2)).1)).heap[w.heap.size]? = some (.cells #[.int .i64 0, .bool false, .int .i64 0] 48 (0, 0))) := Lib.hid ((Below.heap_setCell _ _ _ _ (by show w.heap.size ≠ w.heap.size + 1; omega)).trans hq)
  have HR3 : Hid (Rd (w3.setCell ⟨w.heap.size + 1, 2, none⟩ (.int .i64 (byteTok.tok ((flgP byteTok ((byteTok.tok (st)).2)).2)).1)) r B (byteTok.tok ((flgP byteTok ((byteTok.tok (st)).2)).2)).2) := Lib.hid (hr.set hB (by have := HS0.out.2; omega))
  have HK3 : Hid (Kept (fun k => k = r) w (w3.setCell ⟨w.heap.size + 1, 2, none⟩ (.int .i64 (byteTok.tok ((flgP byteTok ((byteTok.tok (st)).2)).2)).1))) := Lib.hid ((HK2.out.trans hk (fun _ _ e => e)).setCell _ _ (fun hlt => by have h : w.heap.size + 1 < w.heap.size := hlt; omega))
  have HS3 : Hid (w.heap.size + 1 < (w3.setCell ⟨w.heap.size + 1, 2, none⟩ (.int .i64 (byteTok.tok ((flgP byteTok ((byteTok.tok (st)).2)).2)).1)).heap.size ∧ r < w.heap.size) := Lib.hid ⟨by have h1 := hk.size; have h2 := HS2.out.1; show _ < (Array.modify _ _ _).size; rw [Array.size_modify]; omega, HS0.out.2⟩
  clear hb hq hr hk
  have p0 : (w3.setCell ⟨w.heap.size + 1, 2, none⟩ (.int .i64 (byteTok.tok ((flgP byteTok ((byteTok.tok (st)).2)).2)).1)).cell? ⟨w.heap.size + 1, 0, none⟩ = some (.int .i64 (byteTok.tok (st)).1) := by rw [cell_at _ _ 0 _ _ HB3.out]; rfl
  have q0 : (w3.setCell ⟨w.heap.size + 1, 2, none⟩ (.int .i64 (byteTok.tok ((flgP byteTok ((byteTok.tok (st)).2)).2)).1)).cell? ⟨w.heap.size, 0, none⟩ = some (.int .i64 0) := by rw [cell_at _ _ 0 _ _ HQ3.out]; rfl
  have g0 : (w3.setCell ⟨w.heap.size + 1, 2, none⟩ (.int .i64 (byteTok.tok ((flgP byteTok ((byteTok.tok (st)).2)).2)).1)).frozen? ⟨w.heap.size, 0, none⟩ = false := frozen_at _ _ 0 _ _ HQ3.out
  have p1 : (w3.setCell ⟨w.heap.size + 1, 2, none⟩ (.int .i64 (byteTok.tok ((flgP byteTok ((byteTok.tok (st)).2)).2)).1)).cell? ⟨w.heap.size + 1, 1, none⟩ = some (.bool (flgP byteTok ((byteTok.tok (st)).2)).1) := by rw [cell_at _ _ 1 _ _ HB3.out]; rfl
  have q1 : (w3.setCell ⟨w.heap.size + 1, 2, none⟩ (.int .i64 (byteTok.tok ((flgP byteTok ((byteTok.tok (st)).2)).2)).1)).cell? ⟨w.heap.size, 1, none⟩ = some (.bool false) := by rw [cell_at _ _ 1 _ _ HQ3.out]; rfl
  have g1 : (w3.setCell ⟨w.heap.size + 1, 2, none⟩ (.int .i64 (byteTok.tok ((flgP byteTok ((byteTok.tok (st)).2)).2)).1)).frozen? ⟨w.heap.size, 1, none⟩ = false := frozen_at _ _ 1 _ _ HQ3.out
  have p2 : (w3.setCell ⟨w.heap.size + 1, 2, none⟩ (.int .i64 (byteTok.tok ((flgP byteTok ((byteTok.tok (st)).2)).2)).1)).cell? ⟨w.heap.size + 1, 2, none⟩ = some (.int .i64 (byteTok.tok ((flgP byteTok ((byteTok.tok (st)).2)).2)).1) := by rw [cell_at _ _ 2 _ _ HB3.out]; rfl
  have q2 : (w3.setCell ⟨w.heap.size + 1, 2, none⟩ (.int .i64 (byteTok.tok ((flgP byteTok ((byteTok.tok (st)).2)).2)).1)).cell? ⟨w.heap.size, 2, none⟩ = some (.int .i64 0) := by rw [cell_at _ _ 2 _ _ HQ3.out]; rfl
  have g2 : (w3.setCell ⟨w.heap.size + 1, 2, none⟩ (.int .i64 (byteTok.tok ((flgP byteTok ((byteTok.tok (st)).2)).2)).1)).frozen? ⟨w.heap.size, 2, none⟩ = false := frozen_at _ _ 2 _ _ HQ3.out
  have HF : Hid (GetTo (obP byteTok) Ob.agg w r B st (.returned (.agg #[.int .i64 (byteTok.tok (st)).1, .bool (flgP byteTok ((byteTok.tok (st)).2)).1, .int .i64 (byteTok.tok ((flgP byteTok ((byteTok.tok (st)).2)).2)).1])) ((((w3.setCell ⟨w.heap.size + 1, 2, none⟩ (.int .i64 (byteTok.tok ((flgP byteTok ((byteTok.tok (st)).2)).2)).1)).setCell ⟨w.heap.size, 0, none⟩ (.int .i64 (byteTok.tok (st)).1)).setCell ⟨w.heap.size, 1, none⟩ (.bool (flgP byteTok ((byteTok.tok (st)).2)).1)).setCell ⟨w.heap.size, 2, none⟩ (.int .i64 (byteTok.tok ((flgP byteTok ((byteTok.tok (st)).2)).2)).1))) := Lib.hid ⟨rfl, ((((((HR3.out).set (b := w.heap.size) (i := 0) (v := .int .i64 (byteTok.tok (st)).1) hB HS0.out.2)).set (b := w.heap.size) (i := 1) (v := .bool (flgP byteTok ((byteTok.tok (st)).2)).1) hB HS0.out.2)).set (b := w.heap.size) (i := 2) (v := .int .i64 (byteTok.tok ((flgP byteTok ((byteTok.tok (st)).2)).2)).1) hB HS0.out.2), ((((((HK3.out).setCell ⟨w.heap.size, 0, none⟩ (.int .i64 (byteTok.tok (st)).1) (fun hlt => absurd hlt (Nat.lt_irrefl _)))).setCell ⟨w.heap.size, 1, none⟩ (.bool (flgP byteTok ((byteTok.tok (st)).2)).1) (fun hlt => absurd hlt (Nat.lt_irrefl _)))).setCell ⟨w.heap.size, 2, none⟩ (.int .i64 (byteTok.tok ((flgP byteTok ((byteTok.tok (st)).2)).2)).1) (fun hlt => absurd hlt (Nat.lt_irrefl _)))⟩
  have hz := blk_set (blk_set (blk_set (HQ3.out) 0 (.int .i64 (byteTok.tok (st)).1)) 1 (.bool (flgP byteTok ((byteTok.tok (st)).2)).1)) 2 (.int .i64 (byteTok.tok ((flgP byteTok ((byteTok.tok (st)).2)).2)).1)
  clear HB3 HQ3 HR3 HK3
  have rb0 : ((((w3.setCell ⟨w.heap.size + 1, 2, none⟩ (.int .i64 (byteTok.tok ((flgP byteTok ((byteTok.tok (st)).2)).2)).1)).setCell ⟨w.heap.size, 0, none⟩ (.int .i64 (byteTok.tok (st)).1)).setCell ⟨w.heap.size, 1, none⟩ (.bool (flgP byteTok ((byteTok.tok (st)).2)).1)).setCell ⟨w.heap.size, 2, none⟩ (.int .i64 (byteTok.tok ((flgP byteTok ((byteTok.tok (st)).2)).2)).1)).cell? ⟨w.heap.size, 0, none⟩ = some (.int .i64 (byteTok.tok (st)).1) := by rw [cell_at _ _ 0 _ _ hz]; rfl
  have rb1 : ((((w3.setCell ⟨w.heap.size + 1, 2, none⟩ (.int .i64 (byteTok.tok ((flgP byteTok ((byteTok.tok (st)).2)).2)).1)).setCell ⟨w.heap.size, 0, none⟩ (.int .i64 (byteTok.tok (st)).1)).setCell ⟨w.heap.size, 1, none⟩ (.bool (flgP byteTok ((byteTok.tok (st)).2)).1)).setCell ⟨w.heap.size, 2, none⟩ (.int .i64 (byteTok.tok ((flgP byteTok ((byteTok.tok (st)).2)).2)).1)).cell? ⟨w.heap.size, 1, none⟩ = some (.bool (flgP byteTok ((byteTok.tok (st)).2)).1) := by rw [cell_at _ _ 1 _ _ hz]; rfl
  have rb2 : ((((w3.setCell ⟨w.heap.size + 1, 2, none⟩ (.int .i64 (byteTok.tok ((flgP byteTok ((byteTok.tok (st)).2)).2)).1)).setCell ⟨w.heap.size, 0, none⟩ (.int .i64 (byteTok.tok (st)).1)).setCell ⟨w.heap.size, 1, none⟩ (.bool (flgP byteTok ((byteTok.tok (st)).2)).1)).setCell ⟨w.heap.size, 2, none⟩ (.int .i64 (byteTok.tok ((flgP byteTok ((byteTok.tok (st)).2)).2)).1)).cell? ⟨w.heap.size, 2, none⟩ = some (.int .i64 (byteTok.tok ((flgP byteTok ((byteTok.tok (st)).2)).2)).1) := by rw [cell_at _ _ 2 _ _ hz]; rfl
  clear hz
  go_wp2_with fail
  exact bodyPost_ret (v := .agg #[.int .i64 (byteTok.tok (st)).1, .bool (flgP byteTok ((byteTok.tok (st)).2)).1, .int .i64 (byteTok.tok ((flgP byteTok ((byteTok.tok (st)).2)).2)).1]) (by simp [results, Try.results31, go_sem, rb0, rb1, rb2]) rfl HF.out

set_option maxHeartbeats 1000000 in
theorem getOp_any {w : World} {r B : Nat} {st : Option (List Nat)} (h : Rd w r B st) (hB : B ≤ r) : Calls Try.prog 53 #[.pointer (some ⟨r, 0, none⟩)] w (GetTo (clP byteTok) Cl.agg w r B st) := by
  have hlt := h.lt
  obtain ⟨W0, hW0⟩ : ∃ W0, (w.alloc (.cells #[.int .i64 0, .int .i64 0, .int .i64 0, .int .i64 0, .bool false] 62)).alloc (.cells #[.int .i64 0, .int .i64 0, .int .i64 0, .int .i64 0, .bool false] 62) = W0 := ⟨_, rfl⟩
  have hs0 : W0.heap.size = w.heap.size + 1 + 1 := by rw [← hW0]; simp
  have hb0 : W0.heap[w.heap.size + 1]? = some (.cells #[.int .i64 0, .int .i64 0, .int .i64 0, .int .i64 0, .bool false] 62 (0, 0)) := by
    rw [← hW0]
    have := heap_alloc_new (w.alloc (.cells #[.int .i64 0, .int .i64 0, .int .i64 0, .int .i64 0, .bool false] 62)) (.cells #[.int .i64 0, .int .i64 0, .int .i64 0, .int .i64 0, .bool false] 62)
    rwa [World.size_alloc] at this
  have hr0 : W0.heap[w.heap.size]? = some (.cells #[.int .i64 0, .int .i64 0, .int .i64 0, .int .i64 0, .bool false] 62 (0, 0)) := by
    rw [← hW0]
    exact ((Kept.refl (fun _ => False) (w.alloc (.cells #[.int .i64 0, .int .i64 0, .int .i64 0, .int .i64 0, .bool false] 62))).alloc _).block _ (by simp) (fun f => f) |>.trans (heap_alloc_new w _)
  have hk0 : Kept (fun k => k = r) w W0 := by rw [← hW0]; exact ((Kept.refl _ w).alloc _).alloc _
  have HR0 : Hid (Rd W0 r B st) := Lib.hid (by rw [← hW0]; exact (h.alloc hB _).alloc hB _)
  have HS0 : Hid (w.heap.size + 1 < W0.heap.size ∧ r < w.heap.size) := Lib.hid ⟨by omega, hlt⟩
  have HB0 := Lib.hid hb0
  have HQ0 := Lib.hid hr0
  have HK0 := Lib.hid hk0
  clear h hlt hs0 hb0 hr0 hk0
  go_enter Try.func53, Try.ntmps53
  go_wp2_with fail
  clear hW0
  refine (number_tok HR0.out hB).mono ?_
  rintro e w1 ⟨rfl, hr, hk⟩
  have hb := (hk.block (w.heap.size + 1) HS0.out.1 (by have := HS0.out.2; omega)).trans HB0.out
  have hq := (hk.block w.heap.size (by have := HS0.out.1; omega) (by have := HS0.out.2; omega)).trans HQ0.out
  have f0 : w1.frozen? ⟨w.heap.size + 1, 0, none⟩ = false := frozen_at w1 _ 0 _ _ hb
  have e0 : w1.cell? ⟨w.heap.size + 1, 0, none⟩ = some (.int .i64 0) := by rw [cell_at w1 _ 0 _ _ hb]; rfl
  have HB1 : Hid ((w1.setCell ⟨w.heap.size + 1, 0, none⟩ (.int .i64 (byteTok.tok (st)).1)).heap[w.heap.size + 1]? = some (.cells #[.int .i64 (byteTok.tok (st)).1, .int .i64 0, .int .i64 0, .int .i64 0, .bool false] 62 (0, 0))) := Lib.hid (blk_set hb 0 _)
  have HQ1 : Hid ((w1.setCell ⟨w.heap.size + 1, 0, none⟩ (.int .i64 (byteTok.tok (st)).1)).heap[w.heap.size]? = some (.cells #[.int .i64 0, .int .i64 0, .int .i64 0, .int .i64 0, .bool false] 62 (0, 0))) := Lib.hid ((Below.heap_setCell _ _ _ _ (by show w.heap.size ≠ w.heap.size + 1; omega)).trans hq)
  have HR1 : Hid (Rd (w1.setCell ⟨w.heap.size + 1, 0, none⟩ (.int .i64 (byteTok.tok (st)).1)) r B (byteTok.tok (st)).2) := Lib.hid (hr.set hB (by have := HS0.out.2; omega))
  have HK1 : Hid (Kept (fun k => k = r) w (w1.setCell ⟨w.heap.size + 1, 0, none⟩ (.int .i64 (byteTok.tok (st)).1))) := Lib.hid ((HK0.out.trans hk (fun _ _ e => e)).setCell _ _ (fun hlt => by have h : w.heap.size + 1 < w.heap.size := hlt; omega))
  have HS1 : Hid (w.heap.size + 1 < (w1.setCell ⟨w.heap.size + 1, 0, none⟩ (.int .i64 (byteTok.tok (st)).1)).heap.size ∧ r < w.heap.size) := Lib.hid ⟨by have h1 := hk.size; have h2 := HS0.out.1; show _ < (Array.modify _ _ _).size; rw [Array.size_modify]; omega, HS0.out.2⟩
  clear hb hq hr hk
  go_wp2_with fail
  clear f0 e0
  refine (number_tok HR1.out hB).mono ?_
  rintro e w2 ⟨rfl, hr, hk⟩
  have hb := (hk.block (w.heap.size + 1) HS1.out.1 (by have := HS0.out.2; omega)).trans HB1.out
  have hq := (hk.block w.heap.size (by have := HS1.out.1; omega) (by have := HS0.out.2; omega)).trans HQ1.out
  have f1 : w2.frozen? ⟨w.heap.size + 1, 1, none⟩ = false := frozen_at w2 _ 1 _ _ hb
  have e1 : w2.cell? ⟨w.heap.size + 1, 1, none⟩ = some (.int .i64 0) := by rw [cell_at w2 _ 1 _ _ hb]; rfl
  have HB2 : Hid ((w2.setCell ⟨w.heap.size + 1, 1, none⟩ (.int .i64 (byteTok.tok ((byteTok.tok (st)).2)).1)).heap[w.heap.size + 1]? = some (.cells #[.int .i64 (byteTok.tok (st)).1, .int .i64 (byteTok.tok ((byteTok.tok (st)).2)).1, .int .i64 0, .int .i64 0, .bool false] 62 (0, 0))) := Lib.hid (blk_set hb 1 _)
  have HQ2 : Hid ((w2.setCell ⟨w.heap.size + 1, 1, none⟩ (.int .i64 (byteTok.tok ((byteTok.tok (st)).2)).1)).heap[w.heap.size]? = some (.cells #[.int .i64 0, .int .i64 0, .int .i64 0, .int .i64 0, .bool false] 62 (0, 0))) := Lib.hid ((Below.heap_setCell _ _ _ _ (by show w.heap.size ≠ w.heap.size + 1; omega)).trans hq)
  have HR2 : Hid (Rd (w2.setCell ⟨w.heap.size + 1, 1, none⟩ (.int .i64 (byteTok.tok ((byteTok.tok (st)).2)).1)) r B (byteTok.tok ((byteTok.tok (st)).2)).2) := Lib.hid (hr.set hB (by have := HS0.out.2; omega))
  have HK2 : Hid (Kept (fun k => k = r) w (w2.setCell ⟨w.heap.size + 1, 1, none⟩ (.int .i64 (byteTok.tok ((byteTok.tok (st)).2)).1))) := Lib.hid ((HK1.out.trans hk (fun _ _ e => e)).setCell _ _ (fun hlt => by have h : w.heap.size + 1 < w.heap.size := hlt; omega))
  have HS2 : Hid (w.heap.size + 1 < (w2.setCell ⟨w.heap.size + 1, 1, none⟩ (.int .i64 (byteTok.tok ((byteTok.tok (st)).2)).1)).heap.size ∧ r < w.heap.size) := Lib.hid ⟨by have h1 := hk.size; have h2 := HS1.out.1; show _ < (Array.modify _ _ _).size; rw [Array.size_modify]; omega, HS0.out.2⟩
  clear hb hq hr hk
  go_wp2_with fail
  clear f1 e1
  refine (number_tok HR2.out hB).mono ?_
  rintro e w3 ⟨rfl, hr, hk⟩
  have hb := (hk.block (w.heap.size + 1) HS2.out.1 (by have := HS0.out.2; omega)).trans HB2.out
  have hq := (hk.block w.heap.size (by have := HS2.out.1; omega) (by have := HS0.out.2; omega)).trans HQ2.out
  have f2 : w3.frozen? ⟨w.heap.size + 1, 2, none⟩ = false := frozen_at w3 _ 2 _ _ hb
  have e2 : w3.cell? ⟨w.heap.size + 1, 2, none⟩ = some (.int .i64 0) := by rw [cell_at w3 _ 2 _ _ hb]; rfl
  have HB3 : Hid ((w3.setCell ⟨w.heap.size + 1, 2, none⟩ (.int .i64 (byteTok.tok ((byteTok.tok ((byteTok.tok (st)).2)).2)).1)).heap[w.heap.size + 1]? = some (.cells #[.int .i64 (byteTok.tok (st)).1, .int .i64 (byteTok.tok ((byteTok.tok (st)).2)).1, .int .i64 (byteTok.tok ((byteTok.tok ((byteTok.tok (st)).2)).2)).1, .int .i64 0, .bool false] 62 (0, 0))) := Lib.hid (blk_set hb 2 _)
  have HQ3 : Hid ((w3.setCell ⟨w.heap.size + 1, 2, none⟩ (.int .i64 (byteTok.tok ((byteTok.tok ((byteTok.tok (st)).2)).2)).1)).heap[w.heap.size]? = some (.cells #[.int .i64 0, .int .i64 0, .int .i64 0, .int .i64 0, .bool false] 62 (0, 0))) := Lib.hid ((Below.heap_setCell _ _ _ _ (by show w.heap.size ≠ w.heap.size + 1; omega)).trans hq)
  have HR3 : Hid (Rd (w3.setCell ⟨w.heap.size + 1, 2, none⟩ (.int .i64 (byteTok.tok ((byteTok.tok ((byteTok.tok (st)).2)).2)).1)) r B (byteTok.tok ((byteTok.tok ((byteTok.tok (st)).2)).2)).2) := Lib.hid (hr.set hB (by have := HS0.out.2; omega))
  have HK3 : Hid (Kept (fun k => k = r) w (w3.setCell ⟨w.heap.size + 1, 2, none⟩ (.int .i64 (byteTok.tok ((byteTok.tok ((byteTok.tok (st)).2)).2)).1))) := Lib.hid ((HK2.out.trans hk (fun _ _ e => e)).setCell _ _ (fun hlt => by have h : w.heap.size + 1 < w.heap.size := hlt; omega))
  have HS3 : Hid (w.heap.size + 1 < (w3.setCell ⟨w.heap.size + 1, 2, none⟩ (.int .i64 (byteTok.tok ((byteTok.tok ((byteTok.tok (st)).2)).2)).1)).heap.size ∧ r < w.heap.size) := Lib.hid ⟨by have h1 := hk.size; have h2 := HS2.out.1; show _ < (Array.modify _ _ _).size; rw [Array.size_modify]; omega, HS0.out.2⟩
  clear hb hq hr hk
  go_wp2_with fail
  clear f2 e2
  refine (number_tok HR3.out hB).mono ?_
  rintro e w4 ⟨rfl, hr, hk⟩
  have hb := (hk.block (w.heap.size + 1) HS3.out.1 (by have := HS0.out.2; omega)).trans HB3.out
  have hq := (hk.block w.heap.size (by have := HS3.out.1; omega) (by have := HS0.out.2; omega)).trans HQ3.out
  have f3 : w4.frozen? ⟨w.heap.size + 1, 3, none⟩ = false := frozen_at w4 _ 3 _ _ hb
  have e3 : w4.cell? ⟨w.heap.size + 1, 3, none⟩ = some (.int .i64 0) := by rw [cell_at w4 _ 3 _ _ hb]; rfl
  have HB4 : Hid ((w4.setCell ⟨w.heap.size + 1, 3, none⟩ (.int .i64 (byteTok.tok ((byteTok.tok ((byteTok.tok ((byteTok.tok (st)).2)).2)).2)).1)).heap[w.heap.size + 1]? = some (.cells #[.int .i64 (byteTok.tok (st)).1, .int .i64 (byteTok.tok ((byteTok.tok (st)).2)).1, .int .i64 (byteTok.tok ((byteTok.tok ((byteTok.tok (st)).2)).2)).1, .int .i64 (byteTok.tok ((byteTok.tok ((byteTok.tok ((byteTok.tok (st)).2)).2)).2)).1, .bool false] 62 (0, 0))) := Lib.hid (blk_set hb 3 _)
  have HQ4 : Hid ((w4.setCell ⟨w.heap.size + 1, 3, none⟩ (.int .i64 (byteTok.tok ((byteTok.tok ((byteTok.tok ((byteTok.tok (st)).2)).2)).2)).1)).heap[w.heap.size]? = some (.cells #[.int .i64 0, .int .i64 0, .int .i64 0, .int .i64 0, .bool false] 62 (0, 0))) := Lib.hid ((Below.heap_setCell _ _ _ _ (by show w.heap.size ≠ w.heap.size + 1; omega)).trans hq)
  have HR4 : Hid (Rd (w4.setCell ⟨w.heap.size + 1, 3, none⟩ (.int .i64 (byteTok.tok ((byteTok.tok ((byteTok.tok ((byteTok.tok (st)).2)).2)).2)).1)) r B (byteTok.tok ((byteTok.tok ((byteTok.tok ((byteTok.tok (st)).2)).2)).2)).2) := Lib.hid (hr.set hB (by have := HS0.out.2; omega))
  have HK4 : Hid (Kept (fun k => k = r) w (w4.setCell ⟨w.heap.size + 1, 3, none⟩ (.int .i64 (byteTok.tok ((byteTok.tok ((byteTok.tok ((byteTok.tok (st)).2)).2)).2)).1))) := Lib.hid ((HK3.out.trans hk (fun _ _ e => e)).setCell _ _ (fun hlt => by have h : w.heap.size + 1 < w.heap.size := hlt; omega))
  have HS4 : Hid (w.heap.size + 1 < (w4.setCell ⟨w.heap.size + 1, 3, none⟩ (.int .i64 (byteTok.tok ((byteTok.tok ((byteTok.tok ((byteTok.tok (st)).2)).2)).2)).1)).heap.size ∧ r < w.heap.size) := Lib.hid ⟨by have h1 := hk.size; have h2 := HS3.out.1; show _ < (Array.modify _ _ _).size; rw [Array.size_modify]; omega, HS0.out.2⟩
  clear hb hq hr hk
  go_wp2_with fail
  clear f3 e3
  refine (flag_any HR4.out hB).mono ?_
  rintro e w5 ⟨rfl, hr, hk⟩
  have hb := (hk.block (w.heap.size + 1) HS4.out.1 (by have := HS0.out.2; omega)).trans HB4.out
  have hq := (hk.block w.heap.size (by have := HS4.out.1; omega) (by have := HS0.out.2; omega)).trans HQ4.out
  have f4 : w5.frozen? ⟨w.heap.size + 1, 4, none⟩ = false := frozen_at w5 _ 4 _ _ hb
  have e4 : w5.cell? ⟨w.heap.size + 1, 4, none⟩ = some (.bool false) := by rw [cell_at w5 _ 4 _ _ hb]; rfl
  have HB5 : Hid ((w5.setCell ⟨w.heap.size + 1, 4, none⟩ (.bool (flgP byteTok ((byteTok.tok ((byteTok.tok ((byteTok.tok ((byteTok.tok (st)).2)).2)).2)).2)).1)).heap[w.heap.size + 1]? = some (.cells #[.int .i64 (byteTok.tok (st)).1, .int .i64 (byteTok.tok ((byteTok.tok (st)).2)).1, .int .i64 (byteTok.tok ((byteTok.tok ((byteTok.tok (st)).2)).2)).1, .int .i64 (byteTok.tok ((byteTok.tok ((byteTok.tok ((byteTok.tok (st)).2)).2)).2)).1, .bool (flgP byteTok ((byteTok.tok ((byteTok.tok ((byteTok.tok ((byteTok.tok (st)).2)).2)).2)).2)).1] 62 (0, 0))) := Lib.hid (blk_set hb 4 _)
  have HQ5 : Hid ((w5.setCell ⟨w.heap.size + 1, 4, none⟩ (.bool (flgP byteTok ((byteTok.tok ((byteTok.tok ((byteTok.tok ((byteTok.tok (st)).2)).2)).2)).2)).1)).heap[w.heap.size]? = some (.cells #[.int .i64 0, .int .i64 0, .int .i64 0, .int .i64 0, .bool false] 62 (0, 0))) := Lib.hid ((Below.heap_setCell _ _ _ _ (by show w.heap.size ≠ w.heap.size + 1; omega)).trans hq)
  have HR5 : Hid (Rd (w5.setCell ⟨w.heap.size + 1, 4, none⟩ (.bool (flgP byteTok ((byteTok.tok ((byteTok.tok ((byteTok.tok ((byteTok.tok (st)).2)).2)).2)).2)).1)) r B (flgP byteTok ((byteTok.tok ((byteTok.tok ((byteTok.tok ((byteTok.tok (st)).2)).2)).2)).2)).2) := Lib.hid (hr.set hB (by have := HS0.out.2; omega))
  have HK5 : Hid (Kept (fun k => k = r) w (w5.setCell ⟨w.heap.size + 1, 4, none⟩ (.bool (flgP byteTok ((byteTok.tok ((byteTok.tok ((byteTok.tok ((byteTok.tok (st)).2)).2)).2)).2)).1))) := Lib.hid ((HK4.out.trans hk (fun _ _ e => e)).setCell _ _ (fun hlt => by have h : w.heap.size + 1 < w.heap.size := hlt; omega))
  have HS5 : Hid (w.heap.size + 1 < (w5.setCell ⟨w.heap.size + 1, 4, none⟩ (.bool (flgP byteTok ((byteTok.tok ((byteTok.tok ((byteTok.tok ((byteTok.tok (st)).2)).2)).2)).2)).1)).heap.size ∧ r < w.heap.size) := Lib.hid ⟨by have h1 := hk.size; have h2 := HS4.out.1; show _ < (Array.modify _ _ _).size; rw [Array.size_modify]; omega, HS0.out.2⟩
  clear hb hq hr hk
  have p0 : (w5.setCell ⟨w.heap.size + 1, 4, none⟩ (.bool (flgP byteTok ((byteTok.tok ((byteTok.tok ((byteTok.tok ((byteTok.tok (st)).2)).2)).2)).2)).1)).cell? ⟨w.heap.size + 1, 0, none⟩ = some (.int .i64 (byteTok.tok (st)).1) := by rw [cell_at _ _ 0 _ _ HB5.out]; rfl
  have q0 : (w5.setCell ⟨w.heap.size + 1, 4, none⟩ (.bool (flgP byteTok ((byteTok.tok ((byteTok.tok ((byteTok.tok ((byteTok.tok (st)).2)).2)).2)).2)).1)).cell? ⟨w.heap.size, 0, none⟩ = some (.int .i64 0) := by rw [cell_at _ _ 0 _ _ HQ5.out]; rfl
  have g0 : (w5.setCell ⟨w.heap.size + 1, 4, none⟩ (.bool (flgP byteTok ((byteTok.tok ((byteTok.tok ((byteTok.tok ((byteTok.tok (st)).2)).2)).2)).2)).1)).frozen? ⟨w.heap.size, 0, none⟩ = false := frozen_at _ _ 0 _ _ HQ5.out
  have p1 : (w5.setCell ⟨w.heap.size + 1, 4, none⟩ (.bool (flgP byteTok ((byteTok.tok ((byteTok.tok ((byteTok.tok ((byteTok.tok (st)).2)).2)).2)).2)).1)).cell? ⟨w.heap.size + 1, 1, none⟩ = some (.int .i64 (byteTok.tok ((byteTok.tok (st)).2)).1) := by rw [cell_at _ _ 1 _ _ HB5.out]; rfl
  have q1 : (w5.setCell ⟨w.heap.size + 1, 4, none⟩ (.bool (flgP byteTok ((byteTok.tok ((byteTok.tok ((byteTok.tok ((byteTok.tok (st)).2)).2)).2)).2)).1)).cell? ⟨w.heap.size, 1, none⟩ = some (.int .i64 0) := by rw [cell_at _ _ 1 _ _ HQ5.out]; rfl
  have g1 : (w5.setCell ⟨w.heap.size + 1, 4, none⟩ (.bool (flgP byteTok ((byteTok.tok ((byteTok.tok ((byteTok.tok ((byteTok.tok (st)).2)).2)).2)).2)).1)).frozen? ⟨w.heap.size, 1, none⟩ = false := frozen_at _ _ 1 _ _ HQ5.out
  have p2 : (w5.setCell ⟨w.heap.size + 1, 4, none⟩ (.bool (flgP byteTok ((byteTok.tok ((byteTok.tok ((byteTok.tok ((byteTok.tok (st)).2)).2)).2)).2)).1)).cell? ⟨w.heap.size + 1, 2, none⟩ = some (.int .i64 (byteTok.tok ((byteTok.tok ((byteTok.tok (st)).2)).2)).1) := by rw [cell_at _ _ 2 _ _ HB5.out]; rfl
  have q2 : (w5.setCell ⟨w.heap.size + 1, 4, none⟩ (.bool (flgP byteTok ((byteTok.tok ((byteTok.tok ((byteTok.tok ((byteTok.tok (st)).2)).2)).2)).2)).1)).cell? ⟨w.heap.size, 2, none⟩ = some (.int .i64 0) := by rw [cell_at _ _ 2 _ _ HQ5.out]; rfl
  have g2 : (w5.setCell ⟨w.heap.size + 1, 4, none⟩ (.bool (flgP byteTok ((byteTok.tok ((byteTok.tok ((byteTok.tok ((byteTok.tok (st)).2)).2)).2)).2)).1)).frozen? ⟨w.heap.size, 2, none⟩ = false := frozen_at _ _ 2 _ _ HQ5.out
  have p3 : (w5.setCell ⟨w.heap.size + 1, 4, none⟩ (.bool (flgP byteTok ((byteTok.tok ((byteTok.tok ((byteTok.tok ((byteTok.tok (st)).2)).2)).2)).2)).1)).cell? ⟨w.heap.size + 1, 3, none⟩ = some (.int .i64 (byteTok.tok ((byteTok.tok ((byteTok.tok ((byteTok.tok (st)).2)).2)).2)).1) := by rw [cell_at _ _ 3 _ _ HB5.out]; rfl
  have q3 : (w5.setCell ⟨w.heap.size + 1, 4, none⟩ (.bool (flgP byteTok ((byteTok.tok ((byteTok.tok ((byteTok.tok ((byteTok.tok (st)).2)).2)).2)).2)).1)).cell? ⟨w.heap.size, 3, none⟩ = some (.int .i64 0) := by rw [cell_at _ _ 3 _ _ HQ5.out]; rfl
  have g3 : (w5.setCell ⟨w.heap.size + 1, 4, none⟩ (.bool (flgP byteTok ((byteTok.tok ((byteTok.tok ((byteTok.tok ((byteTok.tok (st)).2)).2)).2)).2)).1)).frozen? ⟨w.heap.size, 3, none⟩ = false := frozen_at _ _ 3 _ _ HQ5.out
  have p4 : (w5.setCell ⟨w.heap.size + 1, 4, none⟩ (.bool (flgP byteTok ((byteTok.tok ((byteTok.tok ((byteTok.tok ((byteTok.tok (st)).2)).2)).2)).2)).1)).cell? ⟨w.heap.size + 1, 4, none⟩ = some (.bool (flgP byteTok ((byteTok.tok ((byteTok.tok ((byteTok.tok ((byteTok.tok (st)).2)).2)).2)).2)).1) := by rw [cell_at _ _ 4 _ _ HB5.out]; rfl
  have q4 : (w5.setCell ⟨w.heap.size + 1, 4, none⟩ (.bool (flgP byteTok ((byteTok.tok ((byteTok.tok ((byteTok.tok ((byteTok.tok (st)).2)).2)).2)).2)).1)).cell? ⟨w.heap.size, 4, none⟩ = some (.bool false) := by rw [cell_at _ _ 4 _ _ HQ5.out]; rfl
  have g4 : (w5.setCell ⟨w.heap.size + 1, 4, none⟩ (.bool (flgP byteTok ((byteTok.tok ((byteTok.tok ((byteTok.tok ((byteTok.tok (st)).2)).2)).2)).2)).1)).frozen? ⟨w.heap.size, 4, none⟩ = false := frozen_at _ _ 4 _ _ HQ5.out
  have HF : Hid (GetTo (clP byteTok) Cl.agg w r B st (.returned (.agg #[.int .i64 (byteTok.tok (st)).1, .int .i64 (byteTok.tok ((byteTok.tok (st)).2)).1, .int .i64 (byteTok.tok ((byteTok.tok ((byteTok.tok (st)).2)).2)).1, .int .i64 (byteTok.tok ((byteTok.tok ((byteTok.tok ((byteTok.tok (st)).2)).2)).2)).1, .bool (flgP byteTok ((byteTok.tok ((byteTok.tok ((byteTok.tok ((byteTok.tok (st)).2)).2)).2)).2)).1])) ((((((w5.setCell ⟨w.heap.size + 1, 4, none⟩ (.bool (flgP byteTok ((byteTok.tok ((byteTok.tok ((byteTok.tok ((byteTok.tok (st)).2)).2)).2)).2)).1)).setCell ⟨w.heap.size, 0, none⟩ (.int .i64 (byteTok.tok (st)).1)).setCell ⟨w.heap.size, 1, none⟩ (.int .i64 (byteTok.tok ((byteTok.tok (st)).2)).1)).setCell ⟨w.heap.size, 2, none⟩ (.int .i64 (byteTok.tok ((byteTok.tok ((byteTok.tok (st)).2)).2)).1)).setCell ⟨w.heap.size, 3, none⟩ (.int .i64 (byteTok.tok ((byteTok.tok ((byteTok.tok ((byteTok.tok (st)).2)).2)).2)).1)).setCell ⟨w.heap.size, 4, none⟩ (.bool (flgP byteTok ((byteTok.tok ((byteTok.tok ((byteTok.tok ((byteTok.tok (st)).2)).2)).2)).2)).1))) := Lib.hid ⟨rfl, ((((((((((HR5.out).set (b := w.heap.size) (i := 0) (v := .int .i64 (byteTok.tok (st)).1) hB HS0.out.2)).set (b := w.heap.size) (i := 1) (v := .int .i64 (byteTok.tok ((byteTok.tok (st)).2)).1) hB HS0.out.2)).set (b := w.heap.size) (i := 2) (v := .int .i64 (byteTok.tok ((byteTok.tok ((byteTok.tok (st)).2)).2)).1) hB HS0.out.2)).set (b := w.heap.size) (i := 3) (v := .int .i64 (byteTok.tok ((byteTok.tok ((byteTok.tok ((byteTok.tok (st)).2)).2)).2)).1) hB HS0.out.2)).set (b := w.heap.size) (i := 4) (v := .bool (flgP byteTok ((byteTok.tok ((byteTok.tok ((byteTok.tok ((byteTok.tok (st)).2)).2)).2)).2)).1) hB HS0.out.2), ((((((((((HK5.out).setCell ⟨w.heap.size, 0, none⟩ (.int .i64 (byteTok.tok (st)).1) (fun hlt => absurd hlt (Nat.lt_irrefl _)))).setCell ⟨w.heap.size, 1, none⟩ (.int .i64 (byteTok.tok ((byteTok.tok (st)).2)).1) (fun hlt => absurd hlt (Nat.lt_irrefl _)))).setCell ⟨w.heap.size, 2, none⟩ (.int .i64 (byteTok.tok ((byteTok.tok ((byteTok.tok (st)).2)).2)).1) (fun hlt => absurd hlt (Nat.lt_irrefl _)))).setCell ⟨w.heap.size, 3, none⟩ (.int .i64 (byteTok.tok ((byteTok.tok ((byteTok.tok ((byteTok.tok (st)).2)).2)).2)).1) (fun hlt => absurd hlt (Nat.lt_irrefl _)))).setCell ⟨w.heap.size, 4, none⟩ (.bool (flgP byteTok ((byteTok.tok ((byteTok.tok ((byteTok.tok ((byteTok.tok (st)).2)).2)).2)).2)).1) (fun hlt => absurd hlt (Nat.lt_irrefl _)))⟩
  have hz := blk_set (blk_set (blk_set (blk_set (blk_set (HQ5.out) 0 (.int .i64 (byteTok.tok (st)).1)) 1 (.int .i64 (byteTok.tok ((byteTok.tok (st)).2)).1)) 2 (.int .i64 (byteTok.tok ((byteTok.tok ((byteTok.tok (st)).2)).2)).1)) 3 (.int .i64 (byteTok.tok ((byteTok.tok ((byteTok.tok ((byteTok.tok (st)).2)).2)).2)).1)) 4 (.bool (flgP byteTok ((byteTok.tok ((byteTok.tok ((byteTok.tok ((byteTok.tok (st)).2)).2)).2)).2)).1)
  clear HB5 HQ5 HR5 HK5
  have rb0 : ((((((w5.setCell ⟨w.heap.size + 1, 4, none⟩ (.bool (flgP byteTok ((byteTok.tok ((byteTok.tok ((byteTok.tok ((byteTok.tok (st)).2)).2)).2)).2)).1)).setCell ⟨w.heap.size, 0, none⟩ (.int .i64 (byteTok.tok (st)).1)).setCell ⟨w.heap.size, 1, none⟩ (.int .i64 (byteTok.tok ((byteTok.tok (st)).2)).1)).setCell ⟨w.heap.size, 2, none⟩ (.int .i64 (byteTok.tok ((byteTok.tok ((byteTok.tok (st)).2)).2)).1)).setCell ⟨w.heap.size, 3, none⟩ (.int .i64 (byteTok.tok ((byteTok.tok ((byteTok.tok ((byteTok.tok (st)).2)).2)).2)).1)).setCell ⟨w.heap.size, 4, none⟩ (.bool (flgP byteTok ((byteTok.tok ((byteTok.tok ((byteTok.tok ((byteTok.tok (st)).2)).2)).2)).2)).1)).cell? ⟨w.heap.size, 0, none⟩ = some (.int .i64 (byteTok.tok (st)).1) := by rw [cell_at _ _ 0 _ _ hz]; rfl
  have rb1 : ((((((w5.setCell ⟨w.heap.size + 1, 4, none⟩ (.bool (flgP byteTok ((byteTok.tok ((byteTok.tok ((byteTok.tok ((byteTok.tok (st)).2)).2)).2)).2)).1)).setCell ⟨w.heap.size, 0, none⟩ (.int .i64 (byteTok.tok (st)).1)).setCell ⟨w.heap.size, 1, none⟩ (.int .i64 (byteTok.tok ((byteTok.tok (st)).2)).1)).setCell ⟨w.heap.size, 2, none⟩ (.int .i64 (byteTok.tok ((byteTok.tok ((byteTok.tok (st)).2)).2)).1)).setCell ⟨w.heap.size, 3, none⟩ (.int .i64 (byteTok.tok ((byteTok.tok ((byteTok.tok ((byteTok.tok (st)).2)).2)).2)).1)).setCell ⟨w.heap.size, 4, none⟩ (.bool (flgP byteTok ((byteTok.tok ((byteTok.tok ((byteTok.tok ((byteTok.tok (st)).2)).2)).2)).2)).1)).cell? ⟨w.heap.size, 1, none⟩ = some (.int .i64 (byteTok.tok ((byteTok.tok (st)).2)).1) := by rw [cell_at _ _ 1 _ _ hz]; rfl
  have rb2 : ((((((w5.setCell ⟨w.heap.size + 1, 4, none⟩ (.bool (flgP byteTok ((byteTok.tok ((byteTok.tok ((byteTok.tok ((byteTok.tok (st)).2)).2)).2)).2)).1)).setCell ⟨w.heap.size, 0, none⟩ (.int .i64 (byteTok.tok (st)).1)).setCell ⟨w.heap.size, 1, none⟩ (.int .i64 (byteTok.tok ((byteTok.tok (st)).2)).1)).setCell ⟨w.heap.size, 2, none⟩ (.int .i64 (byteTok.tok ((byteTok.tok ((byteTok.tok (st)).2)).2)).1)).setCell ⟨w.heap.size, 3, none⟩ (.int .i64 (byteTok.tok ((byteTok.tok ((byteTok.tok ((byteTok.tok (st)).2)).2)).2)).1)).setCell ⟨w.heap.size, 4, none⟩ (.bool (flgP byteTok ((byteTok.tok ((byteTok.tok ((byteTok.tok ((byteTok.tok (st)).2)).2)).2)).2)).1)).cell? ⟨w.heap.size, 2, none⟩ = some (.int .i64 (byteTok.tok ((byteTok.tok ((byteTok.tok (st)).2)).2)).1) := by rw [cell_at _ _ 2 _ _ hz]; rfl
  have rb3 : ((((((w5.setCell ⟨w.heap.size + 1, 4, none⟩ (.bool (flgP byteTok ((byteTok.tok ((byteTok.tok ((byteTok.tok ((byteTok.tok (st)).2)).2)).2)).2)).1)).setCell ⟨w.heap.size, 0, none⟩ (.int .i64 (byteTok.tok (st)).1)).setCell ⟨w.heap.size, 1, none⟩ (.int .i64 (byteTok.tok ((byteTok.tok (st)).2)).1)).setCell ⟨w.heap.size, 2, none⟩ (.int .i64 (byteTok.tok ((byteTok.tok ((byteTok.tok (st)).2)).2)).1)).setCell ⟨w.heap.size, 3, none⟩ (.int .i64 (byteTok.tok ((byteTok.tok ((byteTok.tok ((byteTok.tok (st)).2)).2)).2)).1)).setCell ⟨w.heap.size, 4, none⟩ (.bool (flgP byteTok ((byteTok.tok ((byteTok.tok ((byteTok.tok ((byteTok.tok (st)).2)).2)).2)).2)).1)).cell? ⟨w.heap.size, 3, none⟩ = some (.int .i64 (byteTok.tok ((byteTok.tok ((byteTok.tok ((byteTok.tok (st)).2)).2)).2)).1) := by rw [cell_at _ _ 3 _ _ hz]; rfl
  have rb4 : ((((((w5.setCell ⟨w.heap.size + 1, 4, none⟩ (.bool (flgP byteTok ((byteTok.tok ((byteTok.tok ((byteTok.tok ((byteTok.tok (st)).2)).2)).2)).2)).1)).setCell ⟨w.heap.size, 0, none⟩ (.int .i64 (byteTok.tok (st)).1)).setCell ⟨w.heap.size, 1, none⟩ (.int .i64 (byteTok.tok ((byteTok.tok (st)).2)).1)).setCell ⟨w.heap.size, 2, none⟩ (.int .i64 (byteTok.tok ((byteTok.tok ((byteTok.tok (st)).2)).2)).1)).setCell ⟨w.heap.size, 3, none⟩ (.int .i64 (byteTok.tok ((byteTok.tok ((byteTok.tok ((byteTok.tok (st)).2)).2)).2)).1)).setCell ⟨w.heap.size, 4, none⟩ (.bool (flgP byteTok ((byteTok.tok ((byteTok.tok ((byteTok.tok ((byteTok.tok (st)).2)).2)).2)).2)).1)).cell? ⟨w.heap.size, 4, none⟩ = some (.bool (flgP byteTok ((byteTok.tok ((byteTok.tok ((byteTok.tok ((byteTok.tok (st)).2)).2)).2)).2)).1) := by rw [cell_at _ _ 4 _ _ hz]; rfl
  clear hz
  go_wp2_with fail
  exact bodyPost_ret (v := .agg #[.int .i64 (byteTok.tok (st)).1, .int .i64 (byteTok.tok ((byteTok.tok (st)).2)).1, .int .i64 (byteTok.tok ((byteTok.tok ((byteTok.tok (st)).2)).2)).1, .int .i64 (byteTok.tok ((byteTok.tok ((byteTok.tok ((byteTok.tok (st)).2)).2)).2)).1, .bool (flgP byteTok ((byteTok.tok ((byteTok.tok ((byteTok.tok ((byteTok.tok (st)).2)).2)).2)).2)).1]) (by simp [results, Try.results53, go_sem, rb0, rb1, rb2, rb3, rb4]) rfl HF.out

set_option maxHeartbeats 1000000 in
theorem getPick_any {w : World} {r B : Nat} {st : Option (List Nat)} (h : Rd w r B st) (hB : B ≤ r) : Calls Try.prog 35 #[.pointer (some ⟨r, 0, none⟩)] w (GetTo (piP byteTok) Pi.agg w r B st) := by
  have hlt := h.lt
  obtain ⟨W0, hW0⟩ : ∃ W0, (w.alloc (.cells #[.int .i64 0, .int .i64 0] 57)).alloc (.cells #[.int .i64 0, .int .i64 0] 57) = W0 := ⟨_, rfl⟩
  have hs0 : W0.heap.size = w.heap.size + 1 + 1 := by rw [← hW0]; simp
  have hb0 : W0.heap[w.heap.size + 1]? = some (.cells #[.int .i64 0, .int .i64 0] 57 (0, 0)) := by
    rw [← hW0]
    have := heap_alloc_new (w.alloc (.cells #[.int .i64 0, .int .i64 0] 57)) (.cells #[.int .i64 0, .int .i64 0] 57)
    rwa [World.size_alloc] at this
  have hr0 : W0.heap[w.heap.size]? = some (.cells #[.int .i64 0, .int .i64 0] 57 (0, 0)) := by
    rw [← hW0]
    exact ((Kept.refl (fun _ => False) (w.alloc (.cells #[.int .i64 0, .int .i64 0] 57))).alloc _).block _ (by simp) (fun f => f) |>.trans (heap_alloc_new w _)
  have hk0 : Kept (fun k => k = r) w W0 := by rw [← hW0]; exact ((Kept.refl _ w).alloc _).alloc _
  have HR0 : Hid (Rd W0 r B st) := Lib.hid (by rw [← hW0]; exact (h.alloc hB _).alloc hB _)
  have HS0 : Hid (w.heap.size + 1 < W0.heap.size ∧ r < w.heap.size) := Lib.hid ⟨by omega, hlt⟩
  have HB0 := Lib.hid hb0
  have HQ0 := Lib.hid hr0
  have HK0 := Lib.hid hk0
  clear h hlt hs0 hb0 hr0 hk0
  go_enter Try.func35, Try.ntmps35
  go_wp2_with fail
  clear hW0
  refine (number_tok HR0.out hB).mono ?_
  rintro e w1 ⟨rfl, hr, hk⟩
  have hb := (hk.block (w.heap.size + 1) HS0.out.1 (by have := HS0.out.2; omega)).trans HB0.out
  have hq := (hk.block w.heap.size (by have := HS0.out.1; omega) (by have := HS0.out.2; omega)).trans HQ0.out
  have f0 : w1.frozen? ⟨w.heap.size + 1, 0, none⟩ = false := frozen_at w1 _ 0 _ _ hb
  have e0 : w1.cell? ⟨w.heap.size + 1, 0, none⟩ = some (.int .i64 0) := by rw [cell_at w1 _ 0 _ _ hb]; rfl
  have HB1 : Hid ((w1.setCell ⟨w.heap.size + 1, 0, none⟩ (.int .i64 (byteTok.tok (st)).1)).heap[w.heap.size + 1]? = some (.cells #[.int .i64 (byteTok.tok (st)).1, .int .i64 0] 57 (0, 0))) := Lib.hid (blk_set hb 0 _)
  have HQ1 : Hid ((w1.setCell ⟨w.heap.size + 1, 0, none⟩ (.int .i64 (byteTok.tok (st)).1)).heap[w.heap.size]? = some (.cells #[.int .i64 0, .int .i64 0] 57 (0, 0))) := Lib.hid ((Below.heap_setCell _ _ _ _ (by show w.heap.size ≠ w.heap.size + 1; omega)).trans hq)
  have HR1 : Hid (Rd (w1.setCell ⟨w.heap.size + 1, 0, none⟩ (.int .i64 (byteTok.tok (st)).1)) r B (byteTok.tok (st)).2) := Lib.hid (hr.set hB (by have := HS0.out.2; omega))
  have HK1 : Hid (Kept (fun k => k = r) w (w1.setCell ⟨w.heap.size + 1, 0, none⟩ (.int .i64 (byteTok.tok (st)).1))) := Lib.hid ((HK0.out.trans hk (fun _ _ e => e)).setCell _ _ (fun hlt => by have h : w.heap.size + 1 < w.heap.size := hlt; omega))
  have HS1 : Hid (w.heap.size + 1 < (w1.setCell ⟨w.heap.size + 1, 0, none⟩ (.int .i64 (byteTok.tok (st)).1)).heap.size ∧ r < w.heap.size) := Lib.hid ⟨by have h1 := hk.size; have h2 := HS0.out.1; show _ < (Array.modify _ _ _).size; rw [Array.size_modify]; omega, HS0.out.2⟩
  clear hb hq hr hk
  go_wp2_with fail
  clear f0 e0
  refine (number_tok HR1.out hB).mono ?_
  rintro e w2 ⟨rfl, hr, hk⟩
  have hb := (hk.block (w.heap.size + 1) HS1.out.1 (by have := HS0.out.2; omega)).trans HB1.out
  have hq := (hk.block w.heap.size (by have := HS1.out.1; omega) (by have := HS0.out.2; omega)).trans HQ1.out
  have f1 : w2.frozen? ⟨w.heap.size + 1, 1, none⟩ = false := frozen_at w2 _ 1 _ _ hb
  have e1 : w2.cell? ⟨w.heap.size + 1, 1, none⟩ = some (.int .i64 0) := by rw [cell_at w2 _ 1 _ _ hb]; rfl
  have HB2 : Hid ((w2.setCell ⟨w.heap.size + 1, 1, none⟩ (.int .i64 (byteTok.tok ((byteTok.tok (st)).2)).1)).heap[w.heap.size + 1]? = some (.cells #[.int .i64 (byteTok.tok (st)).1, .int .i64 (byteTok.tok ((byteTok.tok (st)).2)).1] 57 (0, 0))) := Lib.hid (blk_set hb 1 _)
  have HQ2 : Hid ((w2.setCell ⟨w.heap.size + 1, 1, none⟩ (.int .i64 (byteTok.tok ((byteTok.tok (st)).2)).1)).heap[w.heap.size]? = some (.cells #[.int .i64 0, .int .i64 0] 57 (0, 0))) := Lib.hid ((Below.heap_setCell _ _ _ _ (by show w.heap.size ≠ w.heap.size + 1; omega)).trans hq)
  have HR2 : Hid (Rd (w2.setCell ⟨w.heap.size + 1, 1, none⟩ (.int .i64 (byteTok.tok ((byteTok.tok (st)).2)).1)) r B (byteTok.tok ((byteTok.tok (st)).2)).2) := Lib.hid (hr.set hB (by have := HS0.out.2; omega))
  have HK2 : Hid (Kept (fun k => k = r) w (w2.setCell ⟨w.heap.size + 1, 1, none⟩ (.int .i64 (byteTok.tok ((byteTok.tok (st)).2)).1))) := Lib.hid ((HK1.out.trans hk (fun _ _ e => e)).setCell _ _ (fun hlt => by have h : w.heap.size + 1 < w.heap.size := hlt; omega))
  have HS2 : Hid (w.heap.size + 1 < (w2.setCell ⟨w.heap.size + 1, 1, none⟩ (.int .i64 (byteTok.tok ((byteTok.tok (st)).2)).1)).heap.size ∧ r < w.heap.size) := Lib.hid ⟨by have h1 := hk.size; have h2 := HS1.out.1; show _ < (Array.modify _ _ _).size; rw [Array.size_modify]; omega, HS0.out.2⟩
  clear hb hq hr hk
  have p0 : (w2.setCell ⟨w.heap.size + 1, 1, none⟩ (.int .i64 (byteTok.tok ((byteTok.tok (st)).2)).1)).cell? ⟨w.heap.size + 1, 0, none⟩ = some (.int .i64 (byteTok.tok (st)).1) := by rw [cell_at _ _ 0 _ _ HB2.out]; rfl
  have q0 : (w2.setCell ⟨w.heap.size + 1, 1, none⟩ (.int .i64 (byteTok.tok ((byteTok.tok (st)).2)).1)).cell? ⟨w.heap.size, 0, none⟩ = some (.int .i64 0) := by rw [cell_at _ _ 0 _ _ HQ2.out]; rfl
  have g0 : (w2.setCell ⟨w.heap.size + 1, 1, none⟩ (.int .i64 (byteTok.tok ((byteTok.tok (st)).2)).1)).frozen? ⟨w.heap.size, 0, none⟩ = false := frozen_at _ _ 0 _ _ HQ2.out
  have p1 : (w2.setCell ⟨w.heap.size + 1, 1, none⟩ (.int .i64 (byteTok.tok ((byteTok.tok (st)).2)).1)).cell? ⟨w.heap.size + 1, 1, none⟩ = some (.int .i64 (byteTok.tok ((byteTok.tok (st)).2)).1) := by rw [cell_at _ _ 1 _ _ HB2.out]; rfl
  have q1 : (w2.setCell ⟨w.heap.size + 1, 1, none⟩ (.int .i64 (byteTok.tok ((byteTok.tok (st)).2)).1)).cell? ⟨w.heap.size, 1, none⟩ = some (.int .i64 0) := by rw [cell_at _ _ 1 _ _ HQ2.out]; rfl
  have g1 : (w2.setCell ⟨w.heap.size + 1, 1, none⟩ (.int .i64 (byteTok.tok ((byteTok.tok (st)).2)).1)).frozen? ⟨w.heap.size, 1, none⟩ = false := frozen_at _ _ 1 _ _ HQ2.out
  have HF : Hid (GetTo (piP byteTok) Pi.agg w r B st (.returned (.agg #[.int .i64 (byteTok.tok (st)).1, .int .i64 (byteTok.tok ((byteTok.tok (st)).2)).1])) (((w2.setCell ⟨w.heap.size + 1, 1, none⟩ (.int .i64 (byteTok.tok ((byteTok.tok (st)).2)).1)).setCell ⟨w.heap.size, 0, none⟩ (.int .i64 (byteTok.tok (st)).1)).setCell ⟨w.heap.size, 1, none⟩ (.int .i64 (byteTok.tok ((byteTok.tok (st)).2)).1))) := Lib.hid ⟨rfl, ((((HR2.out).set (b := w.heap.size) (i := 0) (v := .int .i64 (byteTok.tok (st)).1) hB HS0.out.2)).set (b := w.heap.size) (i := 1) (v := .int .i64 (byteTok.tok ((byteTok.tok (st)).2)).1) hB HS0.out.2), ((((HK2.out).setCell ⟨w.heap.size, 0, none⟩ (.int .i64 (byteTok.tok (st)).1) (fun hlt => absurd hlt (Nat.lt_irrefl _)))).setCell ⟨w.heap.size, 1, none⟩ (.int .i64 (byteTok.tok ((byteTok.tok (st)).2)).1) (fun hlt => absurd hlt (Nat.lt_irrefl _)))⟩
  have hz := blk_set (blk_set (HQ2.out) 0 (.int .i64 (byteTok.tok (st)).1)) 1 (.int .i64 (byteTok.tok ((byteTok.tok (st)).2)).1)
  clear HB2 HQ2 HR2 HK2
  have rb0 : (((w2.setCell ⟨w.heap.size + 1, 1, none⟩ (.int .i64 (byteTok.tok ((byteTok.tok (st)).2)).1)).setCell ⟨w.heap.size, 0, none⟩ (.int .i64 (byteTok.tok (st)).1)).setCell ⟨w.heap.size, 1, none⟩ (.int .i64 (byteTok.tok ((byteTok.tok (st)).2)).1)).cell? ⟨w.heap.size, 0, none⟩ = some (.int .i64 (byteTok.tok (st)).1) := by rw [cell_at _ _ 0 _ _ hz]; rfl
  have rb1 : (((w2.setCell ⟨w.heap.size + 1, 1, none⟩ (.int .i64 (byteTok.tok ((byteTok.tok (st)).2)).1)).setCell ⟨w.heap.size, 0, none⟩ (.int .i64 (byteTok.tok (st)).1)).setCell ⟨w.heap.size, 1, none⟩ (.int .i64 (byteTok.tok ((byteTok.tok (st)).2)).1)).cell? ⟨w.heap.size, 1, none⟩ = some (.int .i64 (byteTok.tok ((byteTok.tok (st)).2)).1) := by rw [cell_at _ _ 1 _ _ hz]; rfl
  clear hz
  go_wp2_with fail
  exact bodyPost_ret (v := .agg #[.int .i64 (byteTok.tok (st)).1, .int .i64 (byteTok.tok ((byteTok.tok (st)).2)).1]) (by simp [results, Try.results35, go_sem, rb0, rb1]) rfl HF.out


end Go.Proofs.Ytkicpbnphbcdaaa
