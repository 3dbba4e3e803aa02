/-
  What package model's take, free, countDoes and swapDoes leave.
  Conditions: the thing lies in a block; no sum goes round.
-/
import Derived.Test.YthjblniabnjfhaaModOwn
import Derived.RegionTactic
import Derived.Deep.RegionHeld3
import Derived.StillTailTactics
namespace Go.Proofs.Ythjblniabnjfhaa
open Go.RowKit
set_option linter.unusedSimpArgs false

/-- A thing's block was turned, and nothing else but new ones. -/
def Turn (w : World) (b : Nat) (x : Th) (s : Option Addr) (c : Nat) (e : Ending) (w' : World) : Prop := e = .returned (.tuple #[]) ∧ BoxT w' b x s c ∧ Kept (fun k => k = b) w w'

theorem Kept.sB {b : Nat} {a w : World} (h : Kept (fun k => k = b) a w) (j : Nat) (v : Value) : Kept (fun k => k = b) a (w.setCell ⟨b, j, none⟩ v) := h.setCell _ _ (fun _ => rfl)
theorem Kept.one (b : Nat) (w : World) : Kept (fun k => k = b) w w := Kept.refl _ w

section
variable {w : World} {b c : Nat} {x : Th} {s : Option Addr}

theorem take_any (h : BoxT w b x s c) (t v : Int) (h0 : -2000000 ≤ x.holds) (h1 : x.holds ≤ 2000000) :
    Calls Try.prog 47 #[.pointer (some ⟨b, 0, none⟩), .int .i64 t, .int .i64 v] w (Turn w b (takeM x t v) s c) := by
  obtain ⟨c0, c1, c2, c3, _, _, _, _, _, _, _, _, _, _, _⟩ := h.cells
  have f2 := h.free 2
  have f3 := h.free 3
  have HA := Lib.hid ((h.setOwner t).setHolds v)
  have HB := Lib.hid ((h.setOwner t).setHolds (x.holds + 1))
  have HK : Hid (∀ v, Kept (fun k => k = b) w ((w.setCell ⟨b, 2, none⟩ (.int .i64 t)).setCell ⟨b, 3, none⟩ v)) := Lib.hid (fun v => ((Kept.one b w).sB _ _).sB _ _)
  have b0 : -2000000 ≤ x.holds + 1 := by omega
  have b1 : x.holds + 1 ≤ 2000001 := by omega
  clear h h0 h1
  cases k1 : (x.kind == 1) with
  | false =>
    have HT : Hid (takeM x t v = { x with owner := t, holds := x.holds + 1 }) := Lib.hid (by unfold takeM; simp only [k1, Bool.false_and, Bool.false_eq_true, if_false])
    go_enter Try.func47, Try.ntmps47
    go_wp2_with fail
    go_end0
    exact ⟨rfl, by rw [HT.out]; exact HB.out, HK.out _⟩
  | true =>
    cases k2 : (x.owner == -1) with
    | false =>
      have HT : Hid (takeM x t v = { x with owner := t, holds := x.holds + 1 }) := Lib.hid (by unfold takeM; simp only [k1, k2, Bool.true_and, Bool.false_eq_true, if_false])
      go_enter Try.func47, Try.ntmps47
      go_wp2_with fail
      go_end0
      exact ⟨rfl, by rw [HT.out]; exact HB.out, HK.out _⟩
    | true =>
      have HT : Hid (takeM x t v = { x with owner := t, holds := v }) := Lib.hid (by unfold takeM; simp only [k1, k2, Bool.true_and, if_true])
      go_enter Try.func47, Try.ntmps47
      go_wp2_with fail
      go_end0
      exact ⟨rfl, by rw [HT.out]; exact HA.out, HK.out _⟩

theorem free_any (h : BoxT w b x s c) (h0 : -2000000 ≤ x.holds) (h1 : x.holds ≤ 2000001) :
    Calls Try.prog 48 #[.pointer (some ⟨b, 0, none⟩)] w (Turn w b (freeM x) s c) := by
  obtain ⟨c0, c1, c2, c3, _, _, _, _, _, _, _, _, _, _, _⟩ := h.cells
  have f2 := h.free 2
  have f3 := h.free 3
  have HA := Lib.hid (h.setHolds (x.holds - 1))
  have HB := Lib.hid ((h.setHolds (x.holds - 1)).setOwner (-1))
  have HK : Hid (Kept (fun k => k = b) w (w.setCell ⟨b, 3, none⟩ (.int .i64 (x.holds - 1)))) := Lib.hid ((Kept.one b w).sB _ _)
  have b0 : -2000001 ≤ x.holds - 1 := by omega
  have b1 : x.holds - 1 ≤ 2000000 := by omega
  clear h h0 h1
  cases k1 : (x.holds - 1 == 0) with
  | false =>
    have HT : Hid (freeM x = { x with holds := x.holds - 1 }) := Lib.hid (by unfold freeM; simp only [k1, Bool.false_eq_true, if_false])
    go_enter Try.func48, Try.ntmps48
    go_wp2_with fail
    go_end0
    exact ⟨rfl, by rw [HT.out]; exact HA.out, HK.out⟩
  | true =>
    have HT : Hid (freeM x = { x with holds := x.holds - 1, owner := -1 }) := Lib.hid (by unfold freeM; simp only [k1, if_true])
    go_enter Try.func48, Try.ntmps48
    go_wp2_with fail
    go_end0
    exact ⟨rfl, by rw [HT.out]; exact HB.out, HK.out.sB _ _⟩

theorem BoxT.alloc (h : BoxT w b x s c) (o : Obj) : BoxT (w.alloc o) b x s c := h.kept0 ((Kept.refl _ w).alloc _)
theorem BoxT.drewB (h : BoxT w b x s c) : BoxT w.drew b x s c := h.kept0 ((Kept.refl _ w).drew)

/-- The world behind a mark's box. -/
theorem note_box (h : BoxT w b x s c) (k v : Int) : ∃ W1, w.alloc (.cells #[.int .i64 k, .int .i64 v] 29) = W1 ∧ BoxT W1 b x s c ∧ BoxN W1 w.heap.size k v ∧ Kept (fun k => k = b) w W1 ∧ W1.heap.size = w.heap.size + 1 :=
  ⟨_, rfl, h.alloc _, BoxN.new w k v, (Kept.one b w).alloc _, by simp⟩

set_option maxHeartbeats 1000000 in
theorem count_any (h : BoxT w b x s c) (k v : Int) (hm : k = 1 ∨ k = 8 ∨ k = 9 → -9000000 ≤ x.n - v ∧ x.n - v ≤ 9000000) (hp : k = 3 → -9000000 ≤ x.n + v ∧ x.n + v ≤ 9000000) :
    Calls Try.prog 34 #[.pointer (some ⟨b, 0, none⟩), .agg #[.int .i64 k, .int .i64 v]] w (Turn w b (countM x k v) s c) := by
  have hc : k = 1 ∨ k = 8 ∨ k = 9 ∨ k = 3 ∨ (k ≠ 1 ∧ k ≠ 8 ∧ k ≠ 9 ∧ k ≠ 3) := by omega
  obtain ⟨W1, hW1, hT, hN, hk, hs⟩ := note_box h k v
  obtain ⟨c0, c1, c2, c3, _, _, _, _, _, _, _, _, _, _, _⟩ := hT.cells
  obtain ⟨d0, d1⟩ := hN.cells
  have f1 := hT.free 1
  have HM : Hid (BoxT (W1.drew.setCell ⟨b, 1, none⟩ (.int .i64 (x.n - v))) b { x with n := x.n - v } s c) := Lib.hid (hT.drewB.setN _)
  have HP : Hid (BoxT (W1.drew.setCell ⟨b, 1, none⟩ (.int .i64 (x.n + v))) b { x with n := x.n + v } s c) := Lib.hid (hT.drewB.setN _)
  have HS : Hid (BoxT W1 b x s c) := Lib.hid hT
  have HK : Hid (∀ u, Kept (fun k => k = b) w (W1.drew.setCell ⟨b, 1, none⟩ u)) := Lib.hid (fun u => hk.drew.sB _ _)
  have HK0 := Lib.hid hk
  clear h hT hN hk hs
  rcases hc with rfl | rfl | rfl | rfl | ⟨n1, n8, n9, n3⟩
  · obtain ⟨m0, m1⟩ := hm (by omega)
    clear hm hp
    go_enter Try.func34, Try.ntmps34
    go_wp2_with fail
    go_still_tail 9, (by kernel_rfl)
    change wpList _ _ _ _ _ W1.drew
    go_wp2_with fail
    go_end0
    exact ⟨rfl, HM.out, HK.out _⟩
  · obtain ⟨m0, m1⟩ := hm (by omega)
    clear hm hp
    go_enter Try.func34, Try.ntmps34
    go_wp2_with fail
    go_still_tail 9, (by kernel_rfl)
    change wpList _ _ _ _ _ W1.drew
    go_wp2_with fail
    go_end0
    exact ⟨rfl, HM.out, HK.out _⟩
  · obtain ⟨m0, m1⟩ := hm (by omega)
    clear hm hp
    go_enter Try.func34, Try.ntmps34
    go_wp2_with fail
    go_still_tail 9, (by kernel_rfl)
    change wpList _ _ _ _ _ W1.drew
    go_wp2_with fail
    go_end0
    exact ⟨rfl, HM.out, HK.out _⟩
  · obtain ⟨m0, m1⟩ := hp rfl
    clear hm hp
    go_enter Try.func34, Try.ntmps34
    go_wp2_with fail
    go_still_tail 9, (by kernel_rfl)
    change wpList _ _ _ _ _ W1.drew
    go_wp2_with fail
    go_end0
    exact ⟨rfl, HP.out, HK.out _⟩
  · have HT : Hid (countM x k v = x) := Lib.hid (by unfold countM; rw [if_neg (by omega), if_neg n3])
    clear hm hp
    go_enter Try.func34, Try.ntmps34
    go_wp2_with fail
    go_end0
    exact ⟨rfl, by rw [HT.out]; exact HS.out, HK0.out⟩

end
end Go.Proofs.Ythjblniabnjfhaa
