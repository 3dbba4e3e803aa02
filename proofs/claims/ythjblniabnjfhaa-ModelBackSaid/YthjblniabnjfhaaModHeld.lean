/-
  What package model's heldDoes leaves, a mark at a time.
  Conditions: the thing lies in a block, its waiters in a row of the call's own; no sum goes round.
-/
import Derived.Test.YthjblniabnjfhaaModTake
import Derived.Test.YthjblniabnjfhaaModStrike
namespace Go.Proofs.Ythjblniabnjfhaa
open Go.RowKit
set_option linter.unusedSimpArgs false
set_option linter.unusedVariables false

/-- A thing's block was turned, and its waiters lie in new memory. -/
def Done (W : Nat) (w : World) (b : Nat) (x : Th) (e : Ending) (w' : World) : Prop :=
  e = .returned (.tuple #[]) ∧ ∃ s c, BoxT w' b x s c ∧ NewW W w' s c x.ws ∧ Kept (fun k => k = b ∨ W ≤ k) w w'

section
variable {W : Nat} {w : World} {b c : Nat} {x : Th} {s : Option Addr}

theorem Turn.done {e : Ending} {w' : World} {y : Th} (h : Turn w b y s c e w') (hO : NewW W w s c y.ws) (hb : b < W) : Done W w b y e w' :=
  ⟨h.1, s, c, h.2.1, hO.kept h.2.2 (fun g hg e => by omega), h.2.2.mono (fun _ _ e => .inl e)⟩
theorem Done.of0 {e : Ending} {w1 w' : World} {y : Th} (hk : Kept (fun k => k = b ∨ W ≤ k) w w1) (h : Done W w1 b y e w') : Done W w b y e w' := by
  obtain ⟨h1, s, c, h2, h3, h4⟩ := h
  exact ⟨h1, s, c, h2, h3, hk.trans h4 (fun _ _ e => e)⟩

/-- The world behind the boxes of a thread and a mark. -/
theorem two_box (h : BoxT w b x s c) (t k v : Int) : ∃ W1 W2, w.alloc (.cells #[.int .i64 t] 3) = W1 ∧ W1.alloc (.cells #[.int .i64 k, .int .i64 v] 29) = W2 ∧ W1.heap.size = w.heap.size + 1 ∧ BoxT W2 b x s c ∧ BoxN W2 (w.heap.size + 1) k v ∧ W2.cell? ⟨w.heap.size, 0, none⟩ = some (.int .i64 t) ∧ Kept (fun _ => False) w W2 ∧ W2.heap.size = w.heap.size + 1 + 1 := by
  have k1 : Kept (fun _ => False) w (w.alloc (.cells #[.int .i64 t] 3)) := (Kept.refl _ w).alloc _
  have k2 : Kept (fun _ => False) (w.alloc (.cells #[.int .i64 t] 3)) ((w.alloc (.cells #[.int .i64 t] 3)).alloc (.cells #[.int .i64 k, .int .i64 v] 29)) := (Kept.refl _ _).alloc _
  have hs : (w.alloc (.cells #[.int .i64 t] 3)).heap.size = w.heap.size + 1 := by simp
  refine ⟨_, _, rfl, rfl, hs, (h.kept0 k1).kept0 k2, ?_, ?_, k1.tr0 k2, by simp⟩
  · have := BoxN.new (w.alloc (.cells #[.int .i64 t] 3)) k v
    rwa [hs] at this
  · rw [cell_at _ _ 0 _ _ (k2.at0 (heap_new1 w _))]; rfl

theorem held_1 (h : BoxT w b x s c) (hO : NewW W w s c x.ws) (hb : b < W) (hF : Fit x) (t v : Int) :
    Calls Try.prog 33 #[.pointer (some ⟨b, 0, none⟩), .int .i64 t, .agg #[.int .i64 1, .int .i64 v]] w (Done W w b (takeM x t v)) := by
  obtain ⟨W1, W2, hW1, hW2, hs, hT, hN, ht, hk, hs2⟩ := two_box h t 1 v
  obtain ⟨d0, d1⟩ := hN.cells
  have hw : (takeM x t v).ws = x.ws := by unfold takeM; split <;> rfl
  have HC : Hid (Calls Try.prog 47 #[.pointer (some ⟨b, 0, none⟩), .int .i64 t, .int .i64 v] W2 (Done W w b (takeM x t v))) :=
    Lib.hid ((take_any hT t v hF.h0 hF.h1).mono (fun e w' hd => (hd.done (hw ▸ hO.kept hk (fun _ _ f => f)) hb).of0 (hk.mono (fun _ _ f => f.elim))))
  clear h hO hT hN hk hs2 hw
  go_enter Try.func33, Try.ntmps33
  go_wp2_with fail
  refine HC.out.mono ?_
  rintro e w3 ⟨rfl, hd⟩
  have HD := Lib.hid hd; clear hd
  go_wp2_with fail
  go_end0
  exact ⟨rfl, HD.out⟩

theorem held_3 (h : BoxT w b x s c) (hO : NewW W w s c x.ws) (hb : b < W) (h0 : -2000000 ≤ x.holds) (h1 : x.holds ≤ 2000001) (t v : Int) :
    Calls Try.prog 33 #[.pointer (some ⟨b, 0, none⟩), .int .i64 t, .agg #[.int .i64 3, .int .i64 v]] w (Done W w b (freeM x)) := by
  obtain ⟨W1, W2, hW1, hW2, hs, hT, hN, ht, hk, hs2⟩ := two_box h t 3 v
  obtain ⟨d0, d1⟩ := hN.cells
  have hw : (freeM x).ws = x.ws := by unfold freeM; split <;> rfl
  have HC : Hid (Calls Try.prog 48 #[.pointer (some ⟨b, 0, none⟩)] W2 (Done W w b (freeM x))) :=
    Lib.hid ((free_any hT h0 h1).mono (fun e w' hd => (hd.done (hw ▸ hO.kept hk (fun _ _ f => f)) hb).of0 (hk.mono (fun _ _ f => f.elim))))
  clear h hO hT hN hk hs2 hw
  go_enter Try.func33, Try.ntmps33
  go_wp2_with fail
  refine HC.out.mono ?_
  rintro e w3 ⟨rfl, hd⟩
  have HD := Lib.hid hd; clear hd
  go_wp2_with fail
  go_end0
  exact ⟨rfl, HD.out⟩

set_option maxHeartbeats 1000000 in
theorem held_2 (h : BoxT w b x s c) (hO : NewW W w s c x.ws) (hb : b < W) (hF : Fit x) (t : Nat) (htl : t < 8) (v : Int) :
    Calls Try.prog 33 #[.pointer (some ⟨b, 0, none⟩), .int .i64 (t : Int), .agg #[.int .i64 2, .int .i64 v]] w (Done W w b { x with r := updR x.r t (x.r t + 1) }) := by
  obtain ⟨W1, W2, hW1, hW2, hs, hT, hN, ht, hk, hs2⟩ := two_box h t 2 v
  obtain ⟨d0, d1⟩ := hN.cells
  have y0 := hT.read htl
  have f0 := hT.free (4 + t)
  have e0 := hF.r0 t htl
  have e1 := hF.r1 t htl
  have z0 : -2000001 ≤ x.r t + 1 := by omega
  have z1 : x.r t + 1 ≤ 2000001 := by omega
  have z2 : (t : Int) < 8 := by omega
  have HD : Hid (Done W w b { x with r := updR x.r t (x.r t + 1) } (.returned (.tuple #[])) (W2.drew.setCell ⟨b, 4 + t, none⟩ (.int .i64 (x.r t + 1)))) :=
    Lib.hid ⟨rfl, s, c, hT.drewB.setR htl _, (hO.kept hk (fun _ _ f => f)).kept ((Kept.one b W2).drew.sB _ _) (fun g hg e => by omega), (hk.mono (fun _ _ f => f.elim)).trans ((Kept.one b W2).drew.sB _ _) (fun _ _ e => .inl e)⟩
  clear h hO hT hN hk hs2 hF e0 e1
  go_enter Try.func33, Try.ntmps33
  go_wp2_with fail
  go_still_tail 10, (by kernel_rfl)
  change wpList _ _ _ _ _ W2.drew
  go_wp2_with fail
  go_end0
  exact HD.out

set_option maxHeartbeats 1000000 in
theorem held_4 (h : BoxT w b x s c) (hO : NewW W w s c x.ws) (hb : b < W) (h0 : ∀ i, i < 8 → -2000000 ≤ x.r i) (h1 : ∀ i, i < 8 → x.r i ≤ 2000001) (t : Nat) (htl : t < 8) (v : Int) :
    Calls Try.prog 33 #[.pointer (some ⟨b, 0, none⟩), .int .i64 (t : Int), .agg #[.int .i64 4, .int .i64 v]] w (Done W w b { x with r := updR x.r t (x.r t - 1) }) := by
  obtain ⟨W1, W2, hW1, hW2, hs, hT, hN, ht, hk, hs2⟩ := two_box h t 4 v
  obtain ⟨d0, d1⟩ := hN.cells
  have y0 := hT.read htl
  have f0 := hT.free (4 + t)
  have e0 := h0 t htl
  have e1 := h1 t htl
  have z0 : -2000001 ≤ x.r t - 1 := by omega
  have z1 : x.r t - 1 ≤ 2000001 := by omega
  have z2 : (t : Int) < 8 := by omega
  have HD : Hid (Done W w b { x with r := updR x.r t (x.r t - 1) } (.returned (.tuple #[])) (W2.drew.setCell ⟨b, 4 + t, none⟩ (.int .i64 (x.r t - 1)))) :=
    Lib.hid ⟨rfl, s, c, hT.drewB.setR htl _, (hO.kept hk (fun _ _ f => f)).kept ((Kept.one b W2).drew.sB _ _) (fun g hg e => by omega), (hk.mono (fun _ _ f => f.elim)).trans ((Kept.one b W2).drew.sB _ _) (fun _ _ e => .inl e)⟩
  clear h hO hT hN hk hs2 h0 h1 e0 e1
  go_enter Try.func33, Try.ntmps33
  go_wp2_with fail
  go_still_tail 10, (by kernel_rfl)
  change wpList _ _ _ _ _ W2.drew
  go_wp2_with fail
  go_end0
  exact HD.out

theorem held_no (h : BoxT w b x s c) (hO : NewW W w s c x.ws) (hb : b < W) (t k v : Int) (hn : k ≠ 1 ∧ k ≠ 3 ∧ k ≠ 2 ∧ k ≠ 4 ∧ k ≠ 10 ∧ k ≠ 11 ∧ k ≠ 13) :
    Calls Try.prog 33 #[.pointer (some ⟨b, 0, none⟩), .int .i64 t, .agg #[.int .i64 k, .int .i64 v]] w (Done W w b x) := by
  obtain ⟨W1, W2, hW1, hW2, hs, hT, hN, ht, hk, hs2⟩ := two_box h t k v
  obtain ⟨d0, d1⟩ := hN.cells
  obtain ⟨n1, n3, n2, n4, n10, n11, n13⟩ := hn
  have HD : Hid (Done W w b x (.returned (.tuple #[])) W2) := Lib.hid ⟨rfl, s, c, hT, hO.kept hk (fun _ _ f => f), hk.mono (fun _ _ f => f.elim)⟩
  clear h hO hT hN hk hs2
  go_enter Try.func33, Try.ntmps33
  go_wp2_with fail
  go_end0
  exact HD.out

end
end Go.Proofs.Ythjblniabnjfhaa
