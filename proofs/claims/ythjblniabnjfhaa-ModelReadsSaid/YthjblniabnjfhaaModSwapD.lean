/-
  What package model's swapDoes leaves.
  Conditions: the thing lies in a block.
-/
import Derived.Test.YthjblniabnjfhaaModTake
namespace Go.Proofs.Ythjblniabnjfhaa
open Go.RowKit
set_option linter.unusedSimpArgs false

section
variable {w : World} {b c : Nat} {x : Th} {s : Option Addr}
set_option maxHeartbeats 1000000 in
theorem swapD_any (h : BoxT w b x s c) (t k v : Int) :
    Calls Try.prog 35 #[.pointer (some ⟨b, 0, none⟩), .int .i64 t, .agg #[.int .i64 k, .int .i64 v]] w (Turn w b (swapM x t k v) s c) := by
  have hc : k = 15 ∨ k = 14 ∨ k = 16 ∨ (k ≠ 15 ∧ k ≠ 14 ∧ k ≠ 16) := by omega
  obtain ⟨W1, hW1, hT, hN, hk, hs⟩ := note_box h k v
  obtain ⟨_, _, _, _, _, _, _, _, _, _, _, _, _, c13, c14⟩ := hT.cells
  obtain ⟨d0, d1⟩ := hN.cells
  have f13 := hT.free 13
  have f14 := hT.free 14
  have HA : Hid (BoxT ((W1.setCell ⟨b, 13, none⟩ (.int .i64 t)).setCell ⟨b, 14, none⟩ (.int .i64 v)).drew b { x with offer := t, item := v } s c) := Lib.hid ((hT.setOffer _).setItem _).drewB
  have HC : Hid (BoxT ((W1.setCell ⟨b, 13, none⟩ (.int .i64 (-1))).setCell ⟨b, 14, none⟩ (.int .i64 0)) b { x with offer := -1, item := 0 } s c) := Lib.hid ((hT.setOffer _).setItem _)
  have HS : Hid (BoxT W1 b x s c) := Lib.hid hT
  have HK0 := Lib.hid hk
  clear h hT hN hk hs
  rcases hc with rfl | rfl | rfl | ⟨n15, n14, n16⟩
  · go_enter Try.func35, Try.ntmps35
    go_wp2_with fail
    go_region
    go_wp2_with fail
    go_end0
    exact ⟨rfl, HA.out, ((HK0.out.sB _ _).sB _ _).drew⟩
  · go_enter Try.func35, Try.ntmps35
    go_wp2_with fail
    go_end0
    exact ⟨rfl, HC.out, (HK0.out.sB _ _).sB _ _⟩
  · go_enter Try.func35, Try.ntmps35
    go_wp2_with fail
    go_end0
    exact ⟨rfl, HC.out, (HK0.out.sB _ _).sB _ _⟩
  · have HT : Hid (swapM x t k v = x) := Lib.hid (by unfold swapM; rw [if_neg n15, if_neg (by omega)])
    go_enter Try.func35, Try.ntmps35
    go_wp2_with fail
    go_end0
    exact ⟨rfl, by rw [HT.out]; exact HS.out, HK0.out⟩

end
end Go.Proofs.Ythjblniabnjfhaa
