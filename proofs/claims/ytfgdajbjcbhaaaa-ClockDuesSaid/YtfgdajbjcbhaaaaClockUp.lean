/-
  The statements' own helper of layer 2: up, the document's examples.
  Conditions: none.
-/
import Derived.Test.YtfgdajbjcbhaaaaClock
import Derived.Test.YtfgdajbjcbhaaaaEql
namespace Go.Proofs.Ytfgdajbjcbhaaaa
open Go.RowKit

theorem clockUp_any (w : World) : Calls Try.prog 7 #[] w fun e w' => e = .returned (.bool true) ∧ Kept (fun k => w.heap.size ≤ k) w w' := by
  go_enter Try.func7, Try.ntmps7
  go_wp2_with fail
  refine (add_ok 9223372036854775807 5 _ (by omega) (by omega) (by omega) (by omega) 9223372036854775807 (by decide)).mono ?_
  rintro e w1 ⟨rfl, rfl⟩
  go_wp2_with fail
  have hk := (Kept.refl (fun k => w.heap.size ≤ k) w).alloc (.cells #[.int .i64 (-1), .int .i64 7, .int .i64 3] 2)
  have hN : Nums (w.alloc (.cells #[.int .i64 (-1), .int .i64 7, .int .i64 3] 2)) (w.heap.size + 1) (some ⟨w.heap.size, 0, none⟩) [-1, 7, 3] := by
    refine ⟨by decide, fun i hi => ⟨_, 0, rfl, by omega, ?_⟩⟩
    rw [cell_at _ _ _ _ _ (heap_alloc_new w _)]
    match i, hi with
    | 0, _ => rfl
    | 1, _ => rfl
    | 2, _ => rfl
  refine (first_any (xs := [-1, 7, 3]) 3 3 _ hN rfl).mono ?_
  rintro e w1 ⟨rfl, rfl⟩
  rw [show firstF [-1, 7, 3] = 3 from by decide]
  go_wp2_with fail
  refine (first_any (xs := []) 0 0 _ (Nums.nil _ 0 _) rfl).mono ?_
  rintro e w1 ⟨rfl, rfl⟩
  rw [show firstF [] = -1 from by decide]
  go_wp2_with fail
  go_ret
  exact ⟨rfl, hk⟩

end Go.Proofs.Ytfgdajbjcbhaaaa
