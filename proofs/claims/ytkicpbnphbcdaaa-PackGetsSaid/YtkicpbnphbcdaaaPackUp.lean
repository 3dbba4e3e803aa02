/-
  The statements' own helper of layer 6: up, the document's example, and nothing.
  Conditions: none.
-/
import Derived.Test.YtkicpbnphbcdaaaGetTop
import Derived.Test.YtkicpbnphbcdaaaText
import Derived.Test.YtkicpbnphbcdaaaEql
import Derived.Handy
namespace Go.Proofs.Ytkicpbnphbcdaaa
open Go.RowKit

def upSc (s : Nat) : Sc := ⟨some ⟨s, 0, none⟩, 1, [⟨1, false, 0⟩], some ⟨s + 1, 0, none⟩, 1, [⟨none, 0, []⟩], none, 0, []⟩
theorem up_small (s : Nat) : largeF (upSc s) = false := rfl
theorem up_good (s : Nat) : goodF (upSc s) = true := rfl
theorem up_bytes (s : Nat) : scE byteTok (partsOf (upSc s)) = [2, 2, 0, 0, 2, 0, 0] := by
  simp [scE, listE, obE, prE, byteTok, numB, foldN, truthN, partsOf, upSc, dig_small]
theorem up_none : (scP byteTok (some [])).2 ≠ some [] := by
  intro h
  cases (show (none : Option (List Nat)) = some [] from h)

theorem up_lies (w : World) (t1 t2 : TypeId) : Lies ((w.alloc (.cells #[.int .i64 1, .bool false, .int .i64 0] t1)).alloc (.cells #[.slice none 0 0] t2)) (w.heap.size + 2) (upSc w.heap.size) := by
  have h1 := heap_alloc_new w (.cells #[.int .i64 1, .bool false, .int .i64 0] t1)
  have h2 := heap_alloc_new (w.alloc (.cells #[.int .i64 1, .bool false, .int .i64 0] t1)) (.cells #[.slice none 0 0] t2)
  have h3 := (((Kept.refl (fun _ => False) (w.alloc (.cells #[.int .i64 1, .bool false, .int .i64 0] t1))).alloc (.cells #[.slice none 0 0] t2)).block w.heap.size (by simp) (fun f => f)).trans h1
  rw [World.size_alloc] at h2
  refine ⟨(Elems.block Ob.three (xs := [⟨1, false, 0⟩]) h3 rfl (by decide)).more (by omega), ⟨(Elems.block Pr.one (xs := [⟨none, 0, []⟩]) h2 rfl (by show 1 ≤ maxLen; decide)).more (by omega), fun p hp => ?_⟩, Elems.nil⟩
  simp only [upSc, List.mem_cons, List.not_mem_nil, or_false] at hp
  subst hp
  exact Elems.nil

set_option maxHeartbeats 1000000 in
theorem packUp_any (w : World) : Calls Try.prog 8 #[] w fun e w' => e = .returned (.bool true) ∧ Kept (fun _ => False) w w' := by
  have hq : ∀ (w : World) (a b : Int), (binOp .eql 31 (.iface 43 (.int .i64 a)) (.iface 43 (.int .i64 b))).run Try.prog w = .ok (.bool (a == b)) w := eql_codes
  go_enter Try.func8, Try.ntmps8
  go_wp2_with fail
  refine (putTop_good (x := upSc w.heap.size) (up_lies w _ _) (by simp) (up_small _) (up_good _)).mono ?_
  rintro e w1 ⟨A, c, rfl, hown, hk⟩
  rw [up_bytes] at hown ⊢
  have hk1 : Kept (fun _ => False) w w1 := (((Kept.refl _ w).alloc _).alloc _).trans hk (fun _ _ f => f)
  obtain ⟨A', c', e1, _, hE⟩ := hown.elems (by decide)
  simp only [Value.slice.injEq, true_and] at e1
  obtain ⟨rfl, rfl⟩ := e1
  have HE := Lib.hid hE
  have HK1 := Lib.hid hk1
  clear hown hk hk1 hE
  go_wp2_with fail
  refine (getTop_any (A := none) (bs := []) (B := 0) (c := 0) Elems.nil (by simp) (by simp) (Nat.zero_le _)).mono ?_
  rintro e w2 ho
  obtain ⟨rfl, hk2⟩ := ho.1 up_none
  have hcv : (convert 29 9 (.slice A 7 c)).run Try.prog (w2.alloc (.cells #[.slice none 0 0, .slice none 0 0, .slice none 0 0] 26)) = .ok (.string { data := #[2, 2, 0, 0, 2, 0, 0] }) (w2.alloc (.cells #[.slice none 0 0, .slice none 0 0, .slice none 0 0] 26)) :=
    conv_bytes (HE.out.kept (hk2.alloc _) (Nat.le_refl _) (fun _ _ f => f))
  have HK2 := Lib.hid (HK1.out.trans hk2 (fun _ _ f => f))
  clear ho hk2
  go_wp2_with fail
  go_ret
  exact ⟨rfl, HK2.out.alloc _⟩

end Go.Proofs.Ytkicpbnphbcdaaa
