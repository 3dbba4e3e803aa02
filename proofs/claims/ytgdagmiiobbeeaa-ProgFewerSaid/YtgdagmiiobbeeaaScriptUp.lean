/-
  The statements' own helper of layer 5: Plain, and up, the document's example.
  Conditions: none.
-/
import Derived.Test.YtgdagmiiobbeeaaCheck
import Derived.Test.YtgdagmiiobbeeaaScrOwn
import Derived.Test.YtgdagmiiobbeeaaEql
import Derived.Handy
namespace Go.Proofs.Ytgdagmiiobbeeaa
open Go.RowKit

/-- The document's example, and nothing. -/
def plainSc (s : Nat) : Sc := ⟨some ⟨s + 1, 0, none⟩, 1, [⟨1, false, 0⟩], some ⟨s + 1 + 1 + 1, 0, none⟩, 1, [⟨some ⟨s + 1 + 1, 0, none⟩, 2, [⟨1, 0, 0, -1, false⟩, ⟨3, 0, 0, 0, false⟩]⟩], none, 0, []⟩
def noSc : Sc := ⟨none, 0, [], none, 0, [], none, 0, []⟩

theorem plain_small (s : Nat) : largeF (plainSc s) = false := rfl
theorem plain_good (s : Nat) : goodF (plainSc s) = true := rfl

theorem noSc_lies (w : World) (B : Nat) : Lies w B noSc := ⟨Elems.nil, ⟨Elems.nil, fun p h => by simp [noSc] at h⟩, Elems.nil⟩

theorem plain_lies (w : World) (a : Obj) (t1 t2 t3 : TypeId) : Lies
    ((((w.alloc a).alloc (.cells #[.int .i64 1, .bool false, .int .i64 0] t1)).alloc (.cells #[.int .i64 1, .int .i64 0, .int .i64 0, .int .i64 (-1), .bool false, .int .i64 3, .int .i64 0, .int .i64 0, .int .i64 0, .bool false] t2)).alloc
      (.cells #[.slice (some ⟨w.heap.size + 1 + 1, 0, none⟩) 2 2] t3)) (w.heap.size + 4) (plainSc w.heap.size) := by
  obtain ⟨wa, ha⟩ : ∃ wa, w.alloc a = wa := ⟨_, rfl⟩
  have hs : wa.heap.size = w.heap.size + 1 := by rw [← ha]; simp
  rw [ha]
  generalize w.heap.size = s at *
  obtain ⟨wb, hb⟩ : ∃ wb, wa.alloc (.cells #[.int .i64 1, .bool false, .int .i64 0] t1) = wb := ⟨_, rfl⟩
  have hsb : wb.heap.size = s + 1 + 1 := by rw [← hb]; simp [hs]
  have hob : wb.heap[s + 1]? = some (.cells #[.int .i64 1, .bool false, .int .i64 0] t1 (0, 0)) := by rw [← hb, ← hs]; exact heap_alloc_new wa _
  rw [hb]
  obtain ⟨wc, hc⟩ : ∃ wc, wb.alloc (.cells #[.int .i64 1, .int .i64 0, .int .i64 0, .int .i64 (-1), .bool false, .int .i64 3, .int .i64 0, .int .i64 0, .int .i64 0, .bool false] t2) = wc := ⟨_, rfl⟩
  have hsc : wc.heap.size = s + 1 + 1 + 1 := by rw [← hc]; simp [hsb]
  have hoc : wc.heap[s + 1 + 1]? = some (.cells #[.int .i64 1, .int .i64 0, .int .i64 0, .int .i64 (-1), .bool false, .int .i64 3, .int .i64 0, .int .i64 0, .int .i64 0, .bool false] t2 (0, 0)) := by rw [← hc, ← hsb]; exact heap_alloc_new wb _
  have kc : Kept (fun _ => False) wb wc := by rw [← hc]; exact (Kept.refl _ _).alloc _
  rw [hc]
  have hod : (wc.alloc (.cells #[.slice (some ⟨s + 1 + 1, 0, none⟩) 2 2] t3)).heap[s + 1 + 1 + 1]? = some (.cells #[.slice (some ⟨s + 1 + 1, 0, none⟩) 2 2] t3 (0, 0)) := by rw [← hsc]; exact heap_alloc_new wc _
  have kd : Kept (fun _ => False) wc (wc.alloc (.cells #[.slice (some ⟨s + 1 + 1, 0, none⟩) 2 2] t3)) := (Kept.refl _ _).alloc _
  generalize wc.alloc (.cells #[.slice (some ⟨s + 1 + 1, 0, none⟩) 2 2] t3) = wd at *
  have hob' := (kd.block (s + 1) (by omega) (fun f => f)).trans ((kc.block (s + 1) (by omega) (fun f => f)).trans hob)
  have hoc' := (kd.block (s + 1 + 1) (by omega) (fun f => f)).trans hoc
  refine ⟨(Elems.block Ob.three (xs := [⟨1, false, 0⟩]) hob' rfl (by decide)).more (by omega), ⟨(Elems.block Pr.one (xs := [⟨some ⟨s + 1 + 1, 0, none⟩, 2, [⟨1, 0, 0, -1, false⟩, ⟨3, 0, 0, 0, false⟩]⟩]) hod rfl (by show 1 ≤ maxLen; decide)).more (by omega), fun p hp => ?_⟩, Elems.nil⟩
  simp only [plainSc, List.mem_cons, List.not_mem_nil, or_false] at hp
  subst hp
  exact (Elems.block Cl.five (xs := [⟨1, 0, 0, -1, false⟩, ⟨3, 0, 0, 0, false⟩]) hoc' rfl (by decide)).more (by omega)

theorem plain_any (w : World) : Calls Try.prog 19 #[] w fun e w' => e = .returned (plainSc w.heap.size).agg ∧ Lies w' (w.heap.size + 4) (plainSc w.heap.size) ∧ w.heap.size + 4 ≤ w'.heap.size ∧ Kept (fun _ => False) w w' := by
  go_enter Try.func19, Try.ntmps19
  go_wp2_with fail
  go_returns
  exact ⟨rfl, plain_lies w _ _ _ _, by simp, ((((Kept.refl _ w).alloc _).alloc _).alloc _).alloc _⟩

theorem progUp_any (w : World) : Calls Try.prog 8 #[] w fun e w' => e = .returned (.bool true) ∧ Kept (fun _ => False) w w' := by
  have hq : ∀ (w : World) (a b : Int), (binOp .eql 30 (.iface 42 (.int .i64 a)) (.iface 42 (.int .i64 b))).run Try.prog w = .ok (.bool (a == b)) w := eql_codes
  go_enter Try.func8, Try.ntmps8
  go_wp2_with fail
  refine (plain_any _).mono ?_
  rintro e w1 ⟨rfl, hl, hz, hk⟩
  have HK := Lib.hid hk
  have HL := Lib.hid hl
  clear hk hl
  go_wp2_with fail
  refine (check_small HL.out hz (plain_small _) true (plain_good _)).mono ?_
  rintro e w2 ⟨rfl, hk2⟩
  have HK2 := Lib.hid (HK.out.trans hk2 (fun _ _ f => f))
  clear hk2
  go_wp2_with fail
  refine (check_small (x := noSc) (noSc_lies w2 0) (Nat.zero_le _) (by decide) false (by decide)).mono ?_
  rintro e w3 ⟨rfl, hk3⟩
  have HK3 := Lib.hid (HK2.out.trans hk3 (fun _ _ f => f))
  clear hk3
  go_wp2_with fail
  refine (of_any 9 _ _ rfl).mono ?_
  rintro e wx ⟨rfl, rfl⟩
  go_wp2_with fail
  go_ret
  exact ⟨rfl, HK3.out⟩

end Go.Proofs.Ytgdagmiiobbeeaa
