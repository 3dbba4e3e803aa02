/-
  What the program's calls on its table come to: shapeOf, opOf, tells, goes.
  Conditions: the table lies as the program's text lays it; strings of at most 100000 bytes.
-/
import Derived.Test.YtdkableaooaebaaDoorMicBase
import Derived.Test.YtdkableaooaebaaDoorLineMem
namespace Go.Proofs.YtdkableaooaebaaDoor
open Go.RowKit

/-- The shape of an instruction, if there is one. -/
def ShapeTo (w : World) (op : Int) (e : Ending) (w' : World) : Prop :=
  ∃ (i : Nat) (ok : Bool), e = .returned (.tuple #[shV i, .bool ok]) ∧ i ≤ 22 ∧ ((1 ≤ op ∧ op ≤ 22 ∧ (i : Int) = op ∧ ok = true) ∨ (¬ (1 ≤ op ∧ op ≤ 22) ∧ i = 0 ∧ ok = false)) ∧ Kept (fun _ => False) w w'
theorem sh_at (i : Nat) (hi : i ≤ 22) : shCells[3 * i]? = some (.string (strS (wordAt i))) ∧ shCells[3 * i + 1]? = some (.string (strS (hasAt i))) ∧ shCells[3 * i + 2]? = some (.int .i64 (behindAt i)) := by
  have : i = 0 ∨ i = 1 ∨ i = 2 ∨ i = 3 ∨ i = 4 ∨ i = 5 ∨ i = 6 ∨ i = 7 ∨ i = 8 ∨ i = 9 ∨ i = 10 ∨ i = 11 ∨ i = 12 ∨ i = 13 ∨ i = 14 ∨ i = 15 ∨ i = 16 ∨ i = 17 ∨ i = 18 ∨ i = 19 ∨ i = 20 ∨ i = 21 ∨ i = 22 := by omega
  rcases this with rfl | rfl | rfl | rfl | rfl | rfl | rfl | rfl | rfl | rfl | rfl | rfl | rfl | rfl | rfl | rfl | rfl | rfl | rfl | rfl | rfl | rfl | rfl <;> exact ⟨rfl, rfl, rfl⟩

set_option maxHeartbeats 1000000 in
theorem shapeOf_any (op : Int) (w : World) (hL : Laid w) (h0 : -9223372036854775808 ≤ op) (h1 : op ≤ 9223372036854775807) : Calls Tryd.prog 39 #[.int .i64 op] w (ShapeTo w op) := by
  by_cases h : 1 ≤ op ∧ op ≤ 22
  · obtain ⟨i, hi⟩ : ∃ i : Nat, op = i := ⟨op.toNat, by omega⟩
    subst hi
    obtain ⟨s0, s1, s2⟩ := sh_at i (by omega)
    have c : ∀ (o : Obj) (k : Nat) v, shCells[k]? = some v → (w.alloc o).cell? ⟨0, k, none⟩ = some v := fun o k v hv => (hL.on0 ((Kept.refl _ w).alloc o)).shapes k v hv
    have c0 := fun o => c o _ _ s0
    have c1 := fun o => c o _ _ s1
    have c2 := fun o => c o _ _ s2
    rw [Nat.mul_comm] at c0 c1 c2
    have n1 : ¬ (i : Int) < 1 := by omega
    have n2 : ¬ (22 : Int) < (i : Int) := by omega
    have n3 : (i : Int) < 23 := by omega
    have n4 : (0 : Int) ≤ (i : Int) := by omega
    have HF : Hid (∀ w', Kept (fun _ => False) w w' → ShapeTo w i (.returned (.tuple #[shV i, .bool true])) w') := Lib.hid (fun w' hk => ⟨i, true, rfl, by omega, .inl ⟨h.1, h.2, rfl, rfl⟩, hk⟩)
    clear s0 s1 s2 hL c h
    go_enter Tryd.func39, Tryd.ntmps39
    go_wp2_with fail
    exact bodyPost_ret (v := .tuple #[shV i, .bool true]) (by simp [results, Tryd.results39, go_sem]) rfl (HF.out _ ((Kept.refl _ w).alloc _))
  · have HF : Hid (∀ w', Kept (fun _ => False) w w' → ShapeTo w op (.returned (.tuple #[shV 0, .bool false])) w') := Lib.hid (fun w' hk => ⟨0, false, rfl, by omega, .inr ⟨h, rfl, rfl⟩, hk⟩)
    clear hL
    by_cases h2 : op < 1
    · clear h
      go_enter Tryd.func39, Tryd.ntmps39
      go_wp2_with fail
      exact bodyPost_ret (v := .tuple #[shV 0, .bool false]) (by simp [results, Tryd.results39, go_sem]; exact ⟨rfl, rfl, rfl⟩) rfl (HF.out _ ((Kept.refl _ w).alloc _))
    · have h3 : (22 : Int) < op := by omega
      clear h
      go_enter Tryd.func39, Tryd.ntmps39
      go_wp2_with fail
      exact bodyPost_ret (v := .tuple #[shV 0, .bool false]) (by simp [results, Tryd.results39, go_sem]; exact ⟨rfl, rfl, rfl⟩) rfl (HF.out _ ((Kept.refl _ w).alloc _))

/-- Whether a shape has the thing of a letter. -/
def hasC (i : Nat) (c : UInt8) : Bool := (hasAt i).any (fun d => d.toNat == c.toNat)
theorem tells_any (i : Nat) (c : UInt8) (w : World) : Calls Tryd.prog 49 #[shV i, .int .u8 c.toNat] w fun e w' => e = .returned (.bool (hasC i c)) ∧ Kept (fun _ => False) w w' := by
  have h := byte_in (hasAt i) c
  have HB : Hid (hasC i c = decide (Lib.indexByte (hasAt i) c ≥ 0)) := Lib.hid h.symm
  clear h
  obtain ⟨b, hb⟩ : ∃ b, Lib.indexByte (hasAt i) c = b := ⟨_, rfl⟩
  have HI : Hid (∀ w', Calls Tryd.prog 59 #[.string (strS (hasAt i)), .int .u8 c.toNat] w' fun e w'' => e = .returned (.int .i64 b) ∧ w'' = w') := Lib.hid (fun w' => by
    have := index_any (strS (hasAt i)) c w'
    rw [bytesS_str, hb] at this
    exact this)
  rw [hb] at HB
  clear hb
  go_enter Tryd.func49, Tryd.ntmps49
  go_wp2_with fail
  refine (HI.out _).mono ?_
  rintro e wx ⟨rfl, rfl⟩
  go_wp2_with fail
  go_ret
  exact ⟨ret_bool HB.out.symm, (Kept.refl _ w).alloc _⟩

end Go.Proofs.YtdkableaooaebaaDoor
