/-
  What the program's opOf comes to.
  Conditions: the table lies as the program's text lays it.
-/
import Derived.Test.YtlhnbihpefgcbaaGreatDoorInsShape
namespace Go.Proofs.YtlhnbihpefgcbaaGreatDoor
open Go.RowKit

section
variable {P : Program} {ops : Array Oper} {rest : List Oper} {o : Oper} {a : Act} {w : World} {Q : Exit → Act → World → Prop}
/-- A load whose value is known as a whole. -/
theorem wpList_load {T : TypeId} {x : Operand} {v : Value} (hgd : o.guard = none) (ho : o.op = .load T x) (hrun : (Instr.loadAt T (a.eval x)).run P w = .ok v w) (h : wpList P ops Q rest (a.put o.dst v) w) : wpList P ops Q (o :: rest) a w := by
  refine wpList_plain hgd fun _ hK => ?_
  unfold Oper.wp execOp
  simp only [ho, Sem.run_bind, Sem.run_pure, Result.andThen_ok, hrun]
  exact hK _ _ h
/-- An element of an array by value. -/
theorem wpList_index {T : TypeId} {x i : Operand} {v : Value} (hgd : o.guard = none) (ho : o.op = .index T x i) (hrun : (Instr.index T (a.eval x) (a.eval i)).run P w = .ok v w) (h : wpList P ops Q rest (a.put o.dst v) w) : wpList P ops Q (o :: rest) a w := by
  refine wpList_plain hgd fun _ hK => ?_
  unfold Oper.wp execOp
  simp only [ho, Sem.run_bind, Sem.run_pure, Result.andThen_ok, hrun]
  exact hK _ _ h
end

theorem shapes_load {w : World} (hL : Laid w) : (Instr.loadAt 149 (.pointer (some ⟨4, 0, none⟩))).run Tryz.prog w = .ok (.agg shCells.toArray) w := by
  have h := run_loadCells_list (P := Tryz.prog) (w := w) ⟨4, 0, none⟩ shCells (fun j v hj => by
    have := hL.shapes j v hj
    have e : (⟨4, 0, none⟩ : Addr).add j = ⟨4, j, none⟩ := by
      simp [Addr.add]
      intro h; exact h.symm
    rw [e]; exact this)
  have hl : shCells.length = 69 := rfl
  rw [hl] at h
  have hs : (sizeOf 149).run Tryz.prog w = .ok 69 w := by kernel_rfl
  have ha : (isAgg 149).run Tryz.prog w = .ok true w := by kernel_rfl
  simp only [Instr.loadAt, Instr.sureAddr, loadVar, Sem.run_bind, Sem.run_pure, Result.andThen_ok, ha, hs, h, if_true]
theorem shapes_index (i : Nat) (hi : i ≤ 22) (w : World) : (Instr.index 149 (.agg shCells.toArray) (.int .i64 i)).run Tryz.prog w = .ok (shV i) w := by
  have : i = 0 ∨ i = 1 ∨ i = 2 ∨ i = 3 ∨ i = 4 ∨ i = 5 ∨ i = 6 ∨ i = 7 ∨ i = 8 ∨ i = 9 ∨ i = 10 ∨ i = 11 ∨ i = 12 ∨ i = 13 ∨ i = 14 ∨ i = 15 ∨ i = 16 ∨ i = 17 ∨ i = 18 ∨ i = 19 ∨ i = 20 ∨ i = 21 ∨ i = 22 := by omega
  rcases this with rfl | rfl | rfl | rfl | rfl | rfl | rfl | rfl | rfl | rfl | rfl | rfl | rfl | rfl | rfl | rfl | rfl | rfl | rfl | rfl | rfl | rfl | rfl <;> (show _ = _; kernel_rfl)

def opL (l : Str) : Nat := ((List.range 23).find? (fun i => wordAt i == l)).getD 0
theorem opL_at {l : Str} {k : Nat} (hk : k ≤ 22) (h : wordAt k = l) (hno : ∀ j, j < k → wordAt j ≠ l) : opL l = k := by
  unfold opL
  have e : (List.range 23).find? (fun i => wordAt i == l) = some k := by
    rw [List.find?_eq_some_iff_append]
    refine ⟨by rw [beq_iff_eq]; exact h, List.range k, (List.range (22 - k)).map (· + (k + 1)), ?_, fun j hj => ?_⟩
    · have : 23 = k + (1 + (22 - k)) := by omega
      conv => lhs; rw [this, List.range_add, List.range_add]
      simp [List.map_map, Function.comp_def, Nat.add_comm, Nat.add_left_comm]
    · rw [List.mem_range] at hj
      simpa using hno j hj
  rw [e]; rfl
theorem opL_none {l : Str} (hno : ∀ j, j < 23 → wordAt j ≠ l) : opL l = 0 := by
  unfold opL
  have e : (List.range 23).find? (fun i => wordAt i == l) = none := by
    rw [List.find?_eq_none]
    intro j hj
    rw [List.mem_range] at hj
    simpa using hno j hj
  rw [e]; rfl

set_option maxRecDepth 100000 in
set_option maxHeartbeats 1000000 in
theorem opOf_any (s : ByteArray) (w : World) (hL : Laid w) : Calls Tryz.prog 63 #[.string s] w fun e w' => e = .returned (.int .i64 (opL (bytesS s))) ∧ Kept (fun _ => False) w w' := by
  obtain ⟨A, h1, h2⟩ : ∃ A, (Instr.loadAt 149 (.pointer (some ⟨4, 0, none⟩))).run Tryz.prog w = .ok A w ∧ ∀ (i : Nat), i ≤ 22 → ∀ w', (Instr.index 149 A (.int .i64 i)).run Tryz.prog w' = .ok (shV i) w' := ⟨_, shapes_load hL, fun i hi w' => shapes_index i hi w'⟩
  have H1 := Lib.hid h1
  have H2 := Lib.hid h2
  clear h1 h2 hL
  go_enter Tryz.func63, Tryz.ntmps63
  go_wp2_with (refine wpList_load rfl rfl H1.out ?_)
  go_loopw [6] (fun i wr => ∃ k : Nat, i = .int .i64 k ∧ k ≤ 23 ∧ (∀ j : Nat, j < k → wordAt j ≠ bytesS s) ∧ Kept (fun _ => False) w wr) (fun i _ => 23 - (intOf i).toNat)
  case atStart => exact ⟨0, rfl, by omega, (fun j h => by omega), Kept.refl _ _⟩
  case round =>
    obtain ⟨k, rfl, hk, hall, hkept⟩ := hrel
    have HALL := Lib.hid hall
    have HK := Lib.hid hkept
    clear hall hkept
    by_cases hks : k < 23
    · have hks' : (k : Int) < 23 := by omega
      have HI := Lib.hid (H2.out k (by omega))
      have heq := str_eq (strS (wordAt k)) (bytesS s)
      rw [strS_bytes, bytesS_str] at heq
      have HK1 := Lib.hid (HK.out.alloc (.cells #[.string (strS (wordAt k)), .string (strS (hasAt k)), .int .i64 (behindAt k)] 130))
      by_cases he : wordAt k = bytesS s
      · rw [decide_eq_true he] at heq
        have HR : Hid (opL (bytesS s) = k) := Lib.hid (opL_at (by omega) he HALL.out)
        clear he
        go_wp2_with (refine wpList_index rfl rfl (HI.out _) ?_)
        go_ret
        exact ⟨by rw [HR.out]; rfl, HK1.out⟩
      · rw [decide_eq_false he] at heq
        have HF : Hid (∀ j : Nat, j < k + 1 → wordAt j ≠ bytesS s) := Lib.hid (fun j hj => by
          rcases Nat.lt_or_ge j k with h | h
          · exact HALL.out j h
          · obtain rfl : j = k := by omega
            exact he)
        clear he
        go_wp2_with (refine wpList_index rfl rfl (HI.out _) ?_)
        go_roundw
        case rel => exact ⟨k + 1, by go_num, by omega, HF.out, HK1.out⟩
        case measure => simp [intOf]; omega
    · obtain rfl : k = 23 := by omega
      have HR : Hid (opL (bytesS s) = 0) := Lib.hid (opL_none HALL.out)
      go_wp2_with fail
      go_ret
      exact ⟨by rw [HR.out]; rfl, HK.out⟩

end Go.Proofs.YtlhnbihpefgcbaaGreatDoor
