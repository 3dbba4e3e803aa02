/-
  The statements' own tests of frames and marks: those that are the same are found so.
  Conditions: both rows hold the same.
-/
import Derived.Test.YtdkableaooaebaaDoorMicM
import Derived.Test.YtdkableaooaebaaDoorRowOwn
import Derived.LoopTactic
import Derived.Deep.QuietTactic
import Derived.BigQuiet
import Derived.Outline
import Derived.ChangeKeysEq
namespace Go.Proofs.YtdkableaooaebaaDoor
open Go.RowKit
set_option linter.unusedVariables false

@[reducible] def Fr.agg (f : Fr) : Value := .agg #[.int .i64 f.pc, .int .i64 (f.r 0), .int .i64 (f.r 1), .int .i64 (f.r 2), .int .i64 (f.r 3), .int .i64 (f.r 4), .int .i64 (f.r 5), .int .i64 (f.r 6), .int .i64 (f.r 7), .int .i64 (f.r 8), .int .i64 (f.r 9), .int .i64 (f.r 10), .int .i64 (f.r 11), .int .i64 (f.r 12), .int .i64 (f.r 13), .int .i64 (f.r 14), .int .i64 (f.r 15)]

@[reducible] def Fr.regs (f : Fr) : Value := .agg #[.int .i64 (f.r 0), .int .i64 (f.r 1), .int .i64 (f.r 2), .int .i64 (f.r 3), .int .i64 (f.r 4), .int .i64 (f.r 5), .int .i64 (f.r 6), .int .i64 (f.r 7), .int .i64 (f.r 8), .int .i64 (f.r 9), .int .i64 (f.r 10), .int .i64 (f.r 11), .int .i64 (f.r 12), .int .i64 (f.r 13), .int .i64 (f.r 14), .int .i64 (f.r 15)]
theorem eq_regs (f : Fr) (w : World) : (Op.equalIn 9999 58 f.regs f.regs).run Tryd.prog w = .ok true w := by
  have u2 := Tryd.underlying2
  have a2 := Tryd.isAgg2
  have z2 := Tryd.sizeOf2
  obtain ⟨i, hi⟩ : ∃ i, Tryd.prog.info? 2 = some i := info_of_underlying u2
  have hc : Tryd.prog.cellsOf 2 = 1 := by kernel_rfl
  unfold Fr.regs
  rw [show (9999 : Nat) = 9998 + 1 from rfl, run_equalIn_array w 9998 _ _ Tryd.underlying58 hi, hc, show List.range 16 = [0, 1, 2, 3, 4, 5, 6, 7, 8, 9, 10, 11, 12, 13, 14, 15] from rfl]
  simp only [Op.eqItems]
  go_simp
theorem eq_frame (f : Fr) (w : World) : (Op.equalIn 10000 60 f.agg f.agg).run Tryd.prog w = .ok true w := by
  have u4 := Tryd.underlying3
  have a4 := Tryd.isAgg3
  have z4 := Tryd.sizeOf3
  have u2 := Tryd.underlying2
  have a2 := Tryd.isAgg2
  have z2 := Tryd.sizeOf2
  have hS : Tryd.prog.underlying 60 = some (.struct (Tryd.prog.fieldsOf 60)) := by kernel_rfl
  have hp : Tryd.prog.stoodInHeld 60 = false := by kernel_rfl
  have hr := eq_regs f w
  unfold Fr.regs at hr
  unfold Fr.agg
  rw [show (10000 : Nat) = 9999 + 1 from rfl, run_equalIn_agg w 9999 60 _ _ hS hp]
  simp only [Program.fieldsOf, Tryd.underlying60]
  go_simp
theorem eq_note (x : Nt) (w : World) : (Op.equalIn 10000 78 (.agg #[.int .i64 x.kind, .int .i64 x.value]) (.agg #[.int .i64 x.kind, .int .i64 x.value])).run Tryd.prog w = .ok true w := by
  have u4 := Tryd.underlying3
  have u2 := Tryd.underlying2
  have a4 := Tryd.isAgg3
  have z4 := Tryd.sizeOf3
  have a2 := Tryd.isAgg2
  have z2 := Tryd.sizeOf2
  have hS : Tryd.prog.underlying 78 = some (.struct (Tryd.prog.fieldsOf 78)) := by kernel_rfl
  have hp : Tryd.prog.stoodInHeld 78 = false := by kernel_rfl
  rw [show (10000 : Nat) = 9999 + 1 from rfl, run_equalIn_agg w 9999 78 _ _ hS hp]
  simp only [Program.fieldsOf, Tryd.underlying78]
  go_simp
theorem eq_ins (x : Ix) (w : World) : (Op.equalIn 10000 46 x.agg x.agg).run Tryd.prog w = .ok true w := by
  have u4 := Tryd.underlying3
  have u2 := Tryd.underlying2
  have a4 := Tryd.isAgg3
  have z4 := Tryd.sizeOf3
  have a2 := Tryd.isAgg2
  have z2 := Tryd.sizeOf2
  have hS : Tryd.prog.underlying 46 = some (.struct (Tryd.prog.fieldsOf 46)) := by kernel_rfl
  have hp : Tryd.prog.stoodInHeld 46 = false := by kernel_rfl
  unfold Ix.agg
  rw [show (10000 : Nat) = 9999 + 1 from rfl, run_equalIn_agg w 9999 46 _ _ hS hp]
  simp only [Program.fieldsOf, Tryd.underlying46]
  go_simp


theorem neq_frame (f : Fr) (w : World) : (binOp .neq 60 f.agg f.agg).run Tryd.prog w = .ok (.bool false) w := by
  have h := eq_frame f w
  unfold Fr.agg at h ⊢
  rw [run_neq_struct, h]
  rfl

/-- A row's element, cell by cell. -/
theorem row_frame {w : World} {g c : Nat} {fs : List Fr} {i : Nat} {f : Fr} (h : Row w g c 60 17 Fr.cells fs) (hi : fs[i]? = some f) : w.cell? ⟨g, i * 17, none⟩ = some (.int .i64 f.pc) ∧ w.cell? ⟨g, i * 17 + 1, none⟩ = some (.int .i64 (f.r 0)) ∧ w.cell? ⟨g, i * 17 + 2, none⟩ = some (.int .i64 (f.r 1)) ∧
    w.cell? ⟨g, i * 17 + 3, none⟩ = some (.int .i64 (f.r 2)) ∧ w.cell? ⟨g, i * 17 + 4, none⟩ = some (.int .i64 (f.r 3)) ∧ w.cell? ⟨g, i * 17 + 5, none⟩ = some (.int .i64 (f.r 4)) ∧ w.cell? ⟨g, i * 17 + 6, none⟩ = some (.int .i64 (f.r 5)) ∧
    w.cell? ⟨g, i * 17 + 7, none⟩ = some (.int .i64 (f.r 6)) ∧ w.cell? ⟨g, i * 17 + 8, none⟩ = some (.int .i64 (f.r 7)) ∧ w.cell? ⟨g, i * 17 + 9, none⟩ = some (.int .i64 (f.r 8)) ∧ w.cell? ⟨g, i * 17 + 10, none⟩ = some (.int .i64 (f.r 9)) ∧
    w.cell? ⟨g, i * 17 + 11, none⟩ = some (.int .i64 (f.r 10)) ∧ w.cell? ⟨g, i * 17 + 12, none⟩ = some (.int .i64 (f.r 11)) ∧ w.cell? ⟨g, i * 17 + 13, none⟩ = some (.int .i64 (f.r 12)) ∧ w.cell? ⟨g, i * 17 + 14, none⟩ = some (.int .i64 (f.r 13)) ∧
    w.cell? ⟨g, i * 17 + 15, none⟩ = some (.int .i64 (f.r 14)) ∧ w.cell? ⟨g, i * 17 + 16, none⟩ = some (.int .i64 (f.r 15)) := by
  have q : ∀ j v, f.cells[j]? = some v → w.cell? ⟨g, i * 17 + j, none⟩ = some v := fun j v hj => h.cell Fr.len hi hj
  exact ⟨q 0 _ rfl, q 1 _ rfl, q 2 _ rfl, q 3 _ rfl, q 4 _ rfl, q 5 _ rfl, q 6 _ rfl, q 7 _ rfl, q 8 _ rfl, q 9 _ rfl, q 10 _ rfl, q 11 _ rfl, q 12 _ rfl, q 13 _ rfl, q 14 _ rfl, q 15 _ rfl, q 16 _ rfl⟩

set_option maxHeartbeats 4000000 in
set_option maxRecDepth 100000 in
theorem same_any {w : World} {g c g' c' : Nat} (fs : List Fr) (n : Nat) (hn : fs.length = n) (hl : n ≤ 16) (h : Row w g c 60 17 Fr.cells fs) (h' : Row w g' c' 60 17 Fr.cells fs) :
    Calls Tryd.prog 16 #[.slice (some ⟨g, 0, none⟩) n c, .slice (some ⟨g', 0, none⟩) n c'] w fun e w' => e = .returned (.bool true) ∧ Kept (fun _ => False) w w' := by
  have HP : Hid (∀ w' i f, Kept (fun _ => False) w w' → fs[i]? = some f → _ ∧ _) := Lib.hid (fun w' i f hk hi => And.intro (row_frame (h.kept hk (fun f => f)) hi) (row_frame (h'.kept hk (fun f => f)) hi))
  have HNE := Lib.hid neq_frame
  clear h h'
  go_enter Tryd.func16, Tryd.ntmps16
  go_wp2_with fail
  go_loopw [5] (fun i wr => ∃ k : Nat, i = .int .i64 k ∧ k ≤ n ∧ Kept (fun _ => False) w wr) (fun i _ => n - (intOf i).toNat)
  case atStart => exact ⟨0, rfl, by omega, Kept.refl _ _⟩
  case round =>
    obtain ⟨k, rfl, hk1, hk⟩ := hrel
    have HK := Lib.hid hk; clear hk
    by_cases hkk : k < n
    · obtain ⟨f, hf⟩ : ∃ f, fs[k]? = some f := ⟨_, List.getElem?_eq_getElem (by omega)⟩
      obtain ⟨⟨x0, x1, x2, x3, x4, x5, x6, x7, x8, x9, x10, x11, x12, x13, x14, x15, x16⟩, y0, y1, y2, y3, y4, y5, y6, y7, y8, y9, y10, y11, y12, y13, y14, y15, y16⟩ := HP.out wr k f HK.out hf
      have hne := HNE.out f
      clear hf
      have k0 : (0 : Int) ≤ (k : Int) := by omega
      have k1 : (k : Int) < (n : Int) := by omega
      clear hkk
      go_wp2_with fail
      go_quiet (fail)
      go_wp2_with fail
      go_roundw
      case rel => exact ⟨k + 1, by go_num, by omega, HK.out.drewN _⟩
      case measure => simp [intOf]; omega
    · have k1 : ¬ ((k : Int) < (n : Int)) := by omega
      go_wp2_with fail
      go_ret
      exact ⟨rfl, HK.out⟩

theorem neq_note (x : Nt) (w : World) : (binOp .neq 78 (.agg #[.int .i64 x.kind, .int .i64 x.value]) (.agg #[.int .i64 x.kind, .int .i64 x.value])).run Tryd.prog w = .ok (.bool false) w := by
  have h := eq_note x w
  rw [run_neq_struct, h]
  rfl
theorem notes_row {w : World} {no : Option Addr} {n nc : Nat} {xs : List Nt} (h : w.ownsRow 0 78 2 (.slice no n nc) n (flat Nt.cells xs)) (hn : xs.length = n) (h0 : 0 < n) : ∃ g, no = some ⟨g, 0, none⟩ ∧ Row w g nc 78 2 Nt.cells xs := by
  rcases h.2 with ⟨_, h1⟩ | ⟨g, cap, cur, he, rest⟩
  · omega
  · simp only [Value.slice.injEq, true_and] at he
    obtain ⟨rfl, rfl⟩ := he
    exact ⟨g, rfl, Row.made hn.symm ⟨h.1, .inr ⟨g, nc, cur, rfl, rest⟩⟩⟩
theorem row_note {w : World} {g c : Nat} {xs : List Nt} {i : Nat} {x : Nt} (h : Row w g c 78 2 Nt.cells xs) (hi : xs[i]? = some x) : w.cell? ⟨g, i * 2, none⟩ = some (.int .i64 x.kind) ∧ w.cell? ⟨g, i * 2 + 1, none⟩ = some (.int .i64 x.value) :=
  ⟨h.cell Nt.two hi (j := 0) rfl, h.cell Nt.two hi (j := 1) rfl⟩

set_option maxHeartbeats 4000000 in
set_option maxRecDepth 100000 in
theorem sameNotes_any {w : World} {no no' : Option Addr} {c c' : Nat} (xs : List Nt) (n : Nat) (hn : xs.length = n) (hl : n ≤ 1000000) (h : w.ownsRow 0 78 2 (.slice no n c) n (flat Nt.cells xs)) (h' : w.ownsRow 0 78 2 (.slice no' n c') n (flat Nt.cells xs)) :
    Calls Tryd.prog 17 #[.slice no n c, .slice no' n c'] w fun e w' => e = .returned (.bool true) ∧ Kept (fun _ => False) w w' := by
  by_cases h0 : n = 0
  · subst h0
    clear h h'
    go_enter Tryd.func17, Tryd.ntmps17
    go_wp2_with fail
    go_loopw [5] (fun i wr => i = .int .i64 0 ∧ wr = w) (fun _ _ => 0)
    case atStart => exact ⟨rfl, rfl⟩
    case round =>
      obtain ⟨rfl, rfl⟩ := hrel
      go_wp2_with fail
      go_ret
      exact ⟨rfl, Kept.refl _ _⟩
  obtain ⟨g, rfl, hr⟩ := notes_row h hn (by omega)
  obtain ⟨g', rfl, hr'⟩ := notes_row h' hn (by omega)
  have HP : Hid (∀ w' i f, Kept (fun _ => False) w w' → xs[i]? = some f → _ ∧ _) := Lib.hid (fun w' i f hk hi => And.intro (row_note (hr.kept hk (fun f => f)) hi) (row_note (hr'.kept hk (fun f => f)) hi))
  have HNE := Lib.hid neq_note
  clear h h' hr hr' h0
  go_enter Tryd.func17, Tryd.ntmps17
  go_wp2_with fail
  go_loopw [5] (fun i wr => ∃ k : Nat, i = .int .i64 k ∧ k ≤ n ∧ Kept (fun _ => False) w wr) (fun i _ => n - (intOf i).toNat)
  case atStart => exact ⟨0, rfl, by omega, Kept.refl _ _⟩
  case round =>
    obtain ⟨k, rfl, hk1, hk⟩ := hrel
    have HK := Lib.hid hk; clear hk
    by_cases hkk : k < n
    · obtain ⟨f, hf⟩ : ∃ f, xs[k]? = some f := ⟨_, List.getElem?_eq_getElem (by omega)⟩
      obtain ⟨⟨x0, x1⟩, y0, y1⟩ := HP.out wr k f HK.out hf
      have hne := HNE.out f
      clear hf
      have k0 : (0 : Int) ≤ (k : Int) := by omega
      have k1 : (k : Int) < (n : Int) := by omega
      clear hkk
      go_wp2_with fail
      go_quiet (fail)
      go_wp2_with fail
      go_roundw
      case rel => exact ⟨k + 1, by go_num, by omega, HK.out.drewN _⟩
      case measure => simp [intOf]; omega
    · have k1 : ¬ ((k : Int) < (n : Int)) := by omega
      go_wp2_with fail
      go_ret
      exact ⟨rfl, HK.out⟩

end Go.Proofs.YtdkableaooaebaaDoor
