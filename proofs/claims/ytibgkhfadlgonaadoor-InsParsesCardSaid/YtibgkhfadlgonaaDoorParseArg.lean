/-
  The document's Parse: one of the things that an instruction has.
  Conditions: the words lie in blocks that were there.
-/
import Derived.Test.YtibgkhfadlgonaaDoorParseKit
namespace Go.Proofs.YtibgkhfadlgonaaDoor
open Go.RowKit

section
variable {w wr : World} {g off n c i : Nat} {s t : ByteArray} {v : Str} {y : Ln} {x nv : Int} {nb mb : Bool} {v7 v8 v9 : Value} {u : Nat → Value} {Q : Exit → Act → World → Prop} {l : Str}

/-- What the three calls come to at the word v. -/
structure WordIs (v : Str) (x nv : Int) (nb mb : Bool) : Prop where
  reg : (regL v).getD (-1) = x
  num : (numL v).getD 0 = nv
  is : (numL v).isSome = nb
  name : isName v = mb
theorem WordIs.calls {v : Str} {x nv : Int} {nb mb : Bool} (h : WordIs v x nv nb mb) (hv : v.length ≤ 100000) :
    (∀ w, Calls Tryd.prog 18 #[.string (strS v)] w fun e w' => e = .returned (.int .i64 x) ∧ Kept (fun _ => False) w w') ∧
    (∀ w, Calls Tryd.prog 19 #[.string (strS v)] w fun e w' => e = .returned (.tuple #[.int .i64 nv, .bool nb]) ∧ w = w') ∧
    (∀ w, Calls Tryd.prog 14 #[.string (strS v)] w fun e w' => e = .returned (.bool mb) ∧ w = w') := by
  have hs : (strS v).size ≤ 9223372036854775807 := by rw [strS_size]; omega
  refine ⟨fun w => ?_, fun w => ?_, fun w => ?_⟩
  · refine (refReg_any (strS v) w).mono fun e w' hh => ?_
    rw [← h.reg]; exact hh
  · refine (refNumber_any (strS v) w hs).mono fun e w' hh => ?_
    rw [← h.num, ← h.is]; exact hh
  · refine (refName_any (strS v) w hs).mono fun e w' hh => ?_
    rw [← h.name]; exact hh

set_option maxHeartbeats 4000000 in
set_option maxRecDepth 100000 in
theorem arg_A_good (hv : VarL w wr y) (hcell : wr.cell? ⟨g, off + (i + 1), none⟩ = some (.string (strS v))) (hg : ∀ w', Kept (fun _ => False) wr w' → w'.cell? ⟨g, off + (i + 1), none⟩ = some (.string (strS v))) (hi : i < t.size) (hK : t[i].toNat = 65) (hin : i + 1 < n) (ht : t.size ≤ 1000)
    (hw : WordIs v x nv nb mb) (hvl : v.length ≤ 100000) (hx : 0 ≤ x)
    (hnext : Hid (∀ a' w', (∃ u', a' = frP s w.heap.size (.slice (some ⟨g, off, none⟩) n c) v7 v8 v9 (.string t) (.int .i64 ((i : Int) + 1)) u') → VarL w w' { y with a := x } → Kept (fun q => q = w.heap.size + 1) wr w' → Q .normal a' w')) :
    Code.wp Tryd.prog parseD Q (frP s w.heap.size (.slice (some ⟨g, off, none⟩) n c) v7 v8 v9 (.string t) (.int .i64 i) u) wr := by
  obtain ⟨r1, r2, r3⟩ := hw.calls hvl
  have R1 := Lib.hid r1
  have R2 := Lib.hid r2
  have R3 := Lib.hid r3
  have HV := Lib.hid hv
  have HG := Lib.hid hg
  clear r1 r2 r3 hv hg hw hvl
  unfold frP
  conv => arg 2; whnf
  go_wp2_with fail
  refine (R1.out _).mono ?_
  rintro e w1 ⟨rfl, hk1⟩
  have HK1 := Lib.hid hk1
  have HV1 := Lib.hid (HV.out.on hk1)
  have c9 := HG.out _ hk1
  clear hk1 hcell
  go_wp2_with fail
  refine (R2.out _).mono ?_
  rintro e wx ⟨rfl, rfl⟩
  go_wp2_with fail
  refine (R3.out _).mono ?_
  rintro e wx ⟨rfl, rfl⟩
  obtain ⟨⟨c0, c1, c2, c3, c4, c5, c6⟩, ⟨f0, f1, f2, f3, f4, f5, f6⟩⟩ := cells7 HV1.out.var
  have HN2 : Hid (VarL w (w1.setCell ⟨w.heap.size + 1, 2, none⟩ (.int .i64 x)) { y with a := x }) := Lib.hid (HV1.out.set (by rfl))
  have HK2 : Hid (Kept (fun q => q = w.heap.size + 1) wr (w1.setCell ⟨w.heap.size + 1, 2, none⟩ (.int .i64 x))) := Lib.hid ((HK1.out.mono (fun _ _ f => f.elim)).setCell _ _ (fun _ => rfl))
  go_wp2_with fail
  exact hnext.out _ _ (frP_of (by kernel_rfl)) HN2.out HK2.out

set_option maxHeartbeats 4000000 in
set_option maxRecDepth 100000 in
theorem arg_A_bad (hv : VarL w wr y) (hcell : wr.cell? ⟨g, off + (i + 1), none⟩ = some (.string (strS v))) (hg : ∀ w', Kept (fun _ => False) wr w' → w'.cell? ⟨g, off + (i + 1), none⟩ = some (.string (strS v))) (hi : i < t.size) (hK : t[i].toNat = 65) (hin : i + 1 < n) (ht : t.size ≤ 1000)
    (hw : WordIs v x nv nb mb) (hvl : v.length ≤ 100000) (hx : ¬ 0 ≤ x)
    (hp : parseL l = none) (hret : Hid (RetL w l Q)) :
    Code.wp Tryd.prog parseD Q (frP s w.heap.size (.slice (some ⟨g, off, none⟩) n c) v7 v8 v9 (.string t) (.int .i64 i) u) wr := by
  obtain ⟨r1, r2, r3⟩ := hw.calls hvl
  have R1 := Lib.hid r1
  have R2 := Lib.hid r2
  have R3 := Lib.hid r3
  have HV := Lib.hid hv
  have HG := Lib.hid hg
  clear r1 r2 r3 hv hg hw hvl
  have HP := Lib.hid hp
  clear hp
  have hx2 : decide ((0 : Int) ≤ x) = false := decide_eq_false hx
  clear hx
  unfold frP
  conv => arg 2; whnf
  go_wp2_with fail
  refine (R1.out _).mono ?_
  rintro e w1 ⟨rfl, hk1⟩
  have HK1 := Lib.hid hk1
  have HV1 := Lib.hid (HV.out.on hk1)
  have c9 := HG.out _ hk1
  clear hk1 hcell
  go_wp2_with fail
  refine (R2.out _).mono ?_
  rintro e wx ⟨rfl, rfl⟩
  go_wp2_with fail
  refine (R3.out _).mono ?_
  rintro e wx ⟨rfl, rfl⟩
  obtain ⟨⟨c0, c1, c2, c3, c4, c5, c6⟩, ⟨f0, f1, f2, f3, f4, f5, f6⟩⟩ := cells7 HV1.out.var
  obtain ⟨⟨d0, d1, d2, d3, d4, d5, d6⟩, ⟨e0, e1, e2, e3, e4, e5, e6⟩⟩ := cells7 HV1.out.res
  have HN2 : Hid (VarL w (w1.setCell ⟨w.heap.size + 1, 2, none⟩ (.int .i64 x)) { y with a := x }) := Lib.hid (HV1.out.set (by rfl))
  have HF := Lib.hid (HN2.out.no HP.out)
  clear HN2
  go_wp2_with fail
  exact hret.out _ _ _ (frQ_of (by kernel_rfl)) HF.out

set_option maxHeartbeats 4000000 in
set_option maxRecDepth 100000 in
theorem arg_B_good (hv : VarL w wr y) (hcell : wr.cell? ⟨g, off + (i + 1), none⟩ = some (.string (strS v))) (hg : ∀ w', Kept (fun _ => False) wr w' → w'.cell? ⟨g, off + (i + 1), none⟩ = some (.string (strS v))) (hi : i < t.size) (hK : t[i].toNat = 66) (hin : i + 1 < n) (ht : t.size ≤ 1000)
    (hw : WordIs v x nv nb mb) (hvl : v.length ≤ 100000) (hx : 0 ≤ x)
    (hnext : Hid (∀ a' w', (∃ u', a' = frP s w.heap.size (.slice (some ⟨g, off, none⟩) n c) v7 v8 v9 (.string t) (.int .i64 ((i : Int) + 1)) u') → VarL w w' { y with b := x } → Kept (fun q => q = w.heap.size + 1) wr w' → Q .normal a' w')) :
    Code.wp Tryd.prog parseD Q (frP s w.heap.size (.slice (some ⟨g, off, none⟩) n c) v7 v8 v9 (.string t) (.int .i64 i) u) wr := by
  obtain ⟨r1, r2, r3⟩ := hw.calls hvl
  have R1 := Lib.hid r1
  have R2 := Lib.hid r2
  have R3 := Lib.hid r3
  have HV := Lib.hid hv
  have HG := Lib.hid hg
  clear r1 r2 r3 hv hg hw hvl
  unfold frP
  conv => arg 2; whnf
  go_wp2_with fail
  refine (R1.out _).mono ?_
  rintro e w1 ⟨rfl, hk1⟩
  have HK1 := Lib.hid hk1
  have HV1 := Lib.hid (HV.out.on hk1)
  have c9 := HG.out _ hk1
  clear hk1 hcell
  go_wp2_with fail
  refine (R2.out _).mono ?_
  rintro e wx ⟨rfl, rfl⟩
  go_wp2_with fail
  refine (R3.out _).mono ?_
  rintro e wx ⟨rfl, rfl⟩
  obtain ⟨⟨c0, c1, c2, c3, c4, c5, c6⟩, ⟨f0, f1, f2, f3, f4, f5, f6⟩⟩ := cells7 HV1.out.var
  have HN2 : Hid (VarL w (w1.setCell ⟨w.heap.size + 1, 3, none⟩ (.int .i64 x)) { y with b := x }) := Lib.hid (HV1.out.set (by rfl))
  have HK2 : Hid (Kept (fun q => q = w.heap.size + 1) wr (w1.setCell ⟨w.heap.size + 1, 3, none⟩ (.int .i64 x))) := Lib.hid ((HK1.out.mono (fun _ _ f => f.elim)).setCell _ _ (fun _ => rfl))
  go_wp2_with fail
  exact hnext.out _ _ (frP_of (by kernel_rfl)) HN2.out HK2.out

set_option maxHeartbeats 4000000 in
set_option maxRecDepth 100000 in
theorem arg_B_bad (hv : VarL w wr y) (hcell : wr.cell? ⟨g, off + (i + 1), none⟩ = some (.string (strS v))) (hg : ∀ w', Kept (fun _ => False) wr w' → w'.cell? ⟨g, off + (i + 1), none⟩ = some (.string (strS v))) (hi : i < t.size) (hK : t[i].toNat = 66) (hin : i + 1 < n) (ht : t.size ≤ 1000)
    (hw : WordIs v x nv nb mb) (hvl : v.length ≤ 100000) (hx : ¬ 0 ≤ x)
    (hp : parseL l = none) (hret : Hid (RetL w l Q)) :
    Code.wp Tryd.prog parseD Q (frP s w.heap.size (.slice (some ⟨g, off, none⟩) n c) v7 v8 v9 (.string t) (.int .i64 i) u) wr := by
  obtain ⟨r1, r2, r3⟩ := hw.calls hvl
  have R1 := Lib.hid r1
  have R2 := Lib.hid r2
  have R3 := Lib.hid r3
  have HV := Lib.hid hv
  have HG := Lib.hid hg
  clear r1 r2 r3 hv hg hw hvl
  have HP := Lib.hid hp
  clear hp
  have hx2 : decide ((0 : Int) ≤ x) = false := decide_eq_false hx
  clear hx
  unfold frP
  conv => arg 2; whnf
  go_wp2_with fail
  refine (R1.out _).mono ?_
  rintro e w1 ⟨rfl, hk1⟩
  have HK1 := Lib.hid hk1
  have HV1 := Lib.hid (HV.out.on hk1)
  have c9 := HG.out _ hk1
  clear hk1 hcell
  go_wp2_with fail
  refine (R2.out _).mono ?_
  rintro e wx ⟨rfl, rfl⟩
  go_wp2_with fail
  refine (R3.out _).mono ?_
  rintro e wx ⟨rfl, rfl⟩
  obtain ⟨⟨c0, c1, c2, c3, c4, c5, c6⟩, ⟨f0, f1, f2, f3, f4, f5, f6⟩⟩ := cells7 HV1.out.var
  obtain ⟨⟨d0, d1, d2, d3, d4, d5, d6⟩, ⟨e0, e1, e2, e3, e4, e5, e6⟩⟩ := cells7 HV1.out.res
  have HN2 : Hid (VarL w (w1.setCell ⟨w.heap.size + 1, 3, none⟩ (.int .i64 x)) { y with b := x }) := Lib.hid (HV1.out.set (by rfl))
  have HF := Lib.hid (HN2.out.no HP.out)
  clear HN2
  go_wp2_with fail
  exact hret.out _ _ _ (frQ_of (by kernel_rfl)) HF.out

set_option maxHeartbeats 4000000 in
set_option maxRecDepth 100000 in
theorem arg_C_good (hv : VarL w wr y) (hcell : wr.cell? ⟨g, off + (i + 1), none⟩ = some (.string (strS v))) (hg : ∀ w', Kept (fun _ => False) wr w' → w'.cell? ⟨g, off + (i + 1), none⟩ = some (.string (strS v))) (hi : i < t.size) (hK : t[i].toNat = 67) (hin : i + 1 < n) (ht : t.size ≤ 1000)
    (hw : WordIs v x nv nb mb) (hvl : v.length ≤ 100000) (hx : 0 ≤ x)
    (hnext : Hid (∀ a' w', (∃ u', a' = frP s w.heap.size (.slice (some ⟨g, off, none⟩) n c) v7 v8 v9 (.string t) (.int .i64 ((i : Int) + 1)) u') → VarL w w' { y with c := x } → Kept (fun q => q = w.heap.size + 1) wr w' → Q .normal a' w')) :
    Code.wp Tryd.prog parseD Q (frP s w.heap.size (.slice (some ⟨g, off, none⟩) n c) v7 v8 v9 (.string t) (.int .i64 i) u) wr := by
  obtain ⟨r1, r2, r3⟩ := hw.calls hvl
  have R1 := Lib.hid r1
  have R2 := Lib.hid r2
  have R3 := Lib.hid r3
  have HV := Lib.hid hv
  have HG := Lib.hid hg
  clear r1 r2 r3 hv hg hw hvl
  unfold frP
  conv => arg 2; whnf
  go_wp2_with fail
  refine (R1.out _).mono ?_
  rintro e w1 ⟨rfl, hk1⟩
  have HK1 := Lib.hid hk1
  have HV1 := Lib.hid (HV.out.on hk1)
  have c9 := HG.out _ hk1
  clear hk1 hcell
  go_wp2_with fail
  refine (R2.out _).mono ?_
  rintro e wx ⟨rfl, rfl⟩
  go_wp2_with fail
  refine (R3.out _).mono ?_
  rintro e wx ⟨rfl, rfl⟩
  obtain ⟨⟨c0, c1, c2, c3, c4, c5, c6⟩, ⟨f0, f1, f2, f3, f4, f5, f6⟩⟩ := cells7 HV1.out.var
  have HN2 : Hid (VarL w (w1.setCell ⟨w.heap.size + 1, 4, none⟩ (.int .i64 x)) { y with c := x }) := Lib.hid (HV1.out.set (by rfl))
  have HK2 : Hid (Kept (fun q => q = w.heap.size + 1) wr (w1.setCell ⟨w.heap.size + 1, 4, none⟩ (.int .i64 x))) := Lib.hid ((HK1.out.mono (fun _ _ f => f.elim)).setCell _ _ (fun _ => rfl))
  go_wp2_with fail
  exact hnext.out _ _ (frP_of (by kernel_rfl)) HN2.out HK2.out

set_option maxHeartbeats 4000000 in
set_option maxRecDepth 100000 in
theorem arg_C_bad (hv : VarL w wr y) (hcell : wr.cell? ⟨g, off + (i + 1), none⟩ = some (.string (strS v))) (hg : ∀ w', Kept (fun _ => False) wr w' → w'.cell? ⟨g, off + (i + 1), none⟩ = some (.string (strS v))) (hi : i < t.size) (hK : t[i].toNat = 67) (hin : i + 1 < n) (ht : t.size ≤ 1000)
    (hw : WordIs v x nv nb mb) (hvl : v.length ≤ 100000) (hx : ¬ 0 ≤ x)
    (hp : parseL l = none) (hret : Hid (RetL w l Q)) :
    Code.wp Tryd.prog parseD Q (frP s w.heap.size (.slice (some ⟨g, off, none⟩) n c) v7 v8 v9 (.string t) (.int .i64 i) u) wr := by
  obtain ⟨r1, r2, r3⟩ := hw.calls hvl
  have R1 := Lib.hid r1
  have R2 := Lib.hid r2
  have R3 := Lib.hid r3
  have HV := Lib.hid hv
  have HG := Lib.hid hg
  clear r1 r2 r3 hv hg hw hvl
  have HP := Lib.hid hp
  clear hp
  have hx2 : decide ((0 : Int) ≤ x) = false := decide_eq_false hx
  clear hx
  unfold frP
  conv => arg 2; whnf
  go_wp2_with fail
  refine (R1.out _).mono ?_
  rintro e w1 ⟨rfl, hk1⟩
  have HK1 := Lib.hid hk1
  have HV1 := Lib.hid (HV.out.on hk1)
  have c9 := HG.out _ hk1
  clear hk1 hcell
  go_wp2_with fail
  refine (R2.out _).mono ?_
  rintro e wx ⟨rfl, rfl⟩
  go_wp2_with fail
  refine (R3.out _).mono ?_
  rintro e wx ⟨rfl, rfl⟩
  obtain ⟨⟨c0, c1, c2, c3, c4, c5, c6⟩, ⟨f0, f1, f2, f3, f4, f5, f6⟩⟩ := cells7 HV1.out.var
  obtain ⟨⟨d0, d1, d2, d3, d4, d5, d6⟩, ⟨e0, e1, e2, e3, e4, e5, e6⟩⟩ := cells7 HV1.out.res
  have HN2 : Hid (VarL w (w1.setCell ⟨w.heap.size + 1, 4, none⟩ (.int .i64 x)) { y with c := x }) := Lib.hid (HV1.out.set (by rfl))
  have HF := Lib.hid (HN2.out.no HP.out)
  clear HN2
  go_wp2_with fail
  exact hret.out _ _ _ (frQ_of (by kernel_rfl)) HF.out

set_option maxHeartbeats 4000000 in
set_option maxRecDepth 100000 in
theorem arg_N_good (hv : VarL w wr y) (hcell : wr.cell? ⟨g, off + (i + 1), none⟩ = some (.string (strS v))) (hg : ∀ w', Kept (fun _ => False) wr w' → w'.cell? ⟨g, off + (i + 1), none⟩ = some (.string (strS v))) (hi : i < t.size) (hK : t[i].toNat = 78) (hin : i + 1 < n) (ht : t.size ≤ 1000)
    (hw : WordIs v x nv nb mb) (hvl : v.length ≤ 100000) (hb : nb = true)
    (hnext : Hid (∀ a' w', (∃ u', a' = frP s w.heap.size (.slice (some ⟨g, off, none⟩) n c) v7 v8 v9 (.string t) (.int .i64 ((i : Int) + 1)) u') → VarL w w' { y with n := nv } → Kept (fun q => q = w.heap.size + 1) wr w' → Q .normal a' w')) :
    Code.wp Tryd.prog parseD Q (frP s w.heap.size (.slice (some ⟨g, off, none⟩) n c) v7 v8 v9 (.string t) (.int .i64 i) u) wr := by
  obtain ⟨r1, r2, r3⟩ := hw.calls hvl
  have R1 := Lib.hid r1
  have R2 := Lib.hid r2
  have R3 := Lib.hid r3
  have HV := Lib.hid hv
  have HG := Lib.hid hg
  clear r1 r2 r3 hv hg hw hvl
  subst hb
  unfold frP
  conv => arg 2; whnf
  go_wp2_with fail
  refine (R1.out _).mono ?_
  rintro e w1 ⟨rfl, hk1⟩
  have HK1 := Lib.hid hk1
  have HV1 := Lib.hid (HV.out.on hk1)
  have c9 := HG.out _ hk1
  clear hk1 hcell
  go_wp2_with fail
  refine (R2.out _).mono ?_
  rintro e wx ⟨rfl, rfl⟩
  go_wp2_with fail
  refine (R3.out _).mono ?_
  rintro e wx ⟨rfl, rfl⟩
  obtain ⟨⟨c0, c1, c2, c3, c4, c5, c6⟩, ⟨f0, f1, f2, f3, f4, f5, f6⟩⟩ := cells7 HV1.out.var
  have HN2 : Hid (VarL w (w1.setCell ⟨w.heap.size + 1, 5, none⟩ (.int .i64 nv)) { y with n := nv }) := Lib.hid (HV1.out.set (by rfl))
  have HK2 : Hid (Kept (fun q => q = w.heap.size + 1) wr (w1.setCell ⟨w.heap.size + 1, 5, none⟩ (.int .i64 nv))) := Lib.hid ((HK1.out.mono (fun _ _ f => f.elim)).setCell _ _ (fun _ => rfl))
  go_wp2_with fail
  exact hnext.out _ _ (frP_of (by kernel_rfl)) HN2.out HK2.out

set_option maxHeartbeats 4000000 in
set_option maxRecDepth 100000 in
theorem arg_N_bad (hv : VarL w wr y) (hcell : wr.cell? ⟨g, off + (i + 1), none⟩ = some (.string (strS v))) (hg : ∀ w', Kept (fun _ => False) wr w' → w'.cell? ⟨g, off + (i + 1), none⟩ = some (.string (strS v))) (hi : i < t.size) (hK : t[i].toNat = 78) (hin : i + 1 < n) (ht : t.size ≤ 1000)
    (hw : WordIs v x nv nb mb) (hvl : v.length ≤ 100000) (hb : nb = false)
    (hp : parseL l = none) (hret : Hid (RetL w l Q)) :
    Code.wp Tryd.prog parseD Q (frP s w.heap.size (.slice (some ⟨g, off, none⟩) n c) v7 v8 v9 (.string t) (.int .i64 i) u) wr := by
  obtain ⟨r1, r2, r3⟩ := hw.calls hvl
  have R1 := Lib.hid r1
  have R2 := Lib.hid r2
  have R3 := Lib.hid r3
  have HV := Lib.hid hv
  have HG := Lib.hid hg
  clear r1 r2 r3 hv hg hw hvl
  subst hb
  have HP := Lib.hid hp
  clear hp
  unfold frP
  conv => arg 2; whnf
  go_wp2_with fail
  refine (R1.out _).mono ?_
  rintro e w1 ⟨rfl, hk1⟩
  have HK1 := Lib.hid hk1
  have HV1 := Lib.hid (HV.out.on hk1)
  have c9 := HG.out _ hk1
  clear hk1 hcell
  go_wp2_with fail
  refine (R2.out _).mono ?_
  rintro e wx ⟨rfl, rfl⟩
  go_wp2_with fail
  refine (R3.out _).mono ?_
  rintro e wx ⟨rfl, rfl⟩
  obtain ⟨⟨c0, c1, c2, c3, c4, c5, c6⟩, ⟨f0, f1, f2, f3, f4, f5, f6⟩⟩ := cells7 HV1.out.var
  obtain ⟨⟨d0, d1, d2, d3, d4, d5, d6⟩, ⟨e0, e1, e2, e3, e4, e5, e6⟩⟩ := cells7 HV1.out.res
  have HN2 : Hid (VarL w (w1.setCell ⟨w.heap.size + 1, 5, none⟩ (.int .i64 nv)) { y with n := nv }) := Lib.hid (HV1.out.set (by rfl))
  have HF := Lib.hid (HN2.out.no HP.out)
  clear HN2
  go_wp2_with fail
  exact hret.out _ _ _ (frQ_of (by kernel_rfl)) HF.out

set_option maxHeartbeats 4000000 in
set_option maxRecDepth 100000 in
theorem arg_T_good (hv : VarL w wr y) (hcell : wr.cell? ⟨g, off + (i + 1), none⟩ = some (.string (strS v))) (hg : ∀ w', Kept (fun _ => False) wr w' → w'.cell? ⟨g, off + (i + 1), none⟩ = some (.string (strS v))) (hi : i < t.size) (hK : t[i].toNat = 84) (hin : i + 1 < n) (ht : t.size ≤ 1000)
    (hw : WordIs v x nv nb mb) (hvl : v.length ≤ 100000) (hb : mb = true)
    (hnext : Hid (∀ a' w', (∃ u', a' = frP s w.heap.size (.slice (some ⟨g, off, none⟩) n c) v7 v8 v9 (.string t) (.int .i64 ((i : Int) + 1)) u') → VarL w w' { y with target := v } → Kept (fun q => q = w.heap.size + 1) wr w' → Q .normal a' w')) :
    Code.wp Tryd.prog parseD Q (frP s w.heap.size (.slice (some ⟨g, off, none⟩) n c) v7 v8 v9 (.string t) (.int .i64 i) u) wr := by
  obtain ⟨r1, r2, r3⟩ := hw.calls hvl
  have R1 := Lib.hid r1
  have R2 := Lib.hid r2
  have R3 := Lib.hid r3
  have HV := Lib.hid hv
  have HG := Lib.hid hg
  clear r1 r2 r3 hv hg hw hvl
  subst hb
  unfold frP
  conv => arg 2; whnf
  go_wp2_with fail
  refine (R1.out _).mono ?_
  rintro e w1 ⟨rfl, hk1⟩
  have HK1 := Lib.hid hk1
  have HV1 := Lib.hid (HV.out.on hk1)
  have c9 := HG.out _ hk1
  clear hk1 hcell
  go_wp2_with fail
  refine (R2.out _).mono ?_
  rintro e wx ⟨rfl, rfl⟩
  go_wp2_with fail
  refine (R3.out _).mono ?_
  rintro e wx ⟨rfl, rfl⟩
  obtain ⟨⟨c0, c1, c2, c3, c4, c5, c6⟩, ⟨f0, f1, f2, f3, f4, f5, f6⟩⟩ := cells7 HV1.out.var
  have HN2 : Hid (VarL w (w1.setCell ⟨w.heap.size + 1, 6, none⟩ (.string (strS v))) { y with target := v }) := Lib.hid (HV1.out.set (by rfl))
  have HK2 : Hid (Kept (fun q => q = w.heap.size + 1) wr (w1.setCell ⟨w.heap.size + 1, 6, none⟩ (.string (strS v)))) := Lib.hid ((HK1.out.mono (fun _ _ f => f.elim)).setCell _ _ (fun _ => rfl))
  go_wp2_with fail
  exact hnext.out _ _ (frP_of (by kernel_rfl)) HN2.out HK2.out

set_option maxHeartbeats 4000000 in
set_option maxRecDepth 100000 in
theorem arg_T_bad (hv : VarL w wr y) (hcell : wr.cell? ⟨g, off + (i + 1), none⟩ = some (.string (strS v))) (hg : ∀ w', Kept (fun _ => False) wr w' → w'.cell? ⟨g, off + (i + 1), none⟩ = some (.string (strS v))) (hi : i < t.size) (hK : t[i].toNat = 84) (hin : i + 1 < n) (ht : t.size ≤ 1000)
    (hw : WordIs v x nv nb mb) (hvl : v.length ≤ 100000) (hb : mb = false)
    (hp : parseL l = none) (hret : Hid (RetL w l Q)) :
    Code.wp Tryd.prog parseD Q (frP s w.heap.size (.slice (some ⟨g, off, none⟩) n c) v7 v8 v9 (.string t) (.int .i64 i) u) wr := by
  obtain ⟨r1, r2, r3⟩ := hw.calls hvl
  have R1 := Lib.hid r1
  have R2 := Lib.hid r2
  have R3 := Lib.hid r3
  have HV := Lib.hid hv
  have HG := Lib.hid hg
  clear r1 r2 r3 hv hg hw hvl
  subst hb
  have HP := Lib.hid hp
  clear hp
  unfold frP
  conv => arg 2; whnf
  go_wp2_with fail
  refine (R1.out _).mono ?_
  rintro e w1 ⟨rfl, hk1⟩
  have HK1 := Lib.hid hk1
  have HV1 := Lib.hid (HV.out.on hk1)
  have c9 := HG.out _ hk1
  clear hk1 hcell
  go_wp2_with fail
  refine (R2.out _).mono ?_
  rintro e wx ⟨rfl, rfl⟩
  go_wp2_with fail
  refine (R3.out _).mono ?_
  rintro e wx ⟨rfl, rfl⟩
  obtain ⟨⟨c0, c1, c2, c3, c4, c5, c6⟩, ⟨f0, f1, f2, f3, f4, f5, f6⟩⟩ := cells7 HV1.out.var
  obtain ⟨⟨d0, d1, d2, d3, d4, d5, d6⟩, ⟨e0, e1, e2, e3, e4, e5, e6⟩⟩ := cells7 HV1.out.res
  have HN2 : Hid (VarL w (w1.setCell ⟨w.heap.size + 1, 6, none⟩ (.string (strS v))) { y with target := v }) := Lib.hid (HV1.out.set (by rfl))
  have HF := Lib.hid (HN2.out.no HP.out)
  clear HN2
  go_wp2_with fail
  exact hret.out _ _ _ (frQ_of (by kernel_rfl)) HF.out

end

end Go.Proofs.YtibgkhfadlgonaaDoor
