/-
  The document's Parse: one of the things that an instruction has.
  Conditions: the words lie in blocks that were there.
  The document's Parse: all that an instruction has.
  Conditions: the words lie in blocks that were there.
-/
import Derived.Test.YtofnomkedpagfaaParseKit
section
namespace Go.Proofs.Ytofnomkedpagfaa
open Go.RowKit

section
variable {w wr : World} {g off n c i : Nat} {s t : ByteArray} {v : Str} {y : Ln} {x nv : Int} {nb mb : Bool} {v7 v8 v9 : Value} {u : Nat → Value} {Q : Exit → Act → World → Prop} {l : Str}

/-- What the three calls come to at the word v. -/
structure WordIs (v : Str) (x nv : Int) (nb mb : Bool) : Prop where
  reg : (regL v).getD (-1) = x
  num : (numL v).getD 0 = nv
  is : (numL v).isSome = nb
  name : isName v = mb
theorem WordIs.calls {v : Str} {x nv : Int} {nb mb : Bool} (h : WordIs v x nv nb mb) (hv : v.length ≤ 100000) :
    (∀ w, Calls Try.prog 42 #[.string (strS v)] w fun e w' => e = .returned (.int .i64 x) ∧ Kept (fun _ => False) w w') ∧
    (∀ w, Calls Try.prog 43 #[.string (strS v)] w fun e w' => e = .returned (.tuple #[.int .i64 nv, .bool nb]) ∧ w = w') ∧
    (∀ w, Calls Try.prog 38 #[.string (strS v)] w fun e w' => e = .returned (.bool mb) ∧ w = w') := by
  have hs : (strS v).size ≤ 9223372036854775807 := by rw [strS_size]; omega
  refine ⟨fun w => ?_, fun w => ?_, fun w => ?_⟩
  · refine (refReg_any (strS v) w).mono fun e w' hh => ?_
    rw [← h.reg]; exact hh
  · refine (refNumber_any (strS v) w hs).mono fun e w' hh => ?_
    rw [← h.num, ← h.is]; exact hh
  · refine (refName_any (strS v) w hs).mono fun e w' hh => ?_
    rw [← h.name]; exact hh

set_option maxHeartbeats 4000000 in
set_option maxRecDepth 100000 in
theorem arg_A_good (hv : VarL w wr y) (hcell : wr.cell? ⟨g, off + (i + 1), none⟩ = some (.string (strS v))) (hg : ∀ w', Kept (fun _ => False) wr w' → w'.cell? ⟨g, off + (i + 1), none⟩ = some (.string (strS v))) (hi : i < t.size) (hK : t[i].toNat = 65) (hin : i + 1 < n) (ht : t.size ≤ 1000)
    (hw : WordIs v x nv nb mb) (hvl : v.length ≤ 100000) (hx : 0 ≤ x)
    (hnext : Hid (∀ a' w', (∃ u', a' = frP s w.heap.size (.slice (some ⟨g, off, none⟩) n c) v7 v8 v9 (.string t) (.int .i64 ((i : Int) + 1)) u') → VarL w w' { y with a := x } → Kept (fun q => q = w.heap.size + 1) wr w' → Q .normal a' w')) :
    Code.wp Try.prog parseD Q (frP s w.heap.size (.slice (some ⟨g, off, none⟩) n c) v7 v8 v9 (.string t) (.int .i64 i) u) wr := by
  obtain ⟨r1, r2, r3⟩ := hw.calls hvl
  have R1 := Lib.hid r1
  have R2 := Lib.hid r2
  have R3 := Lib.hid r3
  have HV := Lib.hid hv
  have HG := Lib.hid hg
  clear r1 r2 r3 hv hg hw hvl
  unfold frP
  conv => arg 2; whnf
  go_wp2_with fail
  refine (R1.out _).mono ?_
  rintro e w1 ⟨rfl, hk1⟩
  have HK1 := Lib.hid hk1
  have HV1 := Lib.hid (HV.out.on hk1)
  have c9 := HG.out _ hk1
  clear hk1 hcell
  go_wp2_with fail
  refine (R2.out _).mono ?_
  rintro e wx ⟨rfl, rfl⟩
  go_wp2_with fail
  refine (R3.out _).mono ?_
  rintro e wx ⟨rfl, rfl⟩
  obtain ⟨⟨c0, c1, c2, c3, c4, c5, c6⟩, ⟨f0, f1, f2, f3, f4, f5, f6⟩⟩ := cells7 HV1.out.var
  have HN2 : Hid (VarL w (w1.setCell ⟨w.heap.size + 1, 2, none⟩ (.int .i64 x)) { y with a := x }) := Lib.hid (HV1.out.set (by rfl))
  have HK2 : Hid (Kept (fun q => q = w.heap.size + 1) wr (w1.setCell ⟨w.heap.size + 1, 2, none⟩ (.int .i64 x))) := Lib.hid ((HK1.out.mono (fun _ _ f => f.elim)).setCell _ _ (fun _ => rfl))
  go_wp2_with fail
  exact hnext.out _ _ (frP_of (by kernel_rfl)) HN2.out HK2.out

set_option maxHeartbeats 4000000 in
set_option maxRecDepth 100000 in
theorem arg_A_bad (hv : VarL w wr y) (hcell : wr.cell? ⟨g, off + (i + 1), none⟩ = some (.string (strS v))) (hg : ∀ w', Kept (fun _ => False) wr w' → w'.cell? ⟨g, off + (i + 1), none⟩ = some (.string (strS v))) (hi : i < t.size) (hK : t[i].toNat = 65) (hin : i + 1 < n) (ht : t.size ≤ 1000)
    (hw : WordIs v x nv nb mb) (hvl : v.length ≤ 100000) (hx : ¬ 0 ≤ x)
    (hp : parseL l = none) (hret : Hid (RetL w l Q)) :
    Code.wp Try.prog parseD Q (frP s w.heap.size (.slice (some ⟨g, off, none⟩) n c) v7 v8 v9 (.string t) (.int .i64 i) u) wr := by
  obtain ⟨r1, r2, r3⟩ := hw.calls hvl
  have R1 := Lib.hid r1
  have R2 := Lib.hid r2
  have R3 := Lib.hid r3
  have HV := Lib.hid hv
  have HG := Lib.hid hg
  clear r1 r2 r3 hv hg hw hvl
  have HP := Lib.hid hp
  clear hp
  have hx2 : decide ((0 : Int) ≤ x) = false := decide_eq_false hx
  clear hx
  unfold frP
  conv => arg 2; whnf
  go_wp2_with fail
  refine (R1.out _).mono ?_
  rintro e w1 ⟨rfl, hk1⟩
  have HK1 := Lib.hid hk1
  have HV1 := Lib.hid (HV.out.on hk1)
  have c9 := HG.out _ hk1
  clear hk1 hcell
  go_wp2_with fail
  refine (R2.out _).mono ?_
  rintro e wx ⟨rfl, rfl⟩
  go_wp2_with fail
  refine (R3.out _).mono ?_
  rintro e wx ⟨rfl, rfl⟩
  obtain ⟨⟨c0, c1, c2, c3, c4, c5, c6⟩, ⟨f0, f1, f2, f3, f4, f5, f6⟩⟩ := cells7 HV1.out.var
  obtain ⟨⟨d0, d1, d2, d3, d4, d5, d6⟩, ⟨e0, e1, e2, e3, e4, e5, e6⟩⟩ := cells7 HV1.out.res
  have HN2 : Hid (VarL w (w1.setCell ⟨w.heap.size + 1, 2, none⟩ (.int .i64 x)) { y with a := x }) := Lib.hid (HV1.out.set (by rfl))
  have HF := Lib.hid (HN2.out.no HP.out)
  clear HN2
  go_wp2_with fail
  exact hret.out _ _ _ (frQ_of (by kernel_rfl)) HF.out

set_option maxHeartbeats 4000000 in
set_option maxRecDepth 100000 in
theorem arg_B_good (hv : VarL w wr y) (hcell : wr.cell? ⟨g, off + (i + 1), none⟩ = some (.string (strS v))) (hg : ∀ w', Kept (fun _ => False) wr w' → w'.cell? ⟨g, off + (i + 1), none⟩ = some (.string (strS v))) (hi : i < t.size) (hK : t[i].toNat = 66) (hin : i + 1 < n) (ht : t.size ≤ 1000)
    (hw : WordIs v x nv nb mb) (hvl : v.length ≤ 100000) (hx : 0 ≤ x)
    (hnext : Hid (∀ a' w', (∃ u', a' = frP s w.heap.size (.slice (some ⟨g, off, none⟩) n c) v7 v8 v9 (.string t) (.int .i64 ((i : Int) + 1)) u') → VarL w w' { y with b := x } → Kept (fun q => q = w.heap.size + 1) wr w' → Q .normal a' w')) :
    Code.wp Try.prog parseD Q (frP s w.heap.size (.slice (some ⟨g, off, none⟩) n c) v7 v8 v9 (.string t) (.int .i64 i) u) wr := by
  obtain ⟨r1, r2, r3⟩ := hw.calls hvl
  have R1 := Lib.hid r1
  have R2 := Lib.hid r2
  have R3 := Lib.hid r3
  have HV := Lib.hid hv
  have HG := Lib.hid hg
  clear r1 r2 r3 hv hg hw hvl
  unfold frP
  conv => arg 2; whnf
  go_wp2_with fail
  refine (R1.out _).mono ?_
  rintro e w1 ⟨rfl, hk1⟩
  have HK1 := Lib.hid hk1
  have HV1 := Lib.hid (HV.out.on hk1)
  have c9 := HG.out _ hk1
  clear hk1 hcell
  go_wp2_with fail
  refine (R2.out _).mono ?_
  rintro e wx ⟨rfl, rfl⟩
  go_wp2_with fail
  refine (R3.out _).mono ?_
  rintro e wx ⟨rfl, rfl⟩
  obtain ⟨⟨c0, c1, c2, c3, c4, c5, c6⟩, ⟨f0, f1, f2, f3, f4, f5, f6⟩⟩ := cells7 HV1.out.var
  have HN2 : Hid (VarL w (w1.setCell ⟨w.heap.size + 1, 3, none⟩ (.int .i64 x)) { y with b := x }) := Lib.hid (HV1.out.set (by rfl))
  have HK2 : Hid (Kept (fun q => q = w.heap.size + 1) wr (w1.setCell ⟨w.heap.size + 1, 3, none⟩ (.int .i64 x))) := Lib.hid ((HK1.out.mono (fun _ _ f => f.elim)).setCell _ _ (fun _ => rfl))
  go_wp2_with fail
  exact hnext.out _ _ (frP_of (by kernel_rfl)) HN2.out HK2.out

set_option maxHeartbeats 4000000 in
set_option maxRecDepth 100000 in
theorem arg_B_bad (hv : VarL w wr y) (hcell : wr.cell? ⟨g, off + (i + 1), none⟩ = some (.string (strS v))) (hg : ∀ w', Kept (fun _ => False) wr w' → w'.cell? ⟨g, off + (i + 1), none⟩ = some (.string (strS v))) (hi : i < t.size) (hK : t[i].toNat = 66) (hin : i + 1 < n) (ht : t.size ≤ 1000)
    (hw : WordIs v x nv nb mb) (hvl : v.length ≤ 100000) (hx : ¬ 0 ≤ x)
    (hp : parseL l = none) (hret : Hid (RetL w l Q)) :
    Code.wp Try.prog parseD Q (frP s w.heap.size (.slice (some ⟨g, off, none⟩) n c) v7 v8 v9 (.string t) (.int .i64 i) u) wr := by
  obtain ⟨r1, r2, r3⟩ := hw.calls hvl
  have R1 := Lib.hid r1
  have R2 := Lib.hid r2
  have R3 := Lib.hid r3
  have HV := Lib.hid hv
  have HG := Lib.hid hg
  clear r1 r2 r3 hv hg hw hvl
  have HP := Lib.hid hp
  clear hp
  have hx2 : decide ((0 : Int) ≤ x) = false := decide_eq_false hx
  clear hx
  unfold frP
  conv => arg 2; whnf
  go_wp2_with fail
  refine (R1.out _).mono ?_
  rintro e w1 ⟨rfl, hk1⟩
  have HK1 := Lib.hid hk1
  have HV1 := Lib.hid (HV.out.on hk1)
  have c9 := HG.out _ hk1
  clear hk1 hcell
  go_wp2_with fail
  refine (R2.out _).mono ?_
  rintro e wx ⟨rfl, rfl⟩
  go_wp2_with fail
  refine (R3.out _).mono ?_
  rintro e wx ⟨rfl, rfl⟩
  obtain ⟨⟨c0, c1, c2, c3, c4, c5, c6⟩, ⟨f0, f1, f2, f3, f4, f5, f6⟩⟩ := cells7 HV1.out.var
  obtain ⟨⟨d0, d1, d2, d3, d4, d5, d6⟩, ⟨e0, e1, e2, e3, e4, e5, e6⟩⟩ := cells7 HV1.out.res
  have HN2 : Hid (VarL w (w1.setCell ⟨w.heap.size + 1, 3, none⟩ (.int .i64 x)) { y with b := x }) := Lib.hid (HV1.out.set (by rfl))
  have HF := Lib.hid (HN2.out.no HP.out)
  clear HN2
  go_wp2_with fail
  exact hret.out _ _ _ (frQ_of (by kernel_rfl)) HF.out

set_option maxHeartbeats 4000000 in
set_option maxRecDepth 100000 in
theorem arg_C_good (hv : VarL w wr y) (hcell : wr.cell? ⟨g, off + (i + 1), none⟩ = some (.string (strS v))) (hg : ∀ w', Kept (fun _ => False) wr w' → w'.cell? ⟨g, off + (i + 1), none⟩ = some (.string (strS v))) (hi : i < t.size) (hK : t[i].toNat = 67) (hin : i + 1 < n) (ht : t.size ≤ 1000)
    (hw : WordIs v x nv nb mb) (hvl : v.length ≤ 100000) (hx : 0 ≤ x)
    (hnext : Hid (∀ a' w', (∃ u', a' = frP s w.heap.size (.slice (some ⟨g, off, none⟩) n c) v7 v8 v9 (.string t) (.int .i64 ((i : Int) + 1)) u') → VarL w w' { y with c := x } → Kept (fun q => q = w.heap.size + 1) wr w' → Q .normal a' w')) :
    Code.wp Try.prog parseD Q (frP s w.heap.size (.slice (some ⟨g, off, none⟩) n c) v7 v8 v9 (.string t) (.int .i64 i) u) wr := by
  obtain ⟨r1, r2, r3⟩ := hw.calls hvl
  have R1 := Lib.hid r1
  have R2 := Lib.hid r2
  have R3 := Lib.hid r3
  have HV := Lib.hid hv
  have HG := Lib.hid hg
  clear r1 r2 r3 hv hg hw hvl
  unfold frP
  conv => arg 2; whnf
  go_wp2_with fail
  refine (R1.out _).mono ?_
  rintro e w1 ⟨rfl, hk1⟩
  have HK1 := Lib.hid hk1
  have HV1 := Lib.hid (HV.out.on hk1)
  have c9 := HG.out _ hk1
  clear hk1 hcell
  go_wp2_with fail
  refine (R2.out _).mono ?_
  rintro e wx ⟨rfl, rfl⟩
  go_wp2_with fail
  refine (R3.out _).mono ?_
  rintro e wx ⟨rfl, rfl⟩
  obtain ⟨⟨c0, c1, c2, c3, c4, c5, c6⟩, ⟨f0, f1, f2, f3, f4, f5, f6⟩⟩ := cells7 HV1.out.var
  have HN2 : Hid (VarL w (w1.setCell ⟨w.heap.size + 1, 4, none⟩ (.int .i64 x)) { y with c := x }) := Lib.hid (HV1.out.set (by rfl))
  have HK2 : Hid (Kept (fun q => q = w.heap.size + 1) wr (w1.setCell ⟨w.heap.size + 1, 4, none⟩ (.int .i64 x))) := Lib.hid ((HK1.out.mono (fun _ _ f => f.elim)).setCell _ _ (fun _ => rfl))
  go_wp2_with fail
  exact hnext.out _ _ (frP_of (by kernel_rfl)) HN2.out HK2.out

set_option maxHeartbeats 4000000 in
set_option maxRecDepth 100000 in
theorem arg_C_bad (hv : VarL w wr y) (hcell : wr.cell? ⟨g, off + (i + 1), none⟩ = some (.string (strS v))) (hg : ∀ w', Kept (fun _ => False) wr w' → w'.cell? ⟨g, off + (i + 1), none⟩ = some (.string (strS v))) (hi : i < t.size) (hK : t[i].toNat = 67) (hin : i + 1 < n) (ht : t.size ≤ 1000)
    (hw : WordIs v x nv nb mb) (hvl : v.length ≤ 100000) (hx : ¬ 0 ≤ x)
    (hp : parseL l = none) (hret : Hid (RetL w l Q)) :
    Code.wp Try.prog parseD Q (frP s w.heap.size (.slice (some ⟨g, off, none⟩) n c) v7 v8 v9 (.string t) (.int .i64 i) u) wr := by
  obtain ⟨r1, r2, r3⟩ := hw.calls hvl
  have R1 := Lib.hid r1
  have R2 := Lib.hid r2
  have R3 := Lib.hid r3
  have HV := Lib.hid hv
  have HG := Lib.hid hg
  clear r1 r2 r3 hv hg hw hvl
  have HP := Lib.hid hp
  clear hp
  have hx2 : decide ((0 : Int) ≤ x) = false := decide_eq_false hx
  clear hx
  unfold frP
  conv => arg 2; whnf
  go_wp2_with fail
  refine (R1.out _).mono ?_
  rintro e w1 ⟨rfl, hk1⟩
  have HK1 := Lib.hid hk1
  have HV1 := Lib.hid (HV.out.on hk1)
  have c9 := HG.out _ hk1
  clear hk1 hcell
  go_wp2_with fail
  refine (R2.out _).mono ?_
  rintro e wx ⟨rfl, rfl⟩
  go_wp2_with fail
  refine (R3.out _).mono ?_
  rintro e wx ⟨rfl, rfl⟩
  obtain ⟨⟨c0, c1, c2, c3, c4, c5, c6⟩, ⟨f0, f1, f2, f3, f4, f5, f6⟩⟩ := cells7 HV1.out.var
  obtain ⟨⟨d0, d1, d2, d3, d4, d5, d6⟩, ⟨e0, e1, e2, e3, e4, e5, e6⟩⟩ := cells7 HV1.out.res
  have HN2 : Hid (VarL w (w1.setCell ⟨w.heap.size + 1, 4, none⟩ (.int .i64 x)) { y with c := x }) := Lib.hid (HV1.out.set (by rfl))
  have HF := Lib.hid (HN2.out.no HP.out)
  clear HN2
  go_wp2_with fail
  exact hret.out _ _ _ (frQ_of (by kernel_rfl)) HF.out

set_option maxHeartbeats 4000000 in
set_option maxRecDepth 100000 in
theorem arg_N_good (hv : VarL w wr y) (hcell : wr.cell? ⟨g, off + (i + 1), none⟩ = some (.string (strS v))) (hg : ∀ w', Kept (fun _ => False) wr w' → w'.cell? ⟨g, off + (i + 1), none⟩ = some (.string (strS v))) (hi : i < t.size) (hK : t[i].toNat = 78) (hin : i + 1 < n) (ht : t.size ≤ 1000)
    (hw : WordIs v x nv nb mb) (hvl : v.length ≤ 100000) (hb : nb = true)
    (hnext : Hid (∀ a' w', (∃ u', a' = frP s w.heap.size (.slice (some ⟨g, off, none⟩) n c) v7 v8 v9 (.string t) (.int .i64 ((i : Int) + 1)) u') → VarL w w' { y with n := nv } → Kept (fun q => q = w.heap.size + 1) wr w' → Q .normal a' w')) :
    Code.wp Try.prog parseD Q (frP s w.heap.size (.slice (some ⟨g, off, none⟩) n c) v7 v8 v9 (.string t) (.int .i64 i) u) wr := by
  obtain ⟨r1, r2, r3⟩ := hw.calls hvl
  have R1 := Lib.hid r1
  have R2 := Lib.hid r2
  have R3 := Lib.hid r3
  have HV := Lib.hid hv
  have HG := Lib.hid hg
  clear r1 r2 r3 hv hg hw hvl
  subst hb
  unfold frP
  conv => arg 2; whnf
  go_wp2_with fail
  refine (R1.out _).mono ?_
  rintro e w1 ⟨rfl, hk1⟩
  have HK1 := Lib.hid hk1
  have HV1 := Lib.hid (HV.out.on hk1)
  have c9 := HG.out _ hk1
  clear hk1 hcell
  go_wp2_with fail
  refine (R2.out _).mono ?_
  rintro e wx ⟨rfl, rfl⟩
  go_wp2_with fail
  refine (R3.out _).mono ?_
  rintro e wx ⟨rfl, rfl⟩
  obtain ⟨⟨c0, c1, c2, c3, c4, c5, c6⟩, ⟨f0, f1, f2, f3, f4, f5, f6⟩⟩ := cells7 HV1.out.var
  have HN2 : Hid (VarL w (w1.setCell ⟨w.heap.size + 1, 5, none⟩ (.int .i64 nv)) { y with n := nv }) := Lib.hid (HV1.out.set (by rfl))
  have HK2 : Hid (Kept (fun q => q = w.heap.size + 1) wr (w1.setCell ⟨w.heap.size + 1, 5, none⟩ (.int .i64 nv))) := Lib.hid ((HK1.out.mono (fun _ _ f => f.elim)).setCell _ _ (fun _ => rfl))
  go_wp2_with fail
  exact hnext.out _ _ (frP_of (by kernel_rfl)) HN2.out HK2.out

set_option maxHeartbeats 4000000 in
set_option maxRecDepth 100000 in
theorem arg_N_bad (hv : VarL w wr y) (hcell : wr.cell? ⟨g, off + (i + 1), none⟩ = some (.string (strS v))) (hg : ∀ w', Kept (fun _ => False) wr w' → w'.cell? ⟨g, off + (i + 1), none⟩ = some (.string (strS v))) (hi : i < t.size) (hK : t[i].toNat = 78) (hin : i + 1 < n) (ht : t.size ≤ 1000)
    (hw : WordIs v x nv nb mb) (hvl : v.length ≤ 100000) (hb : nb = false)
    (hp : parseL l = none) (hret : Hid (RetL w l Q)) :
    Code.wp Try.prog parseD Q (frP s w.heap.size (.slice (some ⟨g, off, none⟩) n c) v7 v8 v9 (.string t) (.int .i64 i) u) wr := by
  obtain ⟨r1, r2, r3⟩ := hw.calls hvl
  have R1 := Lib.hid r1
  have R2 := Lib.hid r2
  have R3 := Lib.hid r3
  have HV := Lib.hid hv
  have HG := Lib.hid hg
  clear r1 r2 r3 hv hg hw hvl
  subst hb
  have HP := Lib.hid hp
  clear hp
  unfold frP
  conv => arg 2; whnf
  go_wp2_with fail
  refine (R1.out _).mono ?_
  rintro e w1 ⟨rfl, hk1⟩
  have HK1 := Lib.hid hk1
  have HV1 := Lib.hid (HV.out.on hk1)
  have c9 := HG.out _ hk1
  clear hk1 hcell
  go_wp2_with fail
  refine (R2.out _).mono ?_
  rintro e wx ⟨rfl, rfl⟩
  go_wp2_with fail
  refine (R3.out _).mono ?_
  rintro e wx ⟨rfl, rfl⟩
  obtain ⟨⟨c0, c1, c2, c3, c4, c5, c6⟩, ⟨f0, f1, f2, f3, f4, f5, f6⟩⟩ := cells7 HV1.out.var
  obtain ⟨⟨d0, d1, d2, d3, d4, d5, d6⟩, ⟨e0, e1, e2, e3, e4, e5, e6⟩⟩ := cells7 HV1.out.res
  have HN2 : Hid (VarL w (w1.setCell ⟨w.heap.size + 1, 5, none⟩ (.int .i64 nv)) { y with n := nv }) := Lib.hid (HV1.out.set (by rfl))
  have HF := Lib.hid (HN2.out.no HP.out)
  clear HN2
  go_wp2_with fail
  exact hret.out _ _ _ (frQ_of (by kernel_rfl)) HF.out

set_option maxHeartbeats 4000000 in
set_option maxRecDepth 100000 in
theorem arg_T_good (hv : VarL w wr y) (hcell : wr.cell? ⟨g, off + (i + 1), none⟩ = some (.string (strS v))) (hg : ∀ w', Kept (fun _ => False) wr w' → w'.cell? ⟨g, off + (i + 1), none⟩ = some (.string (strS v))) (hi : i < t.size) (hK : t[i].toNat = 84) (hin : i + 1 < n) (ht : t.size ≤ 1000)
    (hw : WordIs v x nv nb mb) (hvl : v.length ≤ 100000) (hb : mb = true)
    (hnext : Hid (∀ a' w', (∃ u', a' = frP s w.heap.size (.slice (some ⟨g, off, none⟩) n c) v7 v8 v9 (.string t) (.int .i64 ((i : Int) + 1)) u') → VarL w w' { y with target := v } → Kept (fun q => q = w.heap.size + 1) wr w' → Q .normal a' w')) :
    Code.wp Try.prog parseD Q (frP s w.heap.size (.slice (some ⟨g, off, none⟩) n c) v7 v8 v9 (.string t) (.int .i64 i) u) wr := by
  obtain ⟨r1, r2, r3⟩ := hw.calls hvl
  have R1 := Lib.hid r1
  have R2 := Lib.hid r2
  have R3 := Lib.hid r3
  have HV := Lib.hid hv
  have HG := Lib.hid hg
  clear r1 r2 r3 hv hg hw hvl
  subst hb
  unfold frP
  conv => arg 2; whnf
  go_wp2_with fail
  refine (R1.out _).mono ?_
  rintro e w1 ⟨rfl, hk1⟩
  have HK1 := Lib.hid hk1
  have HV1 := Lib.hid (HV.out.on hk1)
  have c9 := HG.out _ hk1
  clear hk1 hcell
  go_wp2_with fail
  refine (R2.out _).mono ?_
  rintro e wx ⟨rfl, rfl⟩
  go_wp2_with fail
  refine (R3.out _).mono ?_
  rintro e wx ⟨rfl, rfl⟩
  obtain ⟨⟨c0, c1, c2, c3, c4, c5, c6⟩, ⟨f0, f1, f2, f3, f4, f5, f6⟩⟩ := cells7 HV1.out.var
  have HN2 : Hid (VarL w (w1.setCell ⟨w.heap.size + 1, 6, none⟩ (.string (strS v))) { y with target := v }) := Lib.hid (HV1.out.set (by rfl))
  have HK2 : Hid (Kept (fun q => q = w.heap.size + 1) wr (w1.setCell ⟨w.heap.size + 1, 6, none⟩ (.string (strS v)))) := Lib.hid ((HK1.out.mono (fun _ _ f => f.elim)).setCell _ _ (fun _ => rfl))
  go_wp2_with fail
  exact hnext.out _ _ (frP_of (by kernel_rfl)) HN2.out HK2.out

set_option maxHeartbeats 4000000 in
set_option maxRecDepth 100000 in
theorem arg_T_bad (hv : VarL w wr y) (hcell : wr.cell? ⟨g, off + (i + 1), none⟩ = some (.string (strS v))) (hg : ∀ w', Kept (fun _ => False) wr w' → w'.cell? ⟨g, off + (i + 1), none⟩ = some (.string (strS v))) (hi : i < t.size) (hK : t[i].toNat = 84) (hin : i + 1 < n) (ht : t.size ≤ 1000)
    (hw : WordIs v x nv nb mb) (hvl : v.length ≤ 100000) (hb : mb = false)
    (hp : parseL l = none) (hret : Hid (RetL w l Q)) :
    Code.wp Try.prog parseD Q (frP s w.heap.size (.slice (some ⟨g, off, none⟩) n c) v7 v8 v9 (.string t) (.int .i64 i) u) wr := by
  obtain ⟨r1, r2, r3⟩ := hw.calls hvl
  have R1 := Lib.hid r1
  have R2 := Lib.hid r2
  have R3 := Lib.hid r3
  have HV := Lib.hid hv
  have HG := Lib.hid hg
  clear r1 r2 r3 hv hg hw hvl
  subst hb
  have HP := Lib.hid hp
  clear hp
  unfold frP
  conv => arg 2; whnf
  go_wp2_with fail
  refine (R1.out _).mono ?_
  rintro e w1 ⟨rfl, hk1⟩
  have HK1 := Lib.hid hk1
  have HV1 := Lib.hid (HV.out.on hk1)
  have c9 := HG.out _ hk1
  clear hk1 hcell
  go_wp2_with fail
  refine (R2.out _).mono ?_
  rintro e wx ⟨rfl, rfl⟩
  go_wp2_with fail
  refine (R3.out _).mono ?_
  rintro e wx ⟨rfl, rfl⟩
  obtain ⟨⟨c0, c1, c2, c3, c4, c5, c6⟩, ⟨f0, f1, f2, f3, f4, f5, f6⟩⟩ := cells7 HV1.out.var
  obtain ⟨⟨d0, d1, d2, d3, d4, d5, d6⟩, ⟨e0, e1, e2, e3, e4, e5, e6⟩⟩ := cells7 HV1.out.res
  have HN2 : Hid (VarL w (w1.setCell ⟨w.heap.size + 1, 6, none⟩ (.string (strS v))) { y with target := v }) := Lib.hid (HV1.out.set (by rfl))
  have HF := Lib.hid (HN2.out.no HP.out)
  clear HN2
  go_wp2_with fail
  exact hret.out _ _ _ (frQ_of (by kernel_rfl)) HF.out

end

end Go.Proofs.Ytofnomkedpagfaa
end
section
namespace Go.Proofs.Ytofnomkedpagfaa
open Go.RowKit

set_option maxHeartbeats 4000000 in
set_option maxRecDepth 100000 in
theorem arg_end {w wr : World} {i : Nat} {s t : ByteArray} {v6 v7 v8 v9 : Value} {u : Nat → Value} {Q : Exit → Act → World → Prop} (hi : ¬ i < t.size)
    (hend : Hid (∀ a', (∃ u', a' = frP s w.heap.size v6 v7 v8 v9 (.string t) (.int .i64 i) u') → Q (.exit 6) a' wr)) :
    Code.wp Try.prog parseD Q (frP s w.heap.size v6 v7 v8 v9 (.string t) (.int .i64 i) u) wr := by
  unfold frP
  conv => arg 2; whnf
  go_wp2_with fail
  exact hend.out _ (frP_of (by kernel_rfl))

theorem str_at {l : Str} {i : Nat} {h : UInt8} (hi : l[i]? = some h) : ∃ hs : i < (strS l).size, (strS l)[i].toNat = h.toNat := by
  have h1 := (List.getElem?_eq_some_iff.1 hi).1
  have hs : i < (strS l).size := by rw [strS_size]; exact h1
  refine ⟨hs, ?_⟩
  have := bytesS_at (strS l) i hs
  rw [bytesS_str, hi] at this
  simp only [Option.some.injEq] at this
  rw [← this]
theorem sC_at {w : World} {B : Nat} {A : Option Addr} {ws : List Str} (h : Elems w B A 1 sC ws) {k : Nat} {x : Str} (hx : ws[k]? = some x) : ∃ g off, A = some ⟨g, off, none⟩ ∧ g < B ∧ w.cell? ⟨g, off + k, none⟩ = some (.string (strS x)) := by
  obtain ⟨g, off, e, hb, hc⟩ := h.2 k x hx
  have h0 := hc 0 _ rfl
  rw [Nat.mul_one, Nat.add_zero] at h0
  exact ⟨g, off, e, hb, h0⟩
theorem sC_same {w : World} {B g off : Nat} {ws : List Str} (h : Elems w B (some ⟨g, off, none⟩) 1 sC ws) {k : Nat} {x : Str} (hx : ws[k]? = some x) : w.cell? ⟨g, off + k, none⟩ = some (.string (strS x)) := by
  obtain ⟨g', off', e, _, hc⟩ := sC_at h hx
  simp only [Option.some.injEq, Addr.mk.injEq, and_true] at e
  obtain ⟨rfl, rfl⟩ := e
  exact hc

theorem args_drop {has : Str} {r : List Str} {i : Nat} {h : UInt8} {v : Str} (hh : has[i]? = some h) (hv : r[i]? = some v) (y : Ln) : argsL (has.drop i) (r.drop i) y = (argL h v y).bind (argsL (has.drop (i + 1)) (r.drop (i + 1))) := by
  obtain ⟨h1, h2⟩ := List.getElem?_eq_some_iff.1 hh
  obtain ⟨h3, h4⟩ := List.getElem?_eq_some_iff.1 hv
  rw [List.drop_eq_getElem_cons h1, List.drop_eq_getElem_cons h3, h2, h4]
  rfl

theorem args_loop {w wr : World} {g off n c : Nat} {s : ByteArray} {v7 v8 v9 : Value} {u : Nat → Value} {Q : Exit → Act → World → Prop} {l : Str} {y0 : Ln} {has w0 : Str} {r : List Str}
    (hv : VarL w wr y0) (hlen : has.length = r.length) (hn : n = r.length + 1) (h1000 : has.length ≤ 1000) (hset : ∀ h ∈ has, h.toNat = 65 ∨ h.toNat = 66 ∨ h.toNat = 67 ∨ h.toNat = 78 ∨ h.toNat = 84) (hword : ∀ v ∈ r, v.length ≤ 100000)
    (hel : ∀ w', Kept (fun q => q = w.heap.size + 1) wr w' → Elems w' w'.heap.size (some ⟨g, off, none⟩) 1 sC (w0 :: r))
    (hbad : argsL has r y0 = none → parseL l = none) (hret : Hid (RetL w l Q))
    (hend : Hid (∀ a' w' y, (∃ v11 u', a' = frP s w.heap.size (.slice (some ⟨g, off, none⟩) n c) v7 v8 v9 (.string (strS has)) v11 u') → VarL w w' y → Kept (fun q => q = w.heap.size + 1) wr w' → argsL has r y0 = some y → Q (.exit 6) a' w')) :
    Code.wp Try.prog (Code.loop parseD) Q (frP s w.heap.size (.slice (some ⟨g, off, none⟩) n c) v7 v8 v9 (.string (strS has)) (.int .i64 ((0 : Nat) : Int)) u) wr := by
  refine wp_loop (fun a' w' => ∃ (i : Nat) (y : Ln) (u : Nat → Value), a' = frP s w.heap.size (.slice (some ⟨g, off, none⟩) n c) v7 v8 v9 (.string (strS has)) (.int .i64 i) u ∧ i ≤ has.length ∧ VarL w w' y ∧ Kept (fun q => q = w.heap.size + 1) wr w' ∧ argsL has r y0 = argsL (has.drop i) (r.drop i) y)
    (fun a' _ => has.length - (intOf (a'.tmps.getD 11 undef)).toNat) ?_ ?_
  · exact ⟨0, y0, u, rfl, by omega, hv, Kept.refl _ _, rfl⟩
  rintro _ w1 ⟨i, y, u, rfl, hi, hv1, hk, hargs⟩
  have hts : (strS has).size = has.length := strS_size has
  by_cases hih : i < has.length
  case neg =>
    obtain rfl : i = has.length := by omega
    refine arg_end (by rw [hts]; omega) (Lib.hid ?_)
    rintro a' ⟨u', rfl⟩
    refine hend.out _ _ y ⟨_, u', rfl⟩ hv1 hk ?_
    rw [hargs, List.drop_length]; cases r.drop has.length <;> rfl
  obtain ⟨h, hh⟩ : ∃ h, has[i]? = some h := ⟨_, List.getElem?_eq_getElem hih⟩
  obtain ⟨v, hvv⟩ : ∃ v, r[i]? = some v := ⟨_, List.getElem?_eq_getElem (by omega)⟩
  have hw1 : (w0 :: r)[i + 1]? = some v := by simpa using hvv
  have hcell := sC_same (hel w1 hk) hw1
  have hg : ∀ w', Kept (fun _ => False) w1 w' → w'.cell? ⟨g, off + (i + 1), none⟩ = some (.string (strS v)) := fun w' hk' => sC_same (hel w' (hk.trans hk' (fun _ _ f => f.elim))) hw1
  obtain ⟨hit, hK⟩ := str_at hh
  have hvl := hword v (List.mem_of_getElem? hvv)
  have hw : WordIs v ((regL v).getD (-1)) ((numL v).getD 0) (numL v).isSome (isName v) := ⟨rfl, rfl, rfl, rfl⟩
  rw [args_drop hh hvv] at hargs
  have hret' : Hid (RetL w l (Exit.then (fun a' w' => (∃ (i : Nat) (y : Ln) (u : Nat → Value), a' = frP s w.heap.size (.slice (some ⟨g, off, none⟩) n c) v7 v8 v9 (.string (strS has)) (.int .i64 i) u ∧ i ≤ has.length ∧ VarL w w' y ∧ Kept (fun q => q = w.heap.size + 1) wr w' ∧ argsL has r y0 = argsL (has.drop i) (r.drop i) y) ∧ has.length - (intOf (a'.tmps.getD 11 undef)).toNat < has.length - (intOf ((frP s w.heap.size (.slice (some ⟨g, off, none⟩) n c) v7 v8 v9 (.string (strS has)) (.int .i64 i) u).tmps.getD 11 undef)).toNat) Q)) :=
    Lib.hid (fun a' w' ok he hf => hret.out a' w' ok he hf)
  have hmu : ∀ u' : Nat → Value, has.length - (intOf ((frP s w.heap.size (.slice (some ⟨g, off, none⟩) n c) v7 v8 v9 (.string (strS has)) (.int .i64 ((i : Int) + 1)) u').tmps.getD 11 undef)).toNat < has.length - (intOf ((frP s w.heap.size (.slice (some ⟨g, off, none⟩) n c) v7 v8 v9 (.string (strS has)) (.int .i64 i) u).tmps.getD 11 undef)).toNat := by
    intro u'
    show has.length - (intOf (.int .i64 ((i : Int) + 1))).toNat < has.length - (intOf (.int .i64 (i : Int))).toNat
    simp [intOf]; omega
  rcases hset h (List.mem_of_getElem? hh) with k | k | k | k | k
  · rcases hr : regL v with _ | x
    · refine arg_A_bad hv1 hcell hg hit (by rw [hK, k]) (by omega) (by rw [hts]; omega) hw hvl (by rw [hr]; decide) (hbad (by rw [hargs]; unfold argL; rw [if_pos k, hr]; rfl)) hret'
    · have := regL_range hr
      refine arg_A_good hv1 hcell hg hit (by rw [hK, k]) (by omega) (by rw [hts]; omega) hw hvl (by rw [hr]; exact this.1) (Lib.hid ?_)
      rintro a' w' ⟨u', rfl⟩ hv2 hk2
      rw [hr] at hv2
      exact ⟨⟨i + 1, _, u', rfl, by omega, hv2, hk.trans hk2 (fun _ _ e => e), by rw [hargs]; unfold argL; rw [if_pos k, hr]; rfl⟩, hmu u'⟩
  · rcases hr : regL v with _ | x
    · refine arg_B_bad hv1 hcell hg hit (by rw [hK, k]) (by omega) (by rw [hts]; omega) hw hvl (by rw [hr]; decide) (hbad (by rw [hargs]; unfold argL; rw [if_neg (by omega), if_pos k, hr]; rfl)) hret'
    · have := regL_range hr
      refine arg_B_good hv1 hcell hg hit (by rw [hK, k]) (by omega) (by rw [hts]; omega) hw hvl (by rw [hr]; exact this.1) (Lib.hid ?_)
      rintro a' w' ⟨u', rfl⟩ hv2 hk2
      rw [hr] at hv2
      exact ⟨⟨i + 1, _, u', rfl, by omega, hv2, hk.trans hk2 (fun _ _ e => e), by rw [hargs]; unfold argL; rw [if_neg (by omega), if_pos k, hr]; rfl⟩, hmu u'⟩
  · rcases hr : regL v with _ | x
    · refine arg_C_bad hv1 hcell hg hit (by rw [hK, k]) (by omega) (by rw [hts]; omega) hw hvl (by rw [hr]; decide) (hbad (by rw [hargs]; unfold argL; rw [if_neg (by omega), if_neg (by omega), if_pos k, hr]; rfl)) hret'
    · have := regL_range hr
      refine arg_C_good hv1 hcell hg hit (by rw [hK, k]) (by omega) (by rw [hts]; omega) hw hvl (by rw [hr]; exact this.1) (Lib.hid ?_)
      rintro a' w' ⟨u', rfl⟩ hv2 hk2
      rw [hr] at hv2
      exact ⟨⟨i + 1, _, u', rfl, by omega, hv2, hk.trans hk2 (fun _ _ e => e), by rw [hargs]; unfold argL; rw [if_neg (by omega), if_neg (by omega), if_pos k, hr]; rfl⟩, hmu u'⟩
  · rcases hr : numL v with _ | x
    · refine arg_N_bad hv1 hcell hg hit (by rw [hK, k]) (by omega) (by rw [hts]; omega) hw hvl (by rw [hr]; rfl) (hbad (by rw [hargs]; unfold argL; rw [if_neg (by omega), if_neg (by omega), if_neg (by omega), if_pos k, hr]; rfl)) hret'
    · refine arg_N_good hv1 hcell hg hit (by rw [hK, k]) (by omega) (by rw [hts]; omega) hw hvl (by rw [hr]; rfl) (Lib.hid ?_)
      rintro a' w' ⟨u', rfl⟩ hv2 hk2
      rw [hr] at hv2
      exact ⟨⟨i + 1, _, u', rfl, by omega, hv2, hk.trans hk2 (fun _ _ e => e), by rw [hargs]; unfold argL; rw [if_neg (by omega), if_neg (by omega), if_neg (by omega), if_pos k, hr]; rfl⟩, hmu u'⟩
  · rcases hr : isName v with _ | _
    · refine arg_T_bad hv1 hcell hg hit (by rw [hK, k]) (by omega) (by rw [hts]; omega) hw hvl hr (hbad (by rw [hargs]; unfold argL; rw [if_neg (by omega), if_neg (by omega), if_neg (by omega), if_neg (by omega), if_neg (by rw [hr]; simp)]; rfl)) hret'
    · refine arg_T_good hv1 hcell hg hit (by rw [hK, k]) (by omega) (by rw [hts]; omega) hw hvl hr (Lib.hid ?_)
      rintro a' w' ⟨u', rfl⟩ hv2 hk2
      exact ⟨⟨i + 1, _, u', rfl, by omega, hv2, hk.trans hk2 (fun _ _ e => e), by rw [hargs]; unfold argL; rw [if_neg (by omega), if_neg (by omega), if_neg (by omega), if_neg (by omega), if_pos hr]; rfl⟩, hmu u'⟩

end Go.Proofs.Ytofnomkedpagfaa
end
