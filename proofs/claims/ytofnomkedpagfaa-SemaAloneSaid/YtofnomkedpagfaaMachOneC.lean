/-
  What the document's machine does when it goes on elsewhere: jmp, jeq, jne, jlt.
  Conditions: the world lies in memory, and the frame in a block of its own; registers' numbers are below 16.
-/
import Derived.Test.YtofnomkedpagfaaMachOne
namespace Go.Proofs.Ytofnomkedpagfaa
open Go.RowKit
set_option linter.unusedVariables false
set_option linter.unusedSimpArgs false

section
variable {P : Wp} {og oc : Nat} {zs : List Int} {ps : List Pk} {fb : Nat} {f : Fr} {w : World}

set_option maxHeartbeats 2000000 in
set_option maxRecDepth 100000 in
theorem one_jmp (h : OneAt P og oc zs ps fb f w) (self : Nat) (a : Int) (b : Int) (c : Int) (n : Int)   :
    Calls Try.prog 36 #[.pointer (some ⟨P.wb, 0, none⟩), .agg #[.int .i64 8, .int .i64 a, .int .i64 b, .int .i64 c, .int .i64 n], .int .i64 self, .pointer (some ⟨fb, 0, none⟩)] w (OneTo P og fb w 2 noNt 0 zs ps (f.go n)) := by
  have HH := Lib.hid h
  clear h
  go_enter Try.func36, Try.ntmps36
  go_upto_region 28 with fail
  rename_i K hK
  generalize hW : ((w.alloc _).alloc _).alloc _ = W
  have HB := Lib.hid (began (x := ⟨8, a, b, c, n⟩) HH.out hW)
  clear hW
  obtain ⟨b0, b1, b2, b3, b4, _⟩ := cells5 HB.out.b
  have p0 := HB.out.at_.pcAt
  have p1 := HB.out.at_.free 0
  go_wp2_with fail
  generalize hW2 : W.setCell _ _ = W2
  have HT := Lib.hid (show OneAt P og oc zs ps fb (f.go n) W2 ∧ Kept (fun k => k = fb) W W2 by
    rw [← hW2]
    exact HB.out.at_.go n)
  clear hW2
  clear b0 b1 b2 b3 b4 p0 p1 
  obtain ⟨⟨y0, y1⟩, ⟨y2, y3⟩, y4⟩ := HB.out.ends HT.out.2 (fun q e => by rw [e]; exact HB.out.lt.1)
  have HF := Lib.hid (OneTo.of (P := P) (og := og) (fb := fb) (w := w) (k := 2) (came := 0) (note := noNt) HB.out.k HT.out.1 HT.out.2 (fun q e => .inr e) (.inl rfl) HB.out.lt (by have := HB.out.lt.2 og (.inr (.inl rfl)); omega))
  go_region
  all_goals go_wp2_with fail
  all_goals exact bodyPost_ret (one_results rfl rfl rfl (x := noNt) (g := w.heap.size + 1) (range2 _ _ _ _ y0 y1 y4)) rfl (HF.out _ ((((Kept.refl (fun q => q = w.heap.size + 1) W2).setCell _ _ (fun _ => rfl)).setCell _ _ (fun _ => rfl)).drew))

set_option maxHeartbeats 2000000 in
set_option maxRecDepth 100000 in
theorem one_jeq_yes (h : OneAt P og oc zs ps fb f w) (self : Nat) (a : Nat) (b : Nat) (c : Int) (n : Int) (ha : a < 16) (hb : b < 16) (hc : (f.r a == f.r b) = true) :
    Calls Try.prog 36 #[.pointer (some ⟨P.wb, 0, none⟩), .agg #[.int .i64 9, .int .i64 a, .int .i64 b, .int .i64 c, .int .i64 n], .int .i64 self, .pointer (some ⟨fb, 0, none⟩)] w (OneTo P og fb w 2 noNt 0 zs ps (f.go n)) := by
  have HH := Lib.hid h
  clear h
  go_enter Try.func36, Try.ntmps36
  go_upto_region 33 with fail
  rename_i K hK K2 hK2
  generalize hW : ((w.alloc _).alloc _).alloc _ = W
  have HB := Lib.hid (began (x := ⟨9, a, b, c, n⟩) HH.out hW)
  clear hW
  obtain ⟨b0, b1, b2, b3, b4, _⟩ := cells5 HB.out.b
  have p0 := HB.out.at_.pcAt
  have p1 := HB.out.at_.free 0
  have x0 := HB.out.at_.regAt (j := a) ha
  have v0 : ((a : Nat) : Int) < 16 := by omega
  have x1 := HB.out.at_.regAt (j := b) hb
  have v1 : ((b : Nat) : Int) < 16 := by omega
  go_region
  show K2 _ _
  apply hK2
  clear hK2
  go_wp2_with fail
  rename_i K3 hK3
  go_region
  show K3 _ _
  apply hK3
  clear hK3
  generalize hW1 : W.drew.drew = W1
  have HB := Lib.hid (show Began P og oc zs ps fb f w ⟨9, a, b, c, n⟩ W1 by rw [← hW1]; exact HB.out.on (Kept.refl _ W).drew.drew)
  clear hW1 b0 b1 b2 b3 b4 p0 p1 x0 x1
  obtain ⟨b0, b1, b2, b3, b4, _⟩ := cells5 HB.out.b
  have p0 := HB.out.at_.pcAt
  have p1 := HB.out.at_.free 0
  go_wp2_with fail
  generalize hW2 : W1.setCell _ _ = W2
  have HT := Lib.hid (show OneAt P og oc zs ps fb (f.go n) W2 ∧ Kept (fun k => k = fb) W1 W2 by
    rw [← hW2]
    exact HB.out.at_.go n)
  clear hW2
  clear b0 b1 b2 b3 b4 p0 p1 
  obtain ⟨⟨y0, y1⟩, ⟨y2, y3⟩, y4⟩ := HB.out.ends HT.out.2 (fun q e => by rw [e]; exact HB.out.lt.1)
  have HF := Lib.hid (OneTo.of (P := P) (og := og) (fb := fb) (w := w) (k := 2) (came := 0) (note := noNt) HB.out.k HT.out.1 HT.out.2 (fun q e => .inr e) (.inl rfl) HB.out.lt (by have := HB.out.lt.2 og (.inr (.inl rfl)); omega))
  go_region
  all_goals go_wp2_with fail
  all_goals exact bodyPost_ret (one_results rfl rfl rfl (x := noNt) (g := w.heap.size + 1) (range2 _ _ _ _ y0 y1 y4)) rfl (HF.out _ ((((Kept.refl (fun q => q = w.heap.size + 1) W2).setCell _ _ (fun _ => rfl)).setCell _ _ (fun _ => rfl)).drew))

set_option maxHeartbeats 2000000 in
set_option maxRecDepth 100000 in
theorem one_jeq_no (h : OneAt P og oc zs ps fb f w) (self : Nat) (a : Nat) (b : Nat) (c : Int) (n : Int) (ha : a < 16) (hb : b < 16) (hc : (f.r a == f.r b) = false) :
    Calls Try.prog 36 #[.pointer (some ⟨P.wb, 0, none⟩), .agg #[.int .i64 9, .int .i64 a, .int .i64 b, .int .i64 c, .int .i64 n], .int .i64 self, .pointer (some ⟨fb, 0, none⟩)] w (OneTo P og fb w 1 noNt 0 zs ps f) := by
  have HH := Lib.hid h
  clear h
  go_enter Try.func36, Try.ntmps36
  go_upto_region 33 with fail
  rename_i K hK K2 hK2
  generalize hW : ((w.alloc _).alloc _).alloc _ = W
  have HB := Lib.hid (began (x := ⟨9, a, b, c, n⟩) HH.out hW)
  clear hW
  obtain ⟨b0, b1, b2, b3, b4, _⟩ := cells5 HB.out.b
  have p0 := HB.out.at_.pcAt
  have p1 := HB.out.at_.free 0
  have x0 := HB.out.at_.regAt (j := a) ha
  have v0 : ((a : Nat) : Int) < 16 := by omega
  have x1 := HB.out.at_.regAt (j := b) hb
  have v1 : ((b : Nat) : Int) < 16 := by omega
  go_region
  show K2 _ _
  apply hK2
  clear hK2
  go_wp2_with fail
  rename_i K3 hK3
  go_region
  show K3 _ _
  apply hK3
  clear hK3
  generalize hW1 : W.drew.drew = W1
  have HB := Lib.hid (show Began P og oc zs ps fb f w ⟨9, a, b, c, n⟩ W1 by rw [← hW1]; exact HB.out.on (Kept.refl _ W).drew.drew)
  clear hW1 b0 b1 b2 b3 b4 p0 p1 x0 x1
  obtain ⟨b0, b1, b2, b3, b4, _⟩ := cells5 HB.out.b
  have p0 := HB.out.at_.pcAt
  have p1 := HB.out.at_.free 0
  go_wp2_with fail
  have HT := Lib.hid (show OneAt P og oc zs ps fb f W1 ∧ Kept (fun k => k = fb) W1 W1 from ⟨HB.out.at_, Kept.refl _ _⟩)
  clear b0 b1 b2 b3 b4 p0 p1
  obtain ⟨⟨y0, y1⟩, ⟨y2, y3⟩, y4⟩ := HB.out.ends HT.out.2 (fun q e => by rw [e]; exact HB.out.lt.1)
  have HF := Lib.hid (OneTo.of (P := P) (og := og) (fb := fb) (w := w) (k := 1) (came := 0) (note := noNt) HB.out.k HT.out.1 HT.out.2 (fun q e => .inr e) (.inl rfl) HB.out.lt (by have := HB.out.lt.2 og (.inr (.inl rfl)); omega))
  go_region
  all_goals go_wp2_with fail
  all_goals exact bodyPost_ret (one_results rfl rfl rfl (x := noNt) (g := w.heap.size + 1) (range2 _ _ _ _ y0 y1 y4)) rfl (HF.out _ ((((Kept.refl (fun q => q = w.heap.size + 1) W1).setCell _ _ (fun _ => rfl)).setCell _ _ (fun _ => rfl)).drew))

set_option maxHeartbeats 2000000 in
set_option maxRecDepth 100000 in
theorem one_jne_yes (h : OneAt P og oc zs ps fb f w) (self : Nat) (a : Nat) (b : Nat) (c : Int) (n : Int) (ha : a < 16) (hb : b < 16) (hc : (f.r a != f.r b) = true) :
    Calls Try.prog 36 #[.pointer (some ⟨P.wb, 0, none⟩), .agg #[.int .i64 10, .int .i64 a, .int .i64 b, .int .i64 c, .int .i64 n], .int .i64 self, .pointer (some ⟨fb, 0, none⟩)] w (OneTo P og fb w 2 noNt 0 zs ps (f.go n)) := by
  have HH := Lib.hid h
  clear h
  go_enter Try.func36, Try.ntmps36
  go_upto_region 33 with fail
  rename_i K hK K2 hK2
  generalize hW : ((w.alloc _).alloc _).alloc _ = W
  have HB := Lib.hid (began (x := ⟨10, a, b, c, n⟩) HH.out hW)
  clear hW
  obtain ⟨b0, b1, b2, b3, b4, _⟩ := cells5 HB.out.b
  have p0 := HB.out.at_.pcAt
  have p1 := HB.out.at_.free 0
  have x0 := HB.out.at_.regAt (j := a) ha
  have v0 : ((a : Nat) : Int) < 16 := by omega
  have x1 := HB.out.at_.regAt (j := b) hb
  have v1 : ((b : Nat) : Int) < 16 := by omega
  go_region
  show K2 _ _
  apply hK2
  clear hK2
  go_wp2_with fail
  rename_i K3 hK3
  go_region
  show K3 _ _
  apply hK3
  clear hK3
  generalize hW1 : W.drew.drew = W1
  have HB := Lib.hid (show Began P og oc zs ps fb f w ⟨10, a, b, c, n⟩ W1 by rw [← hW1]; exact HB.out.on (Kept.refl _ W).drew.drew)
  clear hW1 b0 b1 b2 b3 b4 p0 p1 x0 x1
  obtain ⟨b0, b1, b2, b3, b4, _⟩ := cells5 HB.out.b
  have p0 := HB.out.at_.pcAt
  have p1 := HB.out.at_.free 0
  go_wp2_with fail
  generalize hW2 : W1.setCell _ _ = W2
  have HT := Lib.hid (show OneAt P og oc zs ps fb (f.go n) W2 ∧ Kept (fun k => k = fb) W1 W2 by
    rw [← hW2]
    exact HB.out.at_.go n)
  clear hW2
  clear b0 b1 b2 b3 b4 p0 p1 
  obtain ⟨⟨y0, y1⟩, ⟨y2, y3⟩, y4⟩ := HB.out.ends HT.out.2 (fun q e => by rw [e]; exact HB.out.lt.1)
  have HF := Lib.hid (OneTo.of (P := P) (og := og) (fb := fb) (w := w) (k := 2) (came := 0) (note := noNt) HB.out.k HT.out.1 HT.out.2 (fun q e => .inr e) (.inl rfl) HB.out.lt (by have := HB.out.lt.2 og (.inr (.inl rfl)); omega))
  go_region
  all_goals go_wp2_with fail
  all_goals exact bodyPost_ret (one_results rfl rfl rfl (x := noNt) (g := w.heap.size + 1) (range2 _ _ _ _ y0 y1 y4)) rfl (HF.out _ ((((Kept.refl (fun q => q = w.heap.size + 1) W2).setCell _ _ (fun _ => rfl)).setCell _ _ (fun _ => rfl)).drew))

set_option maxHeartbeats 2000000 in
set_option maxRecDepth 100000 in
theorem one_jne_no (h : OneAt P og oc zs ps fb f w) (self : Nat) (a : Nat) (b : Nat) (c : Int) (n : Int) (ha : a < 16) (hb : b < 16) (hc : (f.r a != f.r b) = false) :
    Calls Try.prog 36 #[.pointer (some ⟨P.wb, 0, none⟩), .agg #[.int .i64 10, .int .i64 a, .int .i64 b, .int .i64 c, .int .i64 n], .int .i64 self, .pointer (some ⟨fb, 0, none⟩)] w (OneTo P og fb w 1 noNt 0 zs ps f) := by
  have HH := Lib.hid h
  clear h
  go_enter Try.func36, Try.ntmps36
  go_upto_region 33 with fail
  rename_i K hK K2 hK2
  generalize hW : ((w.alloc _).alloc _).alloc _ = W
  have HB := Lib.hid (began (x := ⟨10, a, b, c, n⟩) HH.out hW)
  clear hW
  obtain ⟨b0, b1, b2, b3, b4, _⟩ := cells5 HB.out.b
  have p0 := HB.out.at_.pcAt
  have p1 := HB.out.at_.free 0
  have x0 := HB.out.at_.regAt (j := a) ha
  have v0 : ((a : Nat) : Int) < 16 := by omega
  have x1 := HB.out.at_.regAt (j := b) hb
  have v1 : ((b : Nat) : Int) < 16 := by omega
  go_region
  show K2 _ _
  apply hK2
  clear hK2
  go_wp2_with fail
  rename_i K3 hK3
  go_region
  show K3 _ _
  apply hK3
  clear hK3
  generalize hW1 : W.drew.drew = W1
  have HB := Lib.hid (show Began P og oc zs ps fb f w ⟨10, a, b, c, n⟩ W1 by rw [← hW1]; exact HB.out.on (Kept.refl _ W).drew.drew)
  clear hW1 b0 b1 b2 b3 b4 p0 p1 x0 x1
  obtain ⟨b0, b1, b2, b3, b4, _⟩ := cells5 HB.out.b
  have p0 := HB.out.at_.pcAt
  have p1 := HB.out.at_.free 0
  go_wp2_with fail
  have HT := Lib.hid (show OneAt P og oc zs ps fb f W1 ∧ Kept (fun k => k = fb) W1 W1 from ⟨HB.out.at_, Kept.refl _ _⟩)
  clear b0 b1 b2 b3 b4 p0 p1
  obtain ⟨⟨y0, y1⟩, ⟨y2, y3⟩, y4⟩ := HB.out.ends HT.out.2 (fun q e => by rw [e]; exact HB.out.lt.1)
  have HF := Lib.hid (OneTo.of (P := P) (og := og) (fb := fb) (w := w) (k := 1) (came := 0) (note := noNt) HB.out.k HT.out.1 HT.out.2 (fun q e => .inr e) (.inl rfl) HB.out.lt (by have := HB.out.lt.2 og (.inr (.inl rfl)); omega))
  go_region
  all_goals go_wp2_with fail
  all_goals exact bodyPost_ret (one_results rfl rfl rfl (x := noNt) (g := w.heap.size + 1) (range2 _ _ _ _ y0 y1 y4)) rfl (HF.out _ ((((Kept.refl (fun q => q = w.heap.size + 1) W1).setCell _ _ (fun _ => rfl)).setCell _ _ (fun _ => rfl)).drew))

set_option maxHeartbeats 2000000 in
set_option maxRecDepth 100000 in
theorem one_jlt_yes (h : OneAt P og oc zs ps fb f w) (self : Nat) (a : Nat) (b : Nat) (c : Int) (n : Int) (ha : a < 16) (hb : b < 16) (hc : f.r a < f.r b) :
    Calls Try.prog 36 #[.pointer (some ⟨P.wb, 0, none⟩), .agg #[.int .i64 11, .int .i64 a, .int .i64 b, .int .i64 c, .int .i64 n], .int .i64 self, .pointer (some ⟨fb, 0, none⟩)] w (OneTo P og fb w 2 noNt 0 zs ps (f.go n)) := by
  have HH := Lib.hid h
  clear h
  go_enter Try.func36, Try.ntmps36
  go_upto_region 33 with fail
  rename_i K hK K2 hK2
  generalize hW : ((w.alloc _).alloc _).alloc _ = W
  have HB := Lib.hid (began (x := ⟨11, a, b, c, n⟩) HH.out hW)
  clear hW
  obtain ⟨b0, b1, b2, b3, b4, _⟩ := cells5 HB.out.b
  have p0 := HB.out.at_.pcAt
  have p1 := HB.out.at_.free 0
  have x0 := HB.out.at_.regAt (j := a) ha
  have v0 : ((a : Nat) : Int) < 16 := by omega
  have x1 := HB.out.at_.regAt (j := b) hb
  have v1 : ((b : Nat) : Int) < 16 := by omega
  go_region
  show K2 _ _
  apply hK2
  clear hK2
  go_wp2_with fail
  rename_i K3 hK3
  go_region
  show K3 _ _
  apply hK3
  clear hK3
  generalize hW1 : W.drew.drew = W1
  have HB := Lib.hid (show Began P og oc zs ps fb f w ⟨11, a, b, c, n⟩ W1 by rw [← hW1]; exact HB.out.on (Kept.refl _ W).drew.drew)
  clear hW1 b0 b1 b2 b3 b4 p0 p1 x0 x1
  obtain ⟨b0, b1, b2, b3, b4, _⟩ := cells5 HB.out.b
  have p0 := HB.out.at_.pcAt
  have p1 := HB.out.at_.free 0
  go_wp2_with fail
  generalize hW2 : W1.setCell _ _ = W2
  have HT := Lib.hid (show OneAt P og oc zs ps fb (f.go n) W2 ∧ Kept (fun k => k = fb) W1 W2 by
    rw [← hW2]
    exact HB.out.at_.go n)
  clear hW2
  clear b0 b1 b2 b3 b4 p0 p1 
  obtain ⟨⟨y0, y1⟩, ⟨y2, y3⟩, y4⟩ := HB.out.ends HT.out.2 (fun q e => by rw [e]; exact HB.out.lt.1)
  have HF := Lib.hid (OneTo.of (P := P) (og := og) (fb := fb) (w := w) (k := 2) (came := 0) (note := noNt) HB.out.k HT.out.1 HT.out.2 (fun q e => .inr e) (.inl rfl) HB.out.lt (by have := HB.out.lt.2 og (.inr (.inl rfl)); omega))
  go_region
  all_goals go_wp2_with fail
  all_goals exact bodyPost_ret (one_results rfl rfl rfl (x := noNt) (g := w.heap.size + 1) (range2 _ _ _ _ y0 y1 y4)) rfl (HF.out _ ((((Kept.refl (fun q => q = w.heap.size + 1) W2).setCell _ _ (fun _ => rfl)).setCell _ _ (fun _ => rfl)).drew))

set_option maxHeartbeats 2000000 in
set_option maxRecDepth 100000 in
theorem one_jlt_no (h : OneAt P og oc zs ps fb f w) (self : Nat) (a : Nat) (b : Nat) (c : Int) (n : Int) (ha : a < 16) (hb : b < 16) (hc : ¬ f.r a < f.r b) :
    Calls Try.prog 36 #[.pointer (some ⟨P.wb, 0, none⟩), .agg #[.int .i64 11, .int .i64 a, .int .i64 b, .int .i64 c, .int .i64 n], .int .i64 self, .pointer (some ⟨fb, 0, none⟩)] w (OneTo P og fb w 1 noNt 0 zs ps f) := by
  have HH := Lib.hid h
  clear h
  go_enter Try.func36, Try.ntmps36
  go_upto_region 33 with fail
  rename_i K hK K2 hK2
  generalize hW : ((w.alloc _).alloc _).alloc _ = W
  have HB := Lib.hid (began (x := ⟨11, a, b, c, n⟩) HH.out hW)
  clear hW
  obtain ⟨b0, b1, b2, b3, b4, _⟩ := cells5 HB.out.b
  have p0 := HB.out.at_.pcAt
  have p1 := HB.out.at_.free 0
  have x0 := HB.out.at_.regAt (j := a) ha
  have v0 : ((a : Nat) : Int) < 16 := by omega
  have x1 := HB.out.at_.regAt (j := b) hb
  have v1 : ((b : Nat) : Int) < 16 := by omega
  go_region
  show K2 _ _
  apply hK2
  clear hK2
  go_wp2_with fail
  rename_i K3 hK3
  go_region
  show K3 _ _
  apply hK3
  clear hK3
  generalize hW1 : W.drew.drew = W1
  have HB := Lib.hid (show Began P og oc zs ps fb f w ⟨11, a, b, c, n⟩ W1 by rw [← hW1]; exact HB.out.on (Kept.refl _ W).drew.drew)
  clear hW1 b0 b1 b2 b3 b4 p0 p1 x0 x1
  obtain ⟨b0, b1, b2, b3, b4, _⟩ := cells5 HB.out.b
  have p0 := HB.out.at_.pcAt
  have p1 := HB.out.at_.free 0
  go_wp2_with fail
  have HT := Lib.hid (show OneAt P og oc zs ps fb f W1 ∧ Kept (fun k => k = fb) W1 W1 from ⟨HB.out.at_, Kept.refl _ _⟩)
  clear b0 b1 b2 b3 b4 p0 p1
  obtain ⟨⟨y0, y1⟩, ⟨y2, y3⟩, y4⟩ := HB.out.ends HT.out.2 (fun q e => by rw [e]; exact HB.out.lt.1)
  have HF := Lib.hid (OneTo.of (P := P) (og := og) (fb := fb) (w := w) (k := 1) (came := 0) (note := noNt) HB.out.k HT.out.1 HT.out.2 (fun q e => .inr e) (.inl rfl) HB.out.lt (by have := HB.out.lt.2 og (.inr (.inl rfl)); omega))
  go_region
  all_goals go_wp2_with fail
  all_goals exact bodyPost_ret (one_results rfl rfl rfl (x := noNt) (g := w.heap.size + 1) (range2 _ _ _ _ y0 y1 y4)) rfl (HF.out _ ((((Kept.refl (fun q => q = w.heap.size + 1) W1).setCell _ _ (fun _ => rfl)).setCell _ _ (fun _ => rfl)).drew))
end

end Go.Proofs.Ytofnomkedpagfaa
