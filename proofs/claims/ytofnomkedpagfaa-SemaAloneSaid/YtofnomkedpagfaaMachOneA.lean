/-
  What the document's machine does with its registers: set, mov, add, addi, self, now.
  Conditions: the world lies in memory, and the frame in a block of its own; registers' numbers are below 16.
-/
import Derived.Test.YtofnomkedpagfaaMachOne
namespace Go.Proofs.Ytofnomkedpagfaa
open Go.RowKit
set_option linter.unusedVariables false
set_option linter.unusedSimpArgs false

section
variable {P : Wp} {og oc : Nat} {zs : List Int} {ps : List Pk} {fb : Nat} {f : Fr} {w : World}

set_option maxHeartbeats 2000000 in
set_option maxRecDepth 100000 in
theorem one_set (h : OneAt P og oc zs ps fb f w) (self : Nat) (a : Nat) (b : Int) (c : Int) (n : Int) (ha : a < 16)  :
    Calls Try.prog 36 #[.pointer (some ⟨P.wb, 0, none⟩), .agg #[.int .i64 1, .int .i64 a, .int .i64 b, .int .i64 c, .int .i64 n], .int .i64 self, .pointer (some ⟨fb, 0, none⟩)] w (OneTo P og fb w 1 noNt 0 zs ps (f.put a n)) := by
  have HH := Lib.hid h
  clear h
  go_enter Try.func36, Try.ntmps36
  go_wp2_with fail
  rename_i K hK
  generalize hW : ((w.alloc _).alloc _).alloc _ = W
  have HB := Lib.hid (began (x := ⟨1, a, b, c, n⟩) HH.out hW)
  clear hW
  obtain ⟨b0, b1, b2, b3, b4, _⟩ := cells5 HB.out.b
  have x0 := HB.out.at_.regAt (j := a) ha
  have v0 : ((a : Nat) : Int) < 16 := by omega
  have f0 := HB.out.at_.free (1 + a)
  go_region
  all_goals
    show K _ _
    apply hK
    generalize hW2 : (W.setCell _ _).drew = W2
    have HT := Lib.hid (show OneAt P og oc zs ps fb (f.put a n) W2 ∧ Kept (fun k => k = fb) W W2 by
      rw [← hW2]
      obtain ⟨p1, p2⟩ := HB.out.at_.put ha n
      exact ⟨p1.kept0 (Kept.refl _ _).drew, p2.drew⟩)
    clear hW2
    clear b0 b1 b2 b3 b4 x0 f0
    obtain ⟨⟨y0, y1⟩, ⟨y2, y3⟩, y4⟩ := HB.out.ends HT.out.2 (fun q e => by rw [e]; exact HB.out.lt.1)
    have HF := Lib.hid (OneTo.of (P := P) (og := og) (fb := fb) (w := w) (k := 1) (came := 0) (note := noNt) HB.out.k HT.out.1 HT.out.2 (fun q e => .inr e) (.inl rfl) HB.out.lt (by have := HB.out.lt.2 og (.inr (.inl rfl)); omega))
    go_wp2_with fail
    go_region
    all_goals go_wp2_with fail
    all_goals exact bodyPost_ret (one_results rfl rfl rfl (x := noNt) (g := w.heap.size + 1) (range2 _ _ _ _ y0 y1 y4)) rfl (HF.out _ ((((Kept.refl (fun q => q = w.heap.size + 1) W2).setCell _ _ (fun _ => rfl)).setCell _ _ (fun _ => rfl)).drew))

set_option maxHeartbeats 2000000 in
set_option maxRecDepth 100000 in
theorem one_mov (h : OneAt P og oc zs ps fb f w) (self : Nat) (a : Nat) (b : Nat) (c : Int) (n : Int) (ha : a < 16) (hb : b < 16)  :
    Calls Try.prog 36 #[.pointer (some ⟨P.wb, 0, none⟩), .agg #[.int .i64 2, .int .i64 a, .int .i64 b, .int .i64 c, .int .i64 n], .int .i64 self, .pointer (some ⟨fb, 0, none⟩)] w (OneTo P og fb w 1 noNt 0 zs ps (f.put a (f.r b))) := by
  have HH := Lib.hid h
  clear h
  go_enter Try.func36, Try.ntmps36
  go_wp2_with fail
  rename_i K hK
  generalize hW : ((w.alloc _).alloc _).alloc _ = W
  have HB := Lib.hid (began (x := ⟨2, a, b, c, n⟩) HH.out hW)
  clear hW
  obtain ⟨b0, b1, b2, b3, b4, _⟩ := cells5 HB.out.b
  have x0 := HB.out.at_.regAt (j := a) ha
  have v0 : ((a : Nat) : Int) < 16 := by omega
  have f0 := HB.out.at_.free (1 + a)
  have x1 := HB.out.at_.regAt (j := b) hb
  have v1 : ((b : Nat) : Int) < 16 := by omega
  go_region
  all_goals
    show K _ _
    apply hK
    generalize hW2 : (W.setCell _ _).drew = W2
    have HT := Lib.hid (show OneAt P og oc zs ps fb (f.put a (f.r b)) W2 ∧ Kept (fun k => k = fb) W W2 by
      rw [← hW2]
      obtain ⟨p1, p2⟩ := HB.out.at_.put ha (f.r b)
      exact ⟨p1.kept0 (Kept.refl _ _).drew, p2.drew⟩)
    clear hW2
    clear b0 b1 b2 b3 b4 x0 f0 x1
    obtain ⟨⟨y0, y1⟩, ⟨y2, y3⟩, y4⟩ := HB.out.ends HT.out.2 (fun q e => by rw [e]; exact HB.out.lt.1)
    have HF := Lib.hid (OneTo.of (P := P) (og := og) (fb := fb) (w := w) (k := 1) (came := 0) (note := noNt) HB.out.k HT.out.1 HT.out.2 (fun q e => .inr e) (.inl rfl) HB.out.lt (by have := HB.out.lt.2 og (.inr (.inl rfl)); omega))
    go_wp2_with fail
    go_region
    all_goals go_wp2_with fail
    all_goals exact bodyPost_ret (one_results rfl rfl rfl (x := noNt) (g := w.heap.size + 1) (range2 _ _ _ _ y0 y1 y4)) rfl (HF.out _ ((((Kept.refl (fun q => q = w.heap.size + 1) W2).setCell _ _ (fun _ => rfl)).setCell _ _ (fun _ => rfl)).drew))

set_option maxHeartbeats 2000000 in
set_option maxRecDepth 100000 in
theorem one_add (h : OneAt P og oc zs ps fb f w) (self : Nat) (a : Nat) (b : Nat) (c : Nat) (n : Int) (ha : a < 16) (hb : b < 16) (hc : c < 16)  :
    Calls Try.prog 36 #[.pointer (some ⟨P.wb, 0, none⟩), .agg #[.int .i64 3, .int .i64 a, .int .i64 b, .int .i64 c, .int .i64 n], .int .i64 self, .pointer (some ⟨fb, 0, none⟩)] w (OneTo P og fb w 1 noNt 0 zs ps (f.put a (wrap64 (f.r b + f.r c)))) := by
  have HH := Lib.hid h
  clear h
  go_enter Try.func36, Try.ntmps36
  go_wp2_with fail
  rename_i K hK
  generalize hW : ((w.alloc _).alloc _).alloc _ = W
  have HB := Lib.hid (began (x := ⟨3, a, b, c, n⟩) HH.out hW)
  clear hW
  obtain ⟨b0, b1, b2, b3, b4, _⟩ := cells5 HB.out.b
  have x0 := HB.out.at_.regAt (j := a) ha
  have v0 : ((a : Nat) : Int) < 16 := by omega
  have f0 := HB.out.at_.free (1 + a)
  have x1 := HB.out.at_.regAt (j := b) hb
  have v1 : ((b : Nat) : Int) < 16 := by omega
  have x2 := HB.out.at_.regAt (j := c) hc
  have v2 : ((c : Nat) : Int) < 16 := by omega
  go_region
  all_goals
    show K _ _
    apply hK
    generalize hW2 : (W.setCell _ _).drew = W2
    have HT := Lib.hid (show OneAt P og oc zs ps fb (f.put a (wrap64 (f.r b + f.r c))) W2 ∧ Kept (fun k => k = fb) W W2 by
      rw [← hW2]
      obtain ⟨p1, p2⟩ := HB.out.at_.put ha (wrap64 (f.r b + f.r c))
      exact ⟨p1.kept0 (Kept.refl _ _).drew, p2.drew⟩)
    clear hW2
    clear b0 b1 b2 b3 b4 x0 f0 x1 x2
    obtain ⟨⟨y0, y1⟩, ⟨y2, y3⟩, y4⟩ := HB.out.ends HT.out.2 (fun q e => by rw [e]; exact HB.out.lt.1)
    have HF := Lib.hid (OneTo.of (P := P) (og := og) (fb := fb) (w := w) (k := 1) (came := 0) (note := noNt) HB.out.k HT.out.1 HT.out.2 (fun q e => .inr e) (.inl rfl) HB.out.lt (by have := HB.out.lt.2 og (.inr (.inl rfl)); omega))
    go_wp2_with fail
    go_region
    all_goals go_wp2_with fail
    all_goals exact bodyPost_ret (one_results rfl rfl rfl (x := noNt) (g := w.heap.size + 1) (range2 _ _ _ _ y0 y1 y4)) rfl (HF.out _ ((((Kept.refl (fun q => q = w.heap.size + 1) W2).setCell _ _ (fun _ => rfl)).setCell _ _ (fun _ => rfl)).drew))

set_option maxHeartbeats 2000000 in
set_option maxRecDepth 100000 in
theorem one_addi (h : OneAt P og oc zs ps fb f w) (self : Nat) (a : Nat) (b : Nat) (c : Int) (n : Int) (ha : a < 16) (hb : b < 16)  :
    Calls Try.prog 36 #[.pointer (some ⟨P.wb, 0, none⟩), .agg #[.int .i64 4, .int .i64 a, .int .i64 b, .int .i64 c, .int .i64 n], .int .i64 self, .pointer (some ⟨fb, 0, none⟩)] w (OneTo P og fb w 1 noNt 0 zs ps (f.put a (wrap64 (f.r b + n)))) := by
  have HH := Lib.hid h
  clear h
  go_enter Try.func36, Try.ntmps36
  go_wp2_with fail
  rename_i K hK
  generalize hW : ((w.alloc _).alloc _).alloc _ = W
  have HB := Lib.hid (began (x := ⟨4, a, b, c, n⟩) HH.out hW)
  clear hW
  obtain ⟨b0, b1, b2, b3, b4, _⟩ := cells5 HB.out.b
  have x0 := HB.out.at_.regAt (j := a) ha
  have v0 : ((a : Nat) : Int) < 16 := by omega
  have f0 := HB.out.at_.free (1 + a)
  have x1 := HB.out.at_.regAt (j := b) hb
  have v1 : ((b : Nat) : Int) < 16 := by omega
  go_region
  all_goals
    show K _ _
    apply hK
    generalize hW2 : (W.setCell _ _).drew = W2
    have HT := Lib.hid (show OneAt P og oc zs ps fb (f.put a (wrap64 (f.r b + n))) W2 ∧ Kept (fun k => k = fb) W W2 by
      rw [← hW2]
      obtain ⟨p1, p2⟩ := HB.out.at_.put ha (wrap64 (f.r b + n))
      exact ⟨p1.kept0 (Kept.refl _ _).drew, p2.drew⟩)
    clear hW2
    clear b0 b1 b2 b3 b4 x0 f0 x1
    obtain ⟨⟨y0, y1⟩, ⟨y2, y3⟩, y4⟩ := HB.out.ends HT.out.2 (fun q e => by rw [e]; exact HB.out.lt.1)
    have HF := Lib.hid (OneTo.of (P := P) (og := og) (fb := fb) (w := w) (k := 1) (came := 0) (note := noNt) HB.out.k HT.out.1 HT.out.2 (fun q e => .inr e) (.inl rfl) HB.out.lt (by have := HB.out.lt.2 og (.inr (.inl rfl)); omega))
    go_wp2_with fail
    go_region
    all_goals go_wp2_with fail
    all_goals exact bodyPost_ret (one_results rfl rfl rfl (x := noNt) (g := w.heap.size + 1) (range2 _ _ _ _ y0 y1 y4)) rfl (HF.out _ ((((Kept.refl (fun q => q = w.heap.size + 1) W2).setCell _ _ (fun _ => rfl)).setCell _ _ (fun _ => rfl)).drew))

set_option maxHeartbeats 2000000 in
set_option maxRecDepth 100000 in
theorem one_self (h : OneAt P og oc zs ps fb f w) (self : Nat) (a : Nat) (b : Int) (c : Int) (n : Int) (ha : a < 16)  :
    Calls Try.prog 36 #[.pointer (some ⟨P.wb, 0, none⟩), .agg #[.int .i64 17, .int .i64 a, .int .i64 b, .int .i64 c, .int .i64 n], .int .i64 self, .pointer (some ⟨fb, 0, none⟩)] w (OneTo P og fb w 1 noNt 0 zs ps (f.put a self)) := by
  have HH := Lib.hid h
  clear h
  go_enter Try.func36, Try.ntmps36
  go_wp2_with fail
  rename_i K hK
  generalize hW : ((w.alloc _).alloc _).alloc _ = W
  have HB := Lib.hid (began (x := ⟨17, a, b, c, n⟩) HH.out hW)
  clear hW
  obtain ⟨b0, b1, b2, b3, b4, _⟩ := cells5 HB.out.b
  have x0 := HB.out.at_.regAt (j := a) ha
  have v0 : ((a : Nat) : Int) < 16 := by omega
  have f0 := HB.out.at_.free (1 + a)
  go_region
  all_goals
    show K _ _
    apply hK
    generalize hW2 : (W.setCell _ _).drew = W2
    have HT := Lib.hid (show OneAt P og oc zs ps fb (f.put a self) W2 ∧ Kept (fun k => k = fb) W W2 by
      rw [← hW2]
      obtain ⟨p1, p2⟩ := HB.out.at_.put ha self
      exact ⟨p1.kept0 (Kept.refl _ _).drew, p2.drew⟩)
    clear hW2
    clear b0 b1 b2 b3 b4 x0 f0
    obtain ⟨⟨y0, y1⟩, ⟨y2, y3⟩, y4⟩ := HB.out.ends HT.out.2 (fun q e => by rw [e]; exact HB.out.lt.1)
    have HF := Lib.hid (OneTo.of (P := P) (og := og) (fb := fb) (w := w) (k := 1) (came := 0) (note := noNt) HB.out.k HT.out.1 HT.out.2 (fun q e => .inr e) (.inl rfl) HB.out.lt (by have := HB.out.lt.2 og (.inr (.inl rfl)); omega))
    go_wp2_with fail
    go_region
    all_goals go_wp2_with fail
    all_goals exact bodyPost_ret (one_results rfl rfl rfl (x := noNt) (g := w.heap.size + 1) (range2 _ _ _ _ y0 y1 y4)) rfl (HF.out _ ((((Kept.refl (fun q => q = w.heap.size + 1) W2).setCell _ _ (fun _ => rfl)).setCell _ _ (fun _ => rfl)).drew))

set_option maxHeartbeats 2000000 in
set_option maxRecDepth 100000 in
theorem one_now (h : OneAt P og oc zs ps fb f w) (self : Nat) (a : Nat) (b : Int) (c : Int) (n : Int) (ha : a < 16)  :
    Calls Try.prog 36 #[.pointer (some ⟨P.wb, 0, none⟩), .agg #[.int .i64 18, .int .i64 a, .int .i64 b, .int .i64 c, .int .i64 n], .int .i64 self, .pointer (some ⟨fb, 0, none⟩)] w (OneTo P og fb w 1 noNt 0 zs ps (f.put a P.now)) := by
  have HH := Lib.hid h
  clear h
  go_enter Try.func36, Try.ntmps36
  go_wp2_with fail
  rename_i K hK
  generalize hW : ((w.alloc _).alloc _).alloc _ = W
  have HB := Lib.hid (began (x := ⟨18, a, b, c, n⟩) HH.out hW)
  clear hW
  obtain ⟨b0, b1, b2, b3, b4, _⟩ := cells5 HB.out.b
  have x0 := HB.out.at_.regAt (j := a) ha
  have v0 : ((a : Nat) : Int) < 16 := by omega
  have f0 := HB.out.at_.free (1 + a)
  have z0 := HB.out.at_.rw.c2
  have z1 := HB.out.at_.rw.tab.c1
  go_region
  all_goals
    show K _ _
    apply hK
    generalize hW2 : (W.setCell _ _).drew = W2
    have HT := Lib.hid (show OneAt P og oc zs ps fb (f.put a P.now) W2 ∧ Kept (fun k => k = fb) W W2 by
      rw [← hW2]
      obtain ⟨p1, p2⟩ := HB.out.at_.put ha P.now
      exact ⟨p1.kept0 (Kept.refl _ _).drew, p2.drew⟩)
    clear hW2
    clear b0 b1 b2 b3 b4 x0 f0 z0 z1
    obtain ⟨⟨y0, y1⟩, ⟨y2, y3⟩, y4⟩ := HB.out.ends HT.out.2 (fun q e => by rw [e]; exact HB.out.lt.1)
    have HF := Lib.hid (OneTo.of (P := P) (og := og) (fb := fb) (w := w) (k := 1) (came := 0) (note := noNt) HB.out.k HT.out.1 HT.out.2 (fun q e => .inr e) (.inl rfl) HB.out.lt (by have := HB.out.lt.2 og (.inr (.inl rfl)); omega))
    go_wp2_with fail
    go_region
    all_goals go_wp2_with fail
    all_goals exact bodyPost_ret (one_results rfl rfl rfl (x := noNt) (g := w.heap.size + 1) (range2 _ _ _ _ y0 y1 y4)) rfl (HF.out _ ((((Kept.refl (fun q => q = w.heap.size + 1) W2).setCell _ _ (fun _ => rfl)).setCell _ _ (fun _ => rfl)).drew))
end

end Go.Proofs.Ytofnomkedpagfaa
