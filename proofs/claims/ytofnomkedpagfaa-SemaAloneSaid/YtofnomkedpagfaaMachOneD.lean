/-
  What the document's machine does with threads, and at a step's end: park, unpark, intr, setint, mark, done.
  Conditions: the world lies in memory, and the frame in a block of its own; registers' numbers are below 16.
-/
import Derived.Test.YtofnomkedpagfaaMachOne
namespace Go.Proofs.Ytofnomkedpagfaa
open Go.RowKit
set_option linter.unusedVariables false
set_option linter.unusedSimpArgs false

section
variable {P : Wp} {og oc : Nat} {zs : List Int} {ps : List Pk} {fb : Nat} {f : Fr} {w : World}

set_option maxHeartbeats 2000000 in
set_option maxRecDepth 100000 in
theorem one_setint (h : OneAt P og oc zs ps fb f w) (self : Nat) (a : Int) (b : Int) (c : Int) (n : Int)  (p : Pk) (hp : ps[self]? = some p) :
    Calls Try.prog 36 #[.pointer (some ⟨P.wb, 0, none⟩), .agg #[.int .i64 20, .int .i64 a, .int .i64 b, .int .i64 c, .int .i64 n], .int .i64 self, .pointer (some ⟨fb, 0, none⟩)] w (OneTo P og fb w 1 noNt 0 zs (ps.set self { p with flag := true }) f) := by
  have HH := Lib.hid h
  clear h
  go_enter Try.func36, Try.ntmps36
  go_upto_region 62 with fail
  rename_i K hK
  generalize hW : ((w.alloc _).alloc _).alloc _ = W
  have HB := Lib.hid (began (x := ⟨20, a, b, c, n⟩) HH.out hW)
  clear hW
  obtain ⟨b0, b1, b2, b3, b4, _⟩ := cells5 HB.out.b
  have z0 := HB.out.at_.rw.c2
  have z1 := HB.out.at_.rw.tab.c0
  have z2 := HB.out.at_.rw.tab.p1 hp
  have z3 := HB.out.at_.rw.tab.free (self * 4 + 1)
  have z4 : ((self : Nat) : Int) < (ps.length : Int) := by have := at_lt hp; omega
  go_wp2_with fail
  generalize hW2 : W.setCell _ _ = W2
  have HT := Lib.hid (show OneAt P og oc zs (ps.set self { p with flag := true }) fb f W2 ∧ Kept (fun k => k = P.tg) W W2 by
    rw [← hW2]
    obtain ⟨p1, p2⟩ := HB.out.at_.rw.turn ((TurnedRef.refl HB.out.at_.rw.tab).set 1 { p with flag := true } hp (by decide) rfl)
    exact ⟨OneAt.mk p1 (HB.out.at_.fr.kept p2 (fun e => HB.out.at_.far (.inr (.inr (.inr e))))) HB.out.at_.far, p2⟩)
  clear hW2
  clear b0 b1 b2 b3 b4 z0 z1 z2 z3
  obtain ⟨⟨y0, y1⟩, ⟨y2, y3⟩, y4⟩ := HB.out.ends HT.out.2 (fun q e => by rw [e]; exact HB.out.lt.2 _ (.inr (.inr (.inr rfl))))
  have HF := Lib.hid (OneTo.of (P := P) (og := og) (fb := fb) (w := w) (k := 1) (came := 0) (note := noNt) HB.out.k HT.out.1 HT.out.2 (fun q e => .inl (.inr (.inr (.inr e)))) (.inl rfl) HB.out.lt (by have := HB.out.lt.2 og (.inr (.inl rfl)); omega))
  go_region
  all_goals go_wp2_with fail
  all_goals exact bodyPost_ret (one_results rfl rfl rfl (x := noNt) (g := w.heap.size + 1) (range2 _ _ _ _ y0 y1 y4)) rfl (HF.out _ ((((Kept.refl (fun q => q = w.heap.size + 1) W2).setCell _ _ (fun _ => rfl)).setCell _ _ (fun _ => rfl)).drew))

set_option maxHeartbeats 2000000 in
set_option maxRecDepth 100000 in
theorem one_done (h : OneAt P og oc zs ps fb f w) (self : Nat) (a : Int) (b : Int) (c : Int) (n : Int)   :
    Calls Try.prog 36 #[.pointer (some ⟨P.wb, 0, none⟩), .agg #[.int .i64 22, .int .i64 a, .int .i64 b, .int .i64 c, .int .i64 n], .int .i64 self, .pointer (some ⟨fb, 0, none⟩)] w (OneTo P og fb w 3 noNt 2 zs ps f) := by
  have HH := Lib.hid h
  clear h
  go_enter Try.func36, Try.ntmps36
  go_wp2_with fail
  rename_i K hK
  generalize hW : ((w.alloc _).alloc _).alloc _ = W
  have HB := Lib.hid (began (x := ⟨22, a, b, c, n⟩) HH.out hW)
  clear hW
  obtain ⟨b0, b1, b2, b3, b4, _⟩ := cells5 HB.out.b
  have HT := Lib.hid (show OneAt P og oc zs ps fb f W ∧ Kept (fun k => k = fb) W W from ⟨HB.out.at_, Kept.refl _ _⟩)
  clear b0 b1 b2 b3 b4
  obtain ⟨⟨y0, y1⟩, ⟨y2, y3⟩, y4⟩ := HB.out.ends HT.out.2 (fun q e => by rw [e]; exact HB.out.lt.1)
  have HF := Lib.hid (OneTo.of (P := P) (og := og) (fb := fb) (w := w) (k := 3) (came := 2) (note := noNt) HB.out.k HT.out.1 HT.out.2 (fun q e => .inr e) (.inl rfl) HB.out.lt (by have := HB.out.lt.2 og (.inr (.inl rfl)); omega))
  go_region
  all_goals go_wp2_with fail
  all_goals exact bodyPost_ret (one_results rfl rfl rfl (x := noNt) (g := w.heap.size + 1) (range2 _ _ _ _ y0 y1 y4)) rfl (HF.out _ ((((Kept.refl (fun q => q = w.heap.size + 1) W).setCell _ _ (fun _ => rfl)).setCell _ _ (fun _ => rfl)).drew))

set_option maxHeartbeats 2000000 in
set_option maxRecDepth 100000 in
theorem one_mark (h : OneAt P og oc zs ps fb f w) (self : Nat) (a : Nat) (b : Int) (c : Int) (n : Int) (ha : a < 16)  :
    Calls Try.prog 36 #[.pointer (some ⟨P.wb, 0, none⟩), .agg #[.int .i64 21, .int .i64 a, .int .i64 b, .int .i64 c, .int .i64 n], .int .i64 self, .pointer (some ⟨fb, 0, none⟩)] w (OneTo P og fb w 1 ⟨n, f.r a⟩ 0 zs ps f) := by
  have HH := Lib.hid h
  clear h
  go_enter Try.func36, Try.ntmps36
  go_upto_region 64 with fail
  rename_i K hK
  generalize hW : ((w.alloc _).alloc _).alloc _ = W
  have HB := Lib.hid (began (x := ⟨21, a, b, c, n⟩) HH.out hW)
  clear hW
  obtain ⟨b0, b1, b2, b3, b4, _⟩ := cells5 HB.out.b
  have x0 := HB.out.at_.regAt (j := a) ha
  have v0 : ((a : Nat) : Int) < 16 := by omega
  have HT := Lib.hid (show OneAt P og oc zs ps fb f W ∧ Kept (fun k => k = fb) W W from ⟨HB.out.at_, Kept.refl _ _⟩)
  obtain ⟨⟨y0, y1⟩, ⟨y2, y3⟩, y4⟩ := HB.out.ends HT.out.2 (fun q e => by rw [e]; exact HB.out.lt.1)
  have HF := Lib.hid (OneTo.of (P := P) (og := og) (fb := fb) (w := w) (k := 1) (came := 0) (note := ⟨n, f.r a⟩) HB.out.k HT.out.1 HT.out.2 (fun q e => .inr e) (.inl rfl) HB.out.lt (by have := HB.out.lt.2 og (.inr (.inl rfl)); omega))
  go_region
  all_goals go_wp2_with fail
  all_goals exact bodyPost_ret (one_results rfl rfl rfl (x := ⟨n, f.r a⟩) (g := w.heap.size + 1) (range2 _ _ _ _ y0 y1 y4)) rfl (HF.out _ ((((Kept.refl (fun q => q = w.heap.size + 1) W).setCell _ _ (fun _ => rfl)).setCell _ _ (fun _ => rfl)).drew))

set_option maxHeartbeats 2000000 in
set_option maxRecDepth 100000 in
theorem one_intr_no (h : OneAt P og oc zs ps fb f w) (self : Nat) (a : Nat) (b : Int) (c : Int) (n : Int) (ha : a < 16) (p : Pk) (hp : ps[self]? = some p) (hfl : p.flag = false) :
    Calls Try.prog 36 #[.pointer (some ⟨P.wb, 0, none⟩), .agg #[.int .i64 19, .int .i64 a, .int .i64 b, .int .i64 c, .int .i64 n], .int .i64 self, .pointer (some ⟨fb, 0, none⟩)] w (OneTo P og fb w 1 noNt 0 zs (ps.set self p.clear) (f.put a 0)) := by
  have HH := Lib.hid h
  clear h
  go_enter Try.func36, Try.ntmps36
  go_upto_region 57 with fail
  rename_i K hK K2 hK2
  generalize hW : ((w.alloc _).alloc _).alloc _ = W
  have HB := Lib.hid (began (x := ⟨19, a, b, c, n⟩) HH.out hW)
  clear hW
  obtain ⟨b0, b1, b2, b3, b4, _⟩ := cells5 HB.out.b
  have x0 := HB.out.at_.regAt (j := a) ha
  have v0 : ((a : Nat) : Int) < 16 := by omega
  have f0 := HB.out.at_.free (1 + a)
  go_region
  show K2 _ _
  apply hK2
  clear hK2
  generalize hW3 : (W.setCell _ _).drew = W3
  have HT3 := Lib.hid (show OneAt P og oc zs ps fb (f.put a 0) W3 ∧ Kept (fun k => k = fb) W W3 by
    rw [← hW3]
    obtain ⟨p1, p2⟩ := HB.out.at_.put ha 0
    exact ⟨p1.kept0 (Kept.refl _ _).drew, p2.drew⟩)
  clear hW3 b0 b1 b2 b3 b4 x0 f0
  obtain ⟨b0, b1, b2, b3, b4, _⟩ := cells5 (HT3.out.2.at_ HB.out.b (fun e => by have := HB.out.lt.1; omega))
  have x0 := HT3.out.1.regAt (j := a) ha
  have f0 := HT3.out.1.free (1 + a)
  have z0 := HT3.out.1.rw.c2
  have z1 := HT3.out.1.rw.tab.c0
  have z2 := HT3.out.1.rw.tab.p1 hp
  have z3 := HT3.out.1.rw.tab.free (self * 4 + 1)
  have z4 : ((self : Nat) : Int) < (ps.length : Int) := by have := at_lt hp; omega
  rw [hfl] at z2
  go_wp2_with fail
  generalize hW2 : W3.setCell _ _ = W2
  have HT := Lib.hid (show OneAt P og oc zs (ps.set self p.clear) fb (f.put a 0) W2 ∧ Kept (fun k => k = fb ∨ k = P.tg) W W2 by
    rw [← hW2]
    obtain ⟨p1, p2⟩ := HT3.out.1.rw.turn ((TurnedRef.refl HT3.out.1.rw.tab).set 1 p.clear hp (by decide) rfl)
    exact ⟨OneAt.mk p1 (HT3.out.1.fr.kept p2 (fun e => HT3.out.1.far (.inr (.inr (.inr e))))) HT3.out.1.far, (HT3.out.2.mono (fun _ _ e => .inl e)).trans p2 (fun _ _ e => .inr e)⟩)
  clear hW2
  clear b0 b1 b2 b3 b4 x0 f0 z0 z1 z2 z3
  obtain ⟨⟨y0, y1⟩, ⟨y2, y3⟩, y4⟩ := HB.out.ends HT.out.2 (fun q e => e.elim (fun e => by rw [e]; exact HB.out.lt.1) (fun e => by rw [e]; exact HB.out.lt.2 _ (.inr (.inr (.inr rfl)))))
  have HF := Lib.hid (OneTo.of (P := P) (og := og) (fb := fb) (w := w) (k := 1) (came := 0) (note := noNt) HB.out.k HT.out.1 HT.out.2 (fun q e => e.elim (fun e => .inr e) (fun e => .inl (.inr (.inr (.inr e))))) (.inl rfl) HB.out.lt (by have := HB.out.lt.2 og (.inr (.inl rfl)); omega))
  go_region
  all_goals go_wp2_with fail
  all_goals exact bodyPost_ret (one_results rfl rfl rfl (x := noNt) (g := w.heap.size + 1) (range2 _ _ _ _ y0 y1 y4)) rfl (HF.out _ ((((Kept.refl (fun q => q = w.heap.size + 1) W2).setCell _ _ (fun _ => rfl)).setCell _ _ (fun _ => rfl)).drew))

set_option maxHeartbeats 2000000 in
set_option maxRecDepth 100000 in
theorem one_intr_yes (h : OneAt P og oc zs ps fb f w) (self : Nat) (a : Nat) (b : Int) (c : Int) (n : Int) (ha : a < 16) (p : Pk) (hp : ps[self]? = some p) (hfl : p.flag = true) :
    Calls Try.prog 36 #[.pointer (some ⟨P.wb, 0, none⟩), .agg #[.int .i64 19, .int .i64 a, .int .i64 b, .int .i64 c, .int .i64 n], .int .i64 self, .pointer (some ⟨fb, 0, none⟩)] w (OneTo P og fb w 1 noNt 0 zs (ps.set self p.clear) (f.put a 1)) := by
  have HH := Lib.hid h
  clear h
  go_enter Try.func36, Try.ntmps36
  go_upto_region 57 with fail
  rename_i K hK K2 hK2
  generalize hW : ((w.alloc _).alloc _).alloc _ = W
  have HB := Lib.hid (began (x := ⟨19, a, b, c, n⟩) HH.out hW)
  clear hW
  obtain ⟨b0, b1, b2, b3, b4, _⟩ := cells5 HB.out.b
  have x0 := HB.out.at_.regAt (j := a) ha
  have v0 : ((a : Nat) : Int) < 16 := by omega
  have f0 := HB.out.at_.free (1 + a)
  go_region
  show K2 _ _
  apply hK2
  clear hK2
  generalize hW3 : (W.setCell _ _).drew = W3
  have HT3 := Lib.hid (show OneAt P og oc zs ps fb (f.put a 0) W3 ∧ Kept (fun k => k = fb) W W3 by
    rw [← hW3]
    obtain ⟨p1, p2⟩ := HB.out.at_.put ha 0
    exact ⟨p1.kept0 (Kept.refl _ _).drew, p2.drew⟩)
  clear hW3 b0 b1 b2 b3 b4 x0 f0
  obtain ⟨b0, b1, b2, b3, b4, _⟩ := cells5 (HT3.out.2.at_ HB.out.b (fun e => by have := HB.out.lt.1; omega))
  have x0 := HT3.out.1.regAt (j := a) ha
  have f0 := HT3.out.1.free (1 + a)
  have z0 := HT3.out.1.rw.c2
  have z1 := HT3.out.1.rw.tab.c0
  have z2 := HT3.out.1.rw.tab.p1 hp
  have z3 := HT3.out.1.rw.tab.free (self * 4 + 1)
  have z4 : ((self : Nat) : Int) < (ps.length : Int) := by have := at_lt hp; omega
  rw [hfl] at z2
  go_wp2_with fail
  rename_i K3 hK3
  go_region
  show K3 _ _
  apply hK3
  clear hK3
  generalize hW4 : (W3.setCell _ _).drew = W4
  have HT4 := Lib.hid (show OneAt P og oc zs ps fb (f.put a 1) W4 ∧ Kept (fun k => k = fb) W W4 by
    rw [← hW4]
    obtain ⟨p1, p2⟩ := HT3.out.1.put ha 1
    rw [Fr.put_put] at p1
    exact ⟨p1.kept0 (Kept.refl _ _).drew, HT3.out.2.trans p2.drew (fun _ _ e => e)⟩)
  clear hW4 b0 b1 b2 b3 b4 x0 f0 z0 z1 z2 z3
  have z0 := HT4.out.1.rw.c2
  have z1 := HT4.out.1.rw.tab.c0
  have z2 := HT4.out.1.rw.tab.p1 hp
  have z3 := HT4.out.1.rw.tab.free (self * 4 + 1)
  have z5 : ((self : Nat) : Int) < (ps.length : Int) := by have := at_lt hp; omega
  go_wp2_with fail
  generalize hW2 : W4.setCell _ _ = W2
  have HT := Lib.hid (show OneAt P og oc zs (ps.set self p.clear) fb (f.put a 1) W2 ∧ Kept (fun k => k = fb ∨ k = P.tg) W W2 by
    rw [← hW2]
    obtain ⟨p1, p2⟩ := HT4.out.1.rw.turn ((TurnedRef.refl HT4.out.1.rw.tab).set 1 p.clear hp (by decide) rfl)
    exact ⟨OneAt.mk p1 (HT4.out.1.fr.kept p2 (fun e => HT4.out.1.far (.inr (.inr (.inr e))))) HT4.out.1.far, (HT4.out.2.mono (fun _ _ e => .inl e)).trans p2 (fun _ _ e => .inr e)⟩)
  clear hW2
  clear z0 z1 z2 z3
  obtain ⟨⟨y0, y1⟩, ⟨y2, y3⟩, y4⟩ := HB.out.ends HT.out.2 (fun q e => e.elim (fun e => by rw [e]; exact HB.out.lt.1) (fun e => by rw [e]; exact HB.out.lt.2 _ (.inr (.inr (.inr rfl)))))
  have HF := Lib.hid (OneTo.of (P := P) (og := og) (fb := fb) (w := w) (k := 1) (came := 0) (note := noNt) HB.out.k HT.out.1 HT.out.2 (fun q e => e.elim (fun e => .inr e) (fun e => .inl (.inr (.inr (.inr e))))) (.inl rfl) HB.out.lt (by have := HB.out.lt.2 og (.inr (.inl rfl)); omega))
  go_region
  all_goals go_wp2_with fail
  all_goals exact bodyPost_ret (one_results rfl rfl rfl (x := noNt) (g := w.heap.size + 1) (range2 _ _ _ _ y0 y1 y4)) rfl (HF.out _ ((((Kept.refl (fun q => q = w.heap.size + 1) W2).setCell _ _ (fun _ => rfl)).setCell _ _ (fun _ => rfl)).drew))
end

end Go.Proofs.Ytofnomkedpagfaa
