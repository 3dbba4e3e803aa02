/-
  What the document's machine does with its cells: whether one is there, ld, st, cas.
  Conditions: the world lies in memory, and the frame in a block of its own; registers' numbers are below 16.
-/
import Derived.Test.YtofnomkedpagfaaMachOne
namespace Go.Proofs.Ytofnomkedpagfaa
open Go.RowKit
set_option linter.unusedVariables false
set_option linter.unusedSimpArgs false

section
variable {P : Wp} {og oc : Nat} {zs : List Int} {ps : List Pk} {fb : Nat} {f : Fr} {w : World}
theorem in_yes (h : RW P og oc zs ps w) (p : Int) (h1 : 1 ≤ p) (h2 : p ≤ (zs.length : Int)) : Calls Try.prog 45 #[.pointer (some ⟨P.wb, 0, none⟩), .int .i64 p] w fun e w' => e = .returned (.bool true) ∧ Kept (fun _ => False) w w' := by
  have c0 := h.c0
  have q1 : decide (1 ≤ p) = true := by simpa using h1
  have q2 : decide (p ≤ (zs.length : Int)) = true := by simpa using h2
  have HK := Lib.hid (Kept.refl (fun _ => False) w)
  clear h
  go_enter Try.func45, Try.ntmps45
  go_wp2_with fail
  go_ret
  exact ⟨rfl, HK.out⟩

set_option maxHeartbeats 2000000 in
set_option maxRecDepth 100000 in
theorem one_ld (h : OneAt P og oc zs ps fb f w) (self : Nat) (a : Nat) (b : Nat) (c : Int) (n : Int) (ha : a < 16) (hb : b < 16) (q : Nat) (z : Int) (hq : q < zs.length) (hp : wrap64 (f.r b + n) = (q : Int) + 1) (hz : zs.getD q 0 = z) :
    Calls Try.prog 36 #[.pointer (some ⟨P.wb, 0, none⟩), .agg #[.int .i64 5, .int .i64 a, .int .i64 b, .int .i64 c, .int .i64 n], .int .i64 self, .pointer (some ⟨fb, 0, none⟩)] w (OneTo P og fb w 1 noNt 0 zs ps (f.put a z)) := by
  have HH := Lib.hid h
  clear h
  go_enter Try.func36, Try.ntmps36
  go_wp2_with fail
  rename_i K hK K2 hK2
  generalize hW : ((w.alloc _).alloc _).alloc _ = W
  have HB := Lib.hid (began (x := ⟨5, a, b, c, n⟩) HH.out hW)
  clear hW
  obtain ⟨b0, b1, b2, b3, b4, _⟩ := cells5 HB.out.b
  have x1 := HB.out.at_.regAt (j := b) hb
  have v1 : ((b : Nat) : Int) < 16 := by omega
  have HP := Lib.hid hp; clear hp
  go_region
  show K2 _ _
  apply hK2
  clear hK2
  rw [HP.out]
  generalize hW1 : W.drew = W1
  have HB := Lib.hid (show Began P og oc zs ps fb f w ⟨5, a, b, c, n⟩ W1 by rw [← hW1]; exact HB.out.on (Kept.refl _ W).drew)
  clear hW1 b0 b1 b2 b3 b4 x1
  obtain ⟨b0, b1, b2, b3, b4, _⟩ := cells5 HB.out.b
  go_wp2_with fail
  refine (in_yes HB.out.at_.rw ((q : Int) + 1) (by omega) (by omega)).mono ?_
  rintro e W ⟨rfl, hk⟩
  have HB := Lib.hid (HB.out.on hk)
  clear hk b0 b1 b2 b3 b4
  obtain ⟨b0, b1, b2, b3, b4, _⟩ := cells5 HB.out.b
  have hq9 : (q : Int) ≤ 4096 := by have := HB.out.at_.rw.most; omega
  have hq8 : (q : Int) < (zs.length : Int) := by omega
  go_wp2_with fail
  have z0 := HB.out.at_.rw.c0
  have z1 := HB.out.at_.rw.at hq
  rw [hz] at z1
  have x0 := HB.out.at_.regAt (j := a) ha
  have v0 : ((a : Nat) : Int) < 16 := by omega
  have f0 := HB.out.at_.free (1 + a)
  go_region
  all_goals
    show K _ _
    apply hK
    generalize hW2 : (W.setCell _ _).drew = W2
    have HT := Lib.hid (show OneAt P og oc zs ps fb (f.put a z) W2 ∧ Kept (fun k => k = fb) W W2 by
      rw [← hW2]
      obtain ⟨p1, p2⟩ := HB.out.at_.put ha z
      exact ⟨p1.kept0 (Kept.refl _ _).drew, p2.drew⟩)
    clear hW2
    clear b0 b1 b2 b3 b4 x0 f0 z0 z1
    obtain ⟨⟨y0, y1⟩, ⟨y2, y3⟩, y4⟩ := HB.out.ends HT.out.2 (fun q e => by rw [e]; exact HB.out.lt.1)
    have HF := Lib.hid (OneTo.of (P := P) (og := og) (fb := fb) (w := w) (k := 1) (came := 0) (note := noNt) HB.out.k HT.out.1 HT.out.2 (fun q e => .inr e) (.inl rfl) HB.out.lt (by have := HB.out.lt.2 og (.inr (.inl rfl)); omega))
    go_wp2_with fail
    go_region
    all_goals go_wp2_with fail
    all_goals exact bodyPost_ret (one_results rfl rfl rfl (x := noNt) (g := w.heap.size + 1) (range2 _ _ _ _ y0 y1 y4)) rfl (HF.out _ ((((Kept.refl (fun q => q = w.heap.size + 1) W2).setCell _ _ (fun _ => rfl)).setCell _ _ (fun _ => rfl)).drew))

set_option maxHeartbeats 2000000 in
set_option maxRecDepth 100000 in
theorem one_st (h : OneAt P og oc zs ps fb f w) (self : Nat) (a : Nat) (b : Nat) (c : Int) (n : Int) (ha : a < 16) (hb : b < 16) (q : Nat) (z : Int) (hq : q < zs.length) (hp : wrap64 (f.r b + n) = (q : Int) + 1) (hz : zs.getD q 0 = z) :
    Calls Try.prog 36 #[.pointer (some ⟨P.wb, 0, none⟩), .agg #[.int .i64 6, .int .i64 a, .int .i64 b, .int .i64 c, .int .i64 n], .int .i64 self, .pointer (some ⟨fb, 0, none⟩)] w (OneTo P og fb w 1 noNt 0 (zs.set q (f.r a)) ps f) := by
  have HH := Lib.hid h
  clear h
  go_enter Try.func36, Try.ntmps36
  go_wp2_with fail
  rename_i K hK K2 hK2
  generalize hW : ((w.alloc _).alloc _).alloc _ = W
  have HB := Lib.hid (began (x := ⟨6, a, b, c, n⟩) HH.out hW)
  clear hW
  obtain ⟨b0, b1, b2, b3, b4, _⟩ := cells5 HB.out.b
  have x1 := HB.out.at_.regAt (j := b) hb
  have v1 : ((b : Nat) : Int) < 16 := by omega
  have HP := Lib.hid hp; clear hp
  go_region
  show K2 _ _
  apply hK2
  clear hK2
  rw [HP.out]
  generalize hW1 : W.drew = W1
  have HB := Lib.hid (show Began P og oc zs ps fb f w ⟨6, a, b, c, n⟩ W1 by rw [← hW1]; exact HB.out.on (Kept.refl _ W).drew)
  clear hW1 b0 b1 b2 b3 b4 x1
  obtain ⟨b0, b1, b2, b3, b4, _⟩ := cells5 HB.out.b
  go_wp2_with fail
  refine (in_yes HB.out.at_.rw ((q : Int) + 1) (by omega) (by omega)).mono ?_
  rintro e W ⟨rfl, hk⟩
  have HB := Lib.hid (HB.out.on hk)
  clear hk b0 b1 b2 b3 b4
  obtain ⟨b0, b1, b2, b3, b4, _⟩ := cells5 HB.out.b
  have hq9 : (q : Int) ≤ 4096 := by have := HB.out.at_.rw.most; omega
  have hq8 : (q : Int) < (zs.length : Int) := by omega
  go_wp2_with fail
  have z0 := HB.out.at_.rw.c0
  have z1 := HB.out.at_.rw.at hq
  have z2 := HB.out.at_.rw.free q
  have x0 := HB.out.at_.regAt (j := a) ha
  have v0 : ((a : Nat) : Int) < 16 := by omega
  go_region
  all_goals
    show K _ _
    apply hK
    generalize hW2 : (W.setCell _ _).drew = W2
    have HT := Lib.hid (show OneAt P og oc (zs.set q (f.r a)) ps fb f W2 ∧ Kept (fun k => k = og) W W2 by
      rw [← hW2]
      obtain ⟨p1, p2⟩ := HB.out.at_.rw.set hq (f.r a)
      exact ⟨(OneAt.mk p1 (HB.out.at_.fr.kept p2 (fun e => HB.out.at_.far (.inr (.inl e)))) HB.out.at_.far).kept0 (Kept.refl _ _).drew, p2.drew⟩)
    clear hW2
    clear b0 b1 b2 b3 b4 x0 z0 z1 z2
    obtain ⟨⟨y0, y1⟩, ⟨y2, y3⟩, y4⟩ := HB.out.ends HT.out.2 (fun q e => by rw [e]; exact HB.out.lt.2 _ (.inr (.inl rfl)))
    have HF := Lib.hid (OneTo.of (P := P) (og := og) (fb := fb) (w := w) (k := 1) (came := 0) (note := noNt) HB.out.k HT.out.1 HT.out.2 (fun q e => .inl (.inr (.inl e))) (.inl rfl) HB.out.lt (by have := HB.out.lt.2 og (.inr (.inl rfl)); omega))
    go_wp2_with fail
    go_region
    all_goals go_wp2_with fail
    all_goals exact bodyPost_ret (one_results rfl rfl rfl (x := noNt) (g := w.heap.size + 1) (range2 _ _ _ _ y0 y1 y4)) rfl (HF.out _ ((((Kept.refl (fun q => q = w.heap.size + 1) W2).setCell _ _ (fun _ => rfl)).setCell _ _ (fun _ => rfl)).drew))

set_option maxHeartbeats 2000000 in
set_option maxRecDepth 100000 in
theorem one_cas_no (h : OneAt P og oc zs ps fb f w) (self : Nat) (a : Nat) (b : Nat) (c : Int) (n : Int) (ha : a < 16) (hb : b < 16) (q : Nat) (z : Int) (hq : q < zs.length) (hp : wrap64 (f.r b + n) = (q : Int) + 1) (hz : zs.getD q 0 = z) (ha2 : a + 2 < 16) (hcas : (z == f.r a) = false) :
    Calls Try.prog 36 #[.pointer (some ⟨P.wb, 0, none⟩), .agg #[.int .i64 7, .int .i64 a, .int .i64 b, .int .i64 c, .int .i64 n], .int .i64 self, .pointer (some ⟨fb, 0, none⟩)] w (OneTo P og fb w 1 noNt 0 zs ps (f.put (a + 2) 0)) := by
  have HH := Lib.hid h
  clear h
  go_enter Try.func36, Try.ntmps36
  go_wp2_with fail
  rename_i K hK K2 hK2
  generalize hW : ((w.alloc _).alloc _).alloc _ = W
  have HB := Lib.hid (began (x := ⟨7, a, b, c, n⟩) HH.out hW)
  clear hW
  obtain ⟨b0, b1, b2, b3, b4, _⟩ := cells5 HB.out.b
  have x1 := HB.out.at_.regAt (j := b) hb
  have v1 : ((b : Nat) : Int) < 16 := by omega
  have HP := Lib.hid hp; clear hp
  go_region
  show K2 _ _
  apply hK2
  clear hK2
  rw [HP.out]
  generalize hW1 : W.drew = W1
  have HB := Lib.hid (show Began P og oc zs ps fb f w ⟨7, a, b, c, n⟩ W1 by rw [← hW1]; exact HB.out.on (Kept.refl _ W).drew)
  clear hW1 b0 b1 b2 b3 b4 x1
  obtain ⟨b0, b1, b2, b3, b4, _⟩ := cells5 HB.out.b
  go_wp2_with fail
  refine (in_yes HB.out.at_.rw ((q : Int) + 1) (by omega) (by omega)).mono ?_
  rintro e W ⟨rfl, hk⟩
  have HB := Lib.hid (HB.out.on hk)
  clear hk b0 b1 b2 b3 b4
  obtain ⟨b0, b1, b2, b3, b4, _⟩ := cells5 HB.out.b
  have hq9 : (q : Int) ≤ 4096 := by have := HB.out.at_.rw.most; omega
  have hq8 : (q : Int) < (zs.length : Int) := by omega
  go_wp2_with fail
  rename_i K3 hK3
  have z0 := HB.out.at_.rw.c0
  have z1 := HB.out.at_.rw.at hq
  rw [hz] at z1
  have x0 := HB.out.at_.regAt (j := a) ha
  have v0 : ((a : Nat) : Int) < 16 := by omega
  go_region
  show K3 _ _
  apply hK3
  clear hK3
  generalize hW1 : W.drew = W1
  have HB := Lib.hid (show Began P og oc zs ps fb f w ⟨7, a, b, c, n⟩ W1 by rw [← hW1]; exact HB.out.on (Kept.refl _ W).drew)
  clear hW1 b0 b1 b2 b3 b4 x0 z0 z1
  rename_i W0 W0b
  obtain ⟨W, rfl⟩ : ∃ W, W1 = W := ⟨_, rfl⟩
  obtain ⟨b0, b1, b2, b3, b4, _⟩ := cells5 HB.out.b
  have x2 := HB.out.at_.regAt (j := a + 2) ha2
  have f2 := HB.out.at_.free (1 + (a + 2))
  have v2 : ((a : Nat) : Int) + 2 < 16 := by omega
  go_wp2_with fail
  go_region
  all_goals
    show K _ _
    apply hK
    generalize hW2 : (W1.setCell _ _).drew = W2
    have HT := Lib.hid (show OneAt P og oc zs ps fb (f.put (a + 2) 0) W2 ∧ Kept (fun k => k = fb) W1 W2 by
      rw [← hW2]
      obtain ⟨p1, p2⟩ := HB.out.at_.put ha2 0
      exact ⟨p1.kept0 (Kept.refl _ _).drew, p2.drew⟩)
    clear hW2
    clear b0 b1 b2 b3 b4 x2 f2
    obtain ⟨⟨y0, y1⟩, ⟨y2, y3⟩, y4⟩ := HB.out.ends HT.out.2 (fun q e => by rw [e]; exact HB.out.lt.1)
    have HF := Lib.hid (OneTo.of (P := P) (og := og) (fb := fb) (w := w) (k := 1) (came := 0) (note := noNt) HB.out.k HT.out.1 HT.out.2 (fun q e => .inr e) (.inl rfl) HB.out.lt (by have := HB.out.lt.2 og (.inr (.inl rfl)); omega))
    go_wp2_with fail
    go_region
    all_goals go_wp2_with fail
    all_goals exact bodyPost_ret (one_results rfl rfl rfl (x := noNt) (g := w.heap.size + 1) (range2 _ _ _ _ y0 y1 y4)) rfl (HF.out _ ((((Kept.refl (fun q => q = w.heap.size + 1) W2).setCell _ _ (fun _ => rfl)).setCell _ _ (fun _ => rfl)).drew))

set_option maxHeartbeats 2000000 in
set_option maxRecDepth 100000 in
theorem one_cas_yes (h : OneAt P og oc zs ps fb f w) (self : Nat) (a : Nat) (b : Nat) (c : Int) (n : Int) (ha : a < 16) (hb : b < 16) (q : Nat) (z : Int) (hq : q < zs.length) (hp : wrap64 (f.r b + n) = (q : Int) + 1) (hz : zs.getD q 0 = z) (ha2 : a + 2 < 16) (hcas : (z == f.r a) = true) :
    Calls Try.prog 36 #[.pointer (some ⟨P.wb, 0, none⟩), .agg #[.int .i64 7, .int .i64 a, .int .i64 b, .int .i64 c, .int .i64 n], .int .i64 self, .pointer (some ⟨fb, 0, none⟩)] w (OneTo P og fb w 1 noNt 0 (zs.set q (f.r (a + 1))) ps (f.put (a + 2) 1)) := by
  have HH := Lib.hid h
  clear h
  go_enter Try.func36, Try.ntmps36
  go_wp2_with fail
  rename_i K hK K2 hK2
  generalize hW : ((w.alloc _).alloc _).alloc _ = W
  have HB := Lib.hid (began (x := ⟨7, a, b, c, n⟩) HH.out hW)
  clear hW
  obtain ⟨b0, b1, b2, b3, b4, _⟩ := cells5 HB.out.b
  have x1 := HB.out.at_.regAt (j := b) hb
  have v1 : ((b : Nat) : Int) < 16 := by omega
  have HP := Lib.hid hp; clear hp
  go_region
  show K2 _ _
  apply hK2
  clear hK2
  rw [HP.out]
  generalize hW1 : W.drew = W1
  have HB := Lib.hid (show Began P og oc zs ps fb f w ⟨7, a, b, c, n⟩ W1 by rw [← hW1]; exact HB.out.on (Kept.refl _ W).drew)
  clear hW1 b0 b1 b2 b3 b4 x1
  obtain ⟨b0, b1, b2, b3, b4, _⟩ := cells5 HB.out.b
  go_wp2_with fail
  refine (in_yes HB.out.at_.rw ((q : Int) + 1) (by omega) (by omega)).mono ?_
  rintro e W ⟨rfl, hk⟩
  have HB := Lib.hid (HB.out.on hk)
  clear hk b0 b1 b2 b3 b4
  obtain ⟨b0, b1, b2, b3, b4, _⟩ := cells5 HB.out.b
  have hq9 : (q : Int) ≤ 4096 := by have := HB.out.at_.rw.most; omega
  have hq8 : (q : Int) < (zs.length : Int) := by omega
  go_wp2_with fail
  rename_i K3 hK3
  have z0 := HB.out.at_.rw.c0
  have z1 := HB.out.at_.rw.at hq
  rw [hz] at z1
  have x0 := HB.out.at_.regAt (j := a) ha
  have v0 : ((a : Nat) : Int) < 16 := by omega
  go_region
  show K3 _ _
  apply hK3
  clear hK3
  generalize hW1 : W.drew = W1
  have HB := Lib.hid (show Began P og oc zs ps fb f w ⟨7, a, b, c, n⟩ W1 by rw [← hW1]; exact HB.out.on (Kept.refl _ W).drew)
  clear hW1 b0 b1 b2 b3 b4 x0 z0 z1
  rename_i W0 W0b
  obtain ⟨W, rfl⟩ : ∃ W, W1 = W := ⟨_, rfl⟩
  obtain ⟨b0, b1, b2, b3, b4, _⟩ := cells5 HB.out.b
  have x2 := HB.out.at_.regAt (j := a + 2) ha2
  have f2 := HB.out.at_.free (1 + (a + 2))
  have v2 : ((a : Nat) : Int) + 2 < 16 := by omega
  have z0 := HB.out.at_.rw.c0
  have z1 := HB.out.at_.rw.at hq
  have z2 := HB.out.at_.rw.free q
  have x3 := HB.out.at_.regAt (j := a + 1) (by omega)
  have v3 : ((a : Nat) : Int) + 1 < 16 := by omega
  go_wp2_with fail
  rename_i K4 hK4
  go_region
  show K4 _ _
  apply hK4
  clear hK4
  generalize hW3 : (W1.setCell _ _).drew = W3
  have HT3 := Lib.hid (show OneAt P og oc (zs.set q (f.r (a + 1))) ps fb f W3 ∧ Kept (fun k => k = og) W1 W3 by
    rw [← hW3]
    obtain ⟨p1, p2⟩ := HB.out.at_.rw.set hq (f.r (a + 1))
    exact ⟨(OneAt.mk p1 (HB.out.at_.fr.kept p2 (fun e => HB.out.at_.far (.inr (.inl e)))) HB.out.at_.far).kept0 (Kept.refl _ _).drew, p2.drew⟩)
  clear hW3 b0 b1 b2 b3 b4 x2 f2 z0 z1 z2 x3
  obtain ⟨b0, b1, b2, b3, b4, _⟩ := cells5 (HT3.out.2.at_ HB.out.b (fun e => by have := HB.out.lt.2 _ (.inr (.inl rfl)); omega))
  have x2 := HT3.out.1.regAt (j := a + 2) ha2
  have f2 := HT3.out.1.free (1 + (a + 2))
  go_wp2_with fail
  go_region
  all_goals
    show K _ _
    apply hK
    generalize hW2 : (W3.setCell _ _).drew = W2
    have HT := Lib.hid (show OneAt P og oc (zs.set q (f.r (a + 1))) ps fb (f.put (a + 2) 1) W2 ∧ Kept (fun k => k = og ∨ k = fb) W1 W2 by
      rw [← hW2]
      obtain ⟨p1, p2⟩ := HT3.out.1.put ha2 1
      exact ⟨p1.kept0 (Kept.refl _ _).drew, (HT3.out.2.mono (fun _ _ e => .inl e)).trans p2.drew (fun _ _ e => .inr e)⟩)
    clear hW2
    clear b0 b1 b2 b3 b4 x2 f2
    obtain ⟨⟨y0, y1⟩, ⟨y2, y3⟩, y4⟩ := HB.out.ends HT.out.2 (fun q e => e.elim (fun e => by rw [e]; exact HB.out.lt.2 _ (.inr (.inl rfl))) (fun e => by rw [e]; exact HB.out.lt.1))
    have HF := Lib.hid (OneTo.of (P := P) (og := og) (fb := fb) (w := w) (k := 1) (came := 0) (note := noNt) HB.out.k HT.out.1 HT.out.2 (fun q e => e.elim (fun e => .inl (.inr (.inl e))) (fun e => .inr e)) (.inl rfl) HB.out.lt (by have := HB.out.lt.2 og (.inr (.inl rfl)); omega))
    go_wp2_with fail
    go_region
    all_goals go_wp2_with fail
    all_goals exact bodyPost_ret (one_results rfl rfl rfl (x := noNt) (g := w.heap.size + 1) (range2 _ _ _ _ y0 y1 y4)) rfl (HF.out _ ((((Kept.refl (fun q => q = w.heap.size + 1) W2).setCell _ _ (fun _ => rfl)).setCell _ _ (fun _ => rfl)).drew))
end

end Go.Proofs.Ytofnomkedpagfaa
