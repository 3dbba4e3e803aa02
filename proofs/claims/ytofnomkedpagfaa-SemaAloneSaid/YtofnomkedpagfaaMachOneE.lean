/-
  What the document's machine does with threads that park: park.
  Conditions: the world lies in memory, and the frame in a block of its own; registers' numbers are below 16.
-/
import Derived.Test.YtofnomkedpagfaaMachOne
import Derived.Deep.RegionWith
namespace Go.Proofs.Ytofnomkedpagfaa
open Go.RowKit
set_option linter.unusedVariables false
set_option linter.unusedSimpArgs false

section
variable {P : Wp} {og oc : Nat} {zs : List Int} {ps : List Pk} {fb : Nat} {f : Fr} {w : World}

set_option maxHeartbeats 2000000 in
set_option maxRecDepth 100000 in
theorem one_park_off (h : OneAt P og oc zs ps fb f w) (self : Nat) (a : Nat) (b : Int) (c : Int) (n : Int) (ha : a < 16) (p : Pk) (hp : ps[self]? = some p) (hd : -1 ≤ f.r a) (hbl : p.blocked = false) (hr : p.parks P.now (f.r a) = true) :
    Calls Try.prog 36 #[.pointer (some ⟨P.wb, 0, none⟩), .agg #[.int .i64 14, .int .i64 a, .int .i64 b, .int .i64 c, .int .i64 n], .int .i64 self, .pointer (some ⟨fb, 0, none⟩)] w (OneTo P og fb w 3 noNt 1 zs (ps.set self (p.park P.now (f.r a))) f) := by
  have HH := Lib.hid h
  clear h
  go_enter Try.func36, Try.ntmps36
  go_upto_region 39 with fail
  rename_i K0 hK0 K2 hK2 K hK
  generalize hW : ((w.alloc _).alloc _).alloc _ = W
  have HB := Lib.hid (began (x := ⟨14, a, b, c, n⟩) HH.out hW)
  clear hW
  obtain ⟨b0, b1, b2, b3, b4, _⟩ := cells5 HB.out.b
  have x0 := HB.out.at_.regAt (j := a) ha
  have v0 : ((a : Nat) : Int) < 16 := by omega
  have hd2 : decide (f.r a < -1) = false := by rw [decide_eq_false_iff_not]; omega
  go_region
  show K _ _
  apply hK
  clear hK
  generalize hW1 : W.drew = W1
  have HB := Lib.hid (show Began P og oc zs ps fb f w ⟨14, a, b, c, n⟩ W1 by rw [← hW1]; exact HB.out.on (Kept.refl _ W).drew)
  clear hW1 b0 b1 b2 b3 b4 x0
  obtain ⟨b0, b1, b2, b3, b4, _⟩ := cells5 HB.out.b
  have x0 := HB.out.at_.regAt (j := a) ha
  have z0 := HB.out.at_.rw.c2
  have HC := Lib.hid (fun w' (hk : Kept (fun _ => False) W1 w') => ref_park (f.r a) (HB.out.at_.rw.kept0 hk).tab hp hbl)
  rw [hr] at HC
  go_wp2_with fail
  go_region_with (go_at_call 46; refine (HC.out _ (by first | exact Kept.refl _ _ | exact (Kept.refl _ _).drew)).mono ?_; rintro e W2 ⟨rfl, ht⟩; have HT0 := Lib.hid ht; clear ht)
  all_goals
    rename_i K3 hK3
    have HT := Lib.hid (show OneAt P og oc zs (ps.set self (p.park P.now (f.r a))) fb f W2 ∧ Kept (fun k => k = P.tg) W1 W2 by
      have HB2 := HB.out.at_.kept0 (Kept.refl _ _).drew
      obtain ⟨p1, p2⟩ := HB2.rw.turn HT0.out
      exact ⟨OneAt.mk p1 (HB2.fr.kept p2 (fun e => HB2.far (.inr (.inr (.inr e))))) HB2.far, ((Kept.refl (fun _ => False) W1).drew.mono (fun _ _ f => f.elim)).trans p2 (fun _ _ e => e)⟩)
    clear HT0
    show K3 _ _
    apply hK3
    clear hK3
    clear b0 b1 b2 b3 b4 x0 z0
    obtain ⟨⟨y0, y1⟩, ⟨y2, y3⟩, y4⟩ := HB.out.ends HT.out.2 (fun q e => by rw [e]; exact HB.out.lt.2 _ (.inr (.inr (.inr rfl))))
    have HF := Lib.hid (OneTo.of (P := P) (og := og) (fb := fb) (w := w) (k := 3) (came := 1) (note := noNt) HB.out.k HT.out.1 HT.out.2 (fun q e => .inl (.inr (.inr (.inr e)))) (.inl rfl) HB.out.lt (by have := HB.out.lt.2 og (.inr (.inl rfl)); omega))
    go_wp2_with fail
    go_region
    all_goals go_wp2_with fail
    all_goals exact bodyPost_ret (one_results rfl rfl rfl (x := noNt) (g := w.heap.size + 1) (range2 _ _ _ _ y0 y1 y4)) rfl (HF.out _ ((((Kept.refl (fun q => q = w.heap.size + 1) W2).setCell _ _ (fun _ => rfl)).setCell _ _ (fun _ => rfl)).drew))

set_option maxHeartbeats 2000000 in
set_option maxRecDepth 100000 in
theorem one_park_on (h : OneAt P og oc zs ps fb f w) (self : Nat) (a : Nat) (b : Int) (c : Int) (n : Int) (ha : a < 16) (p : Pk) (hp : ps[self]? = some p) (hd : -1 ≤ f.r a) (hbl : p.blocked = false) (hr : p.parks P.now (f.r a) = false) :
    Calls Try.prog 36 #[.pointer (some ⟨P.wb, 0, none⟩), .agg #[.int .i64 14, .int .i64 a, .int .i64 b, .int .i64 c, .int .i64 n], .int .i64 self, .pointer (some ⟨fb, 0, none⟩)] w (OneTo P og fb w 3 noNt 0 zs (ps.set self (p.park P.now (f.r a))) f) := by
  have HH := Lib.hid h
  clear h
  go_enter Try.func36, Try.ntmps36
  go_upto_region 39 with fail
  rename_i K0 hK0 K2 hK2 K hK
  generalize hW : ((w.alloc _).alloc _).alloc _ = W
  have HB := Lib.hid (began (x := ⟨14, a, b, c, n⟩) HH.out hW)
  clear hW
  obtain ⟨b0, b1, b2, b3, b4, _⟩ := cells5 HB.out.b
  have x0 := HB.out.at_.regAt (j := a) ha
  have v0 : ((a : Nat) : Int) < 16 := by omega
  have hd2 : decide (f.r a < -1) = false := by rw [decide_eq_false_iff_not]; omega
  go_region
  show K _ _
  apply hK
  clear hK
  generalize hW1 : W.drew = W1
  have HB := Lib.hid (show Began P og oc zs ps fb f w ⟨14, a, b, c, n⟩ W1 by rw [← hW1]; exact HB.out.on (Kept.refl _ W).drew)
  clear hW1 b0 b1 b2 b3 b4 x0
  obtain ⟨b0, b1, b2, b3, b4, _⟩ := cells5 HB.out.b
  have x0 := HB.out.at_.regAt (j := a) ha
  have z0 := HB.out.at_.rw.c2
  have HC := Lib.hid (fun w' (hk : Kept (fun _ => False) W1 w') => ref_park (f.r a) (HB.out.at_.rw.kept0 hk).tab hp hbl)
  rw [hr] at HC
  go_wp2_with fail
  go_region_with (go_at_call 46; refine (HC.out _ (by first | exact Kept.refl _ _ | exact (Kept.refl _ _).drew)).mono ?_; rintro e W2 ⟨rfl, ht⟩; have HT0 := Lib.hid ht; clear ht)
  all_goals
    rename_i K3 hK3
    have HT := Lib.hid (show OneAt P og oc zs (ps.set self (p.park P.now (f.r a))) fb f W2 ∧ Kept (fun k => k = P.tg) W1 W2 by
      have HB2 := HB.out.at_.kept0 (Kept.refl _ _).drew
      obtain ⟨p1, p2⟩ := HB2.rw.turn HT0.out
      exact ⟨OneAt.mk p1 (HB2.fr.kept p2 (fun e => HB2.far (.inr (.inr (.inr e))))) HB2.far, ((Kept.refl (fun _ => False) W1).drew.mono (fun _ _ f => f.elim)).trans p2 (fun _ _ e => e)⟩)
    clear HT0
    show K3 _ _
    apply hK3
    clear hK3
    clear b0 b1 b2 b3 b4 x0 z0
    obtain ⟨⟨y0, y1⟩, ⟨y2, y3⟩, y4⟩ := HB.out.ends HT.out.2 (fun q e => by rw [e]; exact HB.out.lt.2 _ (.inr (.inr (.inr rfl))))
    have HF := Lib.hid (OneTo.of (P := P) (og := og) (fb := fb) (w := w) (k := 3) (came := 0) (note := noNt) HB.out.k HT.out.1 HT.out.2 (fun q e => .inl (.inr (.inr (.inr e)))) (.inl rfl) HB.out.lt (by have := HB.out.lt.2 og (.inr (.inl rfl)); omega))
    go_wp2_with fail
    go_region
    all_goals go_wp2_with fail
    all_goals exact bodyPost_ret (one_results rfl rfl rfl (x := noNt) (g := w.heap.size + 1) (range2 _ _ _ _ y0 y1 y4)) rfl (HF.out _ ((((Kept.refl (fun q => q = w.heap.size + 1) W2).setCell _ _ (fun _ => rfl)).setCell _ _ (fun _ => rfl)).drew))
end

end Go.Proofs.Ytofnomkedpagfaa
