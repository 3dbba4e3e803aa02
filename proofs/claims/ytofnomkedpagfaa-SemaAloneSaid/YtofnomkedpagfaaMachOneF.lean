/-
  What the document's machine does with other threads, and with new cells: unpark, alloc.
  Conditions: the world lies in memory, and the frame in a block of its own; registers' numbers are below 16.
-/
import Derived.Test.YtofnomkedpagfaaMachOne
import Derived.Deep.QuietTactic
import Derived.Deep.RegionWith
namespace Go.Proofs.Ytofnomkedpagfaa
open Go.RowKit
set_option linter.unusedVariables false
set_option linter.unusedSimpArgs false

section
variable {P : Wp} {og oc : Nat} {zs : List Int} {ps : List Pk} {fb : Nat} {f : Fr} {w : World}

set_option maxHeartbeats 2000000 in
set_option maxRecDepth 100000 in
theorem one_unpark (h : OneAt P og oc zs ps fb f w) (self : Nat) (a : Nat) (b : Int) (c : Int) (n : Int) (ha : a < 16) (j : Nat) (p : Pk) (hp : ps[j]? = some p) (hj : f.r a = j) :
    Calls Try.prog 36 #[.pointer (some ⟨P.wb, 0, none⟩), .agg #[.int .i64 15, .int .i64 a, .int .i64 b, .int .i64 c, .int .i64 n], .int .i64 self, .pointer (some ⟨fb, 0, none⟩)] w (OneTo P og fb w 1 noNt 0 zs (ps.set j p.unpark) f) := by
  have HH := Lib.hid h
  clear h
  go_enter Try.func36, Try.ntmps36
  go_upto_region 46 with fail
  rename_i K0 hK0 K hK
  generalize hW : ((w.alloc _).alloc _).alloc _ = W
  have HB := Lib.hid (began (x := ⟨15, a, b, c, n⟩) HH.out hW)
  clear hW
  obtain ⟨b0, b1, b2, b3, b4, _⟩ := cells5 HB.out.b
  have x0 := HB.out.at_.regAt (j := a) ha
  have v0 : ((a : Nat) : Int) < 16 := by omega
  rw [hj] at x0
  go_region
  show K _ _
  apply hK
  clear hK
  generalize hW1 : W.drew = W1
  have HB := Lib.hid (show Began P og oc zs ps fb f w ⟨15, a, b, c, n⟩ W1 by rw [← hW1]; exact HB.out.on (Kept.refl _ W).drew)
  clear hW1 b0 b1 b2 b3 b4 x0
  obtain ⟨b0, b1, b2, b3, b4, _⟩ := cells5 HB.out.b
  have x0 := HB.out.at_.regAt (j := a) ha
  rw [hj] at x0
  have z0 := HB.out.at_.rw.c2
  have HC := Lib.hid (ref_unpark HB.out.at_.rw.tab hp)
  have z1 := HB.out.at_.rw.tab.c0
  have z4 : ((j : Nat) : Int) < (ps.length : Int) := by have := at_lt hp; omega
  have z5 : ¬ ((ps.length : Int) ≤ (j : Int)) := by omega
  have z6 : ¬ ((j : Int) < 0) := by omega
  go_wp2_with fail
  refine HC.out.mono ?_
  rintro e W2 ⟨rfl, ht⟩
  have HT := Lib.hid (show OneAt P og oc zs (ps.set j p.unpark) fb f W2 ∧ Kept (fun k => k = P.tg) W1 W2 by
    obtain ⟨p1, p2⟩ := HB.out.at_.rw.turn ht
    exact ⟨OneAt.mk p1 (HB.out.at_.fr.kept p2 (fun e => HB.out.at_.far (.inr (.inr (.inr e))))) HB.out.at_.far, p2⟩)
  clear ht
  clear b0 b1 b2 b3 b4 x0 z0 z1
  obtain ⟨⟨y0, y1⟩, ⟨y2, y3⟩, y4⟩ := HB.out.ends HT.out.2 (fun q e => by rw [e]; exact HB.out.lt.2 _ (.inr (.inr (.inr rfl))))
  have HF := Lib.hid (OneTo.of (P := P) (og := og) (fb := fb) (w := w) (k := 1) (came := 0) (note := noNt) HB.out.k HT.out.1 HT.out.2 (fun q e => .inl (.inr (.inr (.inr e)))) (.inl rfl) HB.out.lt (by have := HB.out.lt.2 og (.inr (.inl rfl)); omega))
  go_wp2_with fail
  go_region
  all_goals go_wp2_with fail
  all_goals exact bodyPost_ret (one_results rfl rfl rfl (x := noNt) (g := w.heap.size + 1) (range2 _ _ _ _ y0 y1 y4)) rfl (HF.out _ ((((Kept.refl (fun q => q = w.heap.size + 1) W2).setCell _ _ (fun _ => rfl)).setCell _ _ (fun _ => rfl)).drew))

theorem info_int64 : (Try.prog.info? 2).map (fun i => (i.zero, i.size, i.bytes)) = some (some (.int .i64 0), 1, 8) := by kernel_rfl
theorem intC_one (zs : List Int) : ∀ u ∈ flat intC zs, u.oneCell' = true := by
  intro u hu
  simp only [flat, List.mem_flatMap, intC, List.mem_cons, List.not_mem_nil, or_false] at hu
  obtain ⟨z, _, rfl⟩ := hu
  rfl
theorem flat_int (zs : List Int) : flat intC zs = zs.map (Value.int .i64) := by
  induction zs with
  | nil => rfl
  | cons z zs ih => simp only [flat, List.flatMap_cons, List.map_cons] at ih ⊢; rw [ih]; rfl

set_option maxHeartbeats 2000000 in
set_option maxRecDepth 100000 in
theorem alloc_yes (h : RW P og oc zs ps w) (m : Nat) (h1 : 1 ≤ m) (h2 : (m : Int) ≤ P.most - zs.length) :
    Calls Try.prog 48 #[.pointer (some ⟨P.wb, 0, none⟩), .int .i64 m] w fun e w' => e = .returned (.int .i64 (zs.length + 1)) ∧ ∃ og' oc', RW P og' oc' (zs ++ List.replicate m 0) ps w' ∧ Kept (fun k => k = P.wb) w w' ∧ w.heap.size ≤ og' := by
  have c0 := h.c0
  have c1 := h.c1
  have hmost := h.most
  have e1 : IntKind.i64.wrap (P.most - (zs.length : Int)) = P.most - (zs.length : Int) := by rw [IntKind.wrap_i64]; omega
  have q1 : ¬ (m : Int) < 1 := by omega
  have q2 : ¬ (P.most - (zs.length : Int) < (m : Int)) := by omega
  obtain ⟨i0, hi, hz0, hz1, hz2⟩ := info_parts info_int64
  have HI := Lib.hid hi; clear hi
  have HZ0 := Lib.hid hz0; clear hz0
  have HZ1 := Lib.hid hz1; clear hz1
  have HZ2 := Lib.hid hz2; clear hz2
  have HH := Lib.hid h; clear h
  go_enter Try.func48, Try.ntmps48
  go_wp2_with fail
  go_quiet (fail)
  generalize hW : w.drewN nq = W
  have HW := Lib.hid (show RW P og oc zs ps W ∧ Kept (fun _ => False) w W by rw [← hW]; exact ⟨HH.out.kept0 ((Kept.refl _ w).drewN nq), (Kept.refl _ w).drewN nq⟩)
  clear hW c0 c1
  have c0 := HW.out.1.c0
  have c1 := HW.out.1.c1
  have f0 := HW.out.1.f0 0
  have lt0 := HW.out.1.lts.1
  go_wp2_with (at_builtin; refine wpList_append_own _ rfl (.tmp 29) (.tmp 33) 54 rfl W.heap.size 2 i0 (.int .i64 0) 1 8 Try.underlying54 HI.out HZ0.out HZ1.out HZ2.out rfl (by decide) _ 0 [] rfl (World.ownsRow_made W #[] 0 (Nat.le_refl _) (Nat.zero_le _) rfl) ⟨og, 0, none⟩ zs.length oc (flat intC zs) rfl ?c1 ?c2 ?c3 ?c4 ?c5 ?c6 ?_)
  case c1 => rw [flat_len intC_len]
  case c2 =>
    intro j u hu
    rw [Addr.add_lit, World.cell?_alloc_past _ _ _ HW.out.1.lts.2.1, ← Addr.add_lit]
    exact World.ownsRow.cells HW.out.1.row (g := og) rfl j u hu
  case c3 => exact intC_one zs
  case c4 => unfold maxLen; omega
  case c5 => omega
  case c6 => simp
  intro v1 w1 hown hgrow _
  have HK1 := Lib.hid (show Kept (fun _ => False) W w1 from ((Kept.refl _ W).alloc (.cells #[] 2)).grown hgrow (fun k hk e => by simp [Value.ownBlock] at e; omega))
  have HO1 := Lib.hid hown
  clear hown hgrow c0 c1 f0
  go_wp2_with (at_builtin; refine wpList_append_own_zeros _ rfl (.tmp 34) (.tmp 35) 54 3 rfl W.heap.size 2 i0 (.int .i64 0) .i64 .i64 1 8 Try.underlying54 Try.underlying3 HI.out HZ0.out HZ1.out HZ2.out rfl (by decide) v1 zs.length (flat intC zs) rfl ?d1 m rfl ?d2 ?d3 ?d4 ?d5 ?d6 ?_)
  case d1 => exact HO1.out
  case d2 => exact h1
  case d3 => intro u hu; rw [zeroCells_int] at hu; rw [List.eq_of_mem_replicate hu]; rfl
  case d4 => unfold maxLen; omega
  case d5 => omega
  case d6 => exact HK1.out.size
  intro v2 w2 hown2 hgrow2 hv2
  have hb1 : ∀ k, v1.ownBlock = some k → W.heap.size ≤ k := fun k hk => (World.ownsRow.lt HO1.out k hk).1
  have HK2 := Lib.hid (show Kept (fun _ => False) W w2 from (HK1.out.mono (T := fun _ => False) (fun _ _ f => f)).grown hgrow2 (fun k hk e => by have := hb1 k e; omega))
  obtain ⟨g, cap, rfl⟩ : ∃ g cap, v2 = .slice (some ⟨g, 0, none⟩) (zs.length + m) cap := by
    rcases hown2.2 with ⟨_, h0⟩ | ⟨g, cap, _, h0, _⟩
    · omega
    · exact ⟨g, cap, h0⟩
  have HR := Lib.hid (HW.out.1.kept0 HK2.out)
  have HF := Lib.hid (show RW P g cap (zs ++ List.replicate m 0) ps (w2.setCell ⟨P.wb, 0, none⟩ (.slice (some ⟨g, 0, none⟩) (zs.length + m) cap)) ∧ Kept (fun k => k = P.wb) w (w2.setCell ⟨P.wb, 0, none⟩ (.slice (some ⟨g, 0, none⟩) (zs.length + m) cap)) ∧ w.heap.size ≤ g by
    have hg : W.heap.size ≤ g := (World.ownsRow.lt hown2 g rfl).1
    have hw := HW.out.2.size
    obtain ⟨l1, l2, l3, l4⟩ := HW.out.1.lts
    have hk : Kept (fun k => k = P.wb) w2 (w2.setCell ⟨P.wb, 0, none⟩ (.slice (some ⟨g, 0, none⟩) (zs.length + m) cap)) := (Kept.refl _ w2).setCell _ _ (fun _ => rfl)
    refine ⟨⟨?_, ?_, HR.out.tab.kept hk (Ne.symm HR.out.ne.2.2.2.1) (Ne.symm HR.out.ne.2.2.2.2), ⟨by omega, by omega, by omega, HR.out.ne.2.2.2.1, HR.out.ne.2.2.2.2⟩, by rw [List.length_append, List.length_replicate]; omega⟩, ((HW.out.2.tr0 HK2.out).mono (fun _ _ f => f.elim)).trans hk (fun _ _ e => e), by omega⟩
    · rw [List.length_append, List.length_replicate]
      exact set_cellM HR.out.box
    · have hr : Row w2 g cap 2 1 intC (zs ++ List.replicate m 0) := by
        refine Row.made (m := zs.length + m) (by rw [List.length_append, List.length_replicate]) ?_
        have e0 : (Builtin.zeroCells #[Value.int .i64 0] m).toList = List.replicate m (Value.int .i64 0) := zeroCells_int m
        rw [e0] at hown2
        rw [flat_int, List.map_append, List.map_replicate, ← flat_int]
        refine ⟨hown2.1, ?_⟩
        rcases hown2.2 with hn | ⟨g', cap', cur, e, hb, hrest⟩
        · exact .inl hn
        · exact .inr ⟨g', cap', cur, e, Nat.zero_le _, hrest⟩
      exact hr.kept hk (by omega))
  clear hown2 hgrow2 hv2
  have c0 := HR.out.c0
  have f0 := HR.out.f0 0
  go_wp2_with fail
  go_ret
  exact ⟨rfl, _, _, HF.out⟩

set_option maxHeartbeats 2000000 in
set_option maxRecDepth 100000 in
theorem one_alloc (h : OneAt P og oc zs ps fb f w) (self : Nat) (a : Nat) (b : Int) (c : Int) (n : Int) (ha : a < 16) (m : Nat) (hm : n = m) (h1 : 1 ≤ m) (h2 : (m : Int) ≤ P.most - zs.length) :
    Calls Try.prog 36 #[.pointer (some ⟨P.wb, 0, none⟩), .agg #[.int .i64 16, .int .i64 a, .int .i64 b, .int .i64 c, .int .i64 n], .int .i64 self, .pointer (some ⟨fb, 0, none⟩)] w (OneTo P og fb w 1 noNt 0 (zs ++ List.replicate m 0) ps (f.put a (zs.length + 1))) := by
  have HH := Lib.hid h
  clear h
  subst hm
  go_enter Try.func36, Try.ntmps36
  go_upto_region 51 with fail
  rename_i K hK
  generalize hW : ((w.alloc _).alloc _).alloc _ = W
  have HB := Lib.hid (began (x := ⟨16, a, b, c, (m : Int)⟩) HH.out hW)
  clear hW
  obtain ⟨b0, b1, b2, b3, b4, _⟩ := cells5 HB.out.b
  have x0 := HB.out.at_.regAt (j := a) ha
  have v0 : ((a : Nat) : Int) < 16 := by omega
  have f0 := HB.out.at_.free (1 + a)
  have HC := Lib.hid (fun w' (hk : Kept (fun _ => False) W w') => alloc_yes (HB.out.at_.rw.kept0 hk) m h1 h2)
  have HA : Hid (∀ w1 w2 og' oc', Kept (fun _ => False) W w1 → RW P og' oc' (zs ++ List.replicate m 0) ps w2 → Kept (fun k => k = P.wb) w1 w2 → w1.heap.size ≤ og' → OneAt P og' oc' (zs ++ List.replicate m 0) ps fb f w2 ∧ Kept (fun k => k = P.wb) W w2 ∧ W.heap.size ≤ og') := Lib.hid (fun w1 w2 og' oc' hk hr hk2 ho => by
    have hf : fb ≠ P.wb := fun e => HB.out.at_.far (.inl e)
    have hs := hk.size
    have hl := HB.out.at_.fr.lt
    refine ⟨⟨hr, (HB.out.at_.fr.kept hk (fun f => f)).kept hk2 hf, fun e => ?_⟩, (hk.mono (fun _ _ f => f.elim)).trans hk2 (fun _ _ e => e), by omega⟩
    rcases e with e | e | e | e
    · exact hf e
    · omega
    · exact HB.out.at_.far (.inr (.inr (.inl e)))
    · exact HB.out.at_.far (.inr (.inr (.inr e))))
  go_region_with (go_at_call 48; refine (HC.out _ (by first | exact Kept.refl _ _ | exact (Kept.refl _ _).drew)).mono ?_; rintro e w2 ⟨rfl, og', oc', hr, hk2, ho⟩; have HW2 := Lib.hid (HA.out _ w2 og' oc' (by first | exact Kept.refl _ _ | exact (Kept.refl _ _).drew) hr hk2 ho); clear hr hk2 ho; have x5 := HW2.out.1.regAt (j := a) ha; have f5 := HW2.out.1.free (1 + a); have HB2 := Lib.hid (cells5 (HW2.out.2.1.at_ HB.out.b (fun e => by have := HB.out.lt.2 _ (.inl rfl); omega))); obtain ⟨c0, c1, c2, c3, c4, _⟩ := HB2.out)
  all_goals
    show K _ _
    apply hK
    generalize hW2 : w2.setCell _ _ = W2
    have HT := Lib.hid (show OneAt P og' oc' (zs ++ List.replicate m 0) ps fb (f.put a (zs.length + 1)) W2 ∧ Kept (fun k => k = P.wb ∨ k = fb) W W2 by
      rw [← hW2]
      obtain ⟨p1, p2⟩ := HW2.out.1.put ha (zs.length + 1)
      exact ⟨p1, (HW2.out.2.1.mono (fun _ _ e => .inl e)).trans p2 (fun _ _ e => .inr e)⟩)
    have hog : w.heap.size + 3 ≤ og' := by
      have h1 := HW2.out.2.2
      have h2 := (Array.getElem?_eq_some_iff.1 HB.out.n2).1
      omega
    clear hW2 x5 f5 c0 c1 c2 c3 c4 HB2 HC HA
    clear b0 b1 b2 b3 b4 x0 f0
    obtain ⟨⟨y0, y1⟩, ⟨y2, y3⟩, y4⟩ := HB.out.ends HT.out.2 (fun q e => e.elim (fun e => by rw [e]; exact HB.out.lt.2 _ (.inl rfl)) (fun e => by rw [e]; exact HB.out.lt.1))
    have HF := Lib.hid (OneTo.of (P := P) (og := og) (fb := fb) (w := w) (k := 1) (came := 0) (note := noNt) HB.out.k HT.out.1 HT.out.2 (fun q e => e.elim (fun e => .inl (.inl e)) (fun e => .inr e)) (.inr (by omega)) HB.out.lt (by omega))
    go_wp2_with fail
    go_region
    all_goals go_wp2_with fail
    all_goals exact bodyPost_ret (one_results rfl rfl rfl (x := noNt) (g := w.heap.size + 1) (range2 _ _ _ _ y0 y1 y4)) rfl (HF.out _ ((((Kept.refl (fun q => q = w.heap.size + 1) W2).setCell _ _ (fun _ => rfl)).setCell _ _ (fun _ => rfl)).drew))
end

end Go.Proofs.Ytofnomkedpagfaa
