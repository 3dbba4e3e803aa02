/-
  What the program's addLabel comes to.
  Conditions: the builder's bounds; a name of at most 100000 bytes.
-/
import Derived.Test.YtlhnbihpefgcbaaGreatDoorAsmBld
import Derived.Test.YtlhnbihpefgcbaaGreatDoorLineMem
import Derived.WalkKit
import Derived.ProofKit
namespace Go.Proofs.YtlhnbihpefgcbaaGreatDoor
open Go.RowKit

set_option maxRecDepth 100000 in
theorem info_lab2 : (Tryz.prog.info? 35).map (fun i => (i.zero, i.size, i.bytes)) = some (some (.agg #[.string { data := #[] }, .int .i64 0]), 2, 24) := by kernel_rfl

/-- Behind the store of the longer row. -/
theorem lab_end {B b m n : Nat} {w W1 w3 : World} {s : Bst} {v u q u' : Value} {t : Str} {o : Obj} (h : Bld B b m w s v u q) (hg1 : w.grownBy W1 (some m)) (hN1 : NamesAt W1 m (s.labs ++ [(t, n)]))
    (h1 : w3.ownsRow B 35 2 u' (s.labs.length + 1) (flat labC s.labs ++ flat labC [(t, n)])) (h2 : (W1.alloc o).grownBy w3 u.ownBlock) (h3 : u'.ownBlock = u.ownBlock ∨ u'.ownBlock = some (W1.alloc o).heap.size) :
    w3.cell? ⟨b, 1, none⟩ = some u ∧ w3.frozen? ⟨b, 1, none⟩ = false ∧ BldTo B b m w v u q (.ok ⟨s.code, s.labs ++ [(t, n)], s.jmps, s.line⟩) (.returned .nilIface) (w3.setCell ⟨b, 1, none⟩ u') := by
  obtain ⟨a1, a2, a3, a4, a5, a6, a7, a8, a9⟩ := h.apart
  have hbw : b < w.heap.size := (Array.getElem?_eq_some_iff.1 h.box).1
  have k1 : Kept (fun k => k = m) w W1 := (Kept.refl _ w).grown hg1 (fun k _ e => (Option.some.inj e).symm)
  have k3 : Kept (fun k => k = m ∨ u.ownBlock = some k) w w3 := ((k1.alloc o).mono (fun k _ e => .inl e)).grown h2 (fun k _ e => .inr e)
  have k13 : Kept (fun k => u.ownBlock = some k) W1 w3 := ((Kept.refl _ W1).alloc o).grown h2 (fun k _ e => e)
  have k34 : Kept (fun k => k = b) w3 (w3.setCell ⟨b, 1, none⟩ u') := (Kept.refl _ w3).setCell _ _ (fun _ => rfl)
  have hbox := k3.at_ h.box (by rintro (e | e); exact a1 e; exact a4 e)
  have k4 : Kept (fun k => k = m ∨ u.ownBlock = some k ∨ k = b) w (w3.setCell ⟨b, 1, none⟩ u') := (k3.mono (fun k _ e => e.elim .inl (fun e => .inr (.inl e)))).trans k34 (fun k _ e => .inr (.inr e))
  have hub : ∀ g, u'.ownBlock = some g → g ≠ b ∧ (u.ownBlock = some g ∨ w.heap.size ≤ g) := fun g hg => by
    rcases h3 with e | e
    · rw [e] at hg; exact ⟨fun e2 => a4 (by rw [← e2]; exact hg), .inl hg⟩
    · rw [e] at hg
      have hs := k1.size
      have := Option.some.inj hg
      rw [World.size_alloc] at this
      exact ⟨by omega, .inr (by omega)⟩
  refine ⟨by rw [cell_at w3 _ 1 _ _ hbox]; rfl, frozen_at w3 _ 1 _ _ hbox, ?_, v, u', q, rfl, ⟨?_, ?_, ?_, ?_, ?_⟩, ?_⟩
  · exact k4.mono (fun k _ e => by rcases e with e | e | e; exact .inr (.inl e); exact .inr (.inr (.inr (.inl e))); exact .inl e)
  · exact set_cellB hbox
  · exact row_kept h.code k4 (fun g hg => by rintro (e | e | e); exact a3 (by rw [← e]; exact hg); exact (a8 g hg).1 e; exact a2 (by rw [← e]; exact hg))
  · refine row_kept (S := fun k => k = b) (w := w3) ?_ k34 (fun g hg => (hub g hg).1)
    rw [List.length_append, labC_flat]; exact h1
  · exact row_kept h.jmps k4 (fun g hg => by rintro (e | e | e); exact a7 (by rw [← e]; exact hg); exact a9 g e hg; exact a6 (by rw [← e]; exact hg))
  · exact (hN1.kept k13 (fun e => a5 e)).kept k34 (fun e => a1 e.symm)
  · rintro k (rfl | rfl | hk | hk | hk)
    · exact .inl (.inl rfl)
    · exact .inl (.inr (.inl rfl))
    · exact .inl (.inr (.inr (.inl hk)))
    · rcases (hub k hk).2 with e | e
      · exact .inl (.inr (.inr (.inr (.inl e))))
      · exact .inr e
    · exact .inl (.inr (.inr (.inr (.inr hk))))

set_option maxRecDepth 100000 in
set_option maxHeartbeats 4000000 in
theorem addLabel_any {B b m : Nat} {w : World} {s : Bst} {v u q : Value} (h : Bld B b m w s v u q) (hok : BldOk s) (t : Str) (ht : t.length ≤ 100000) (hB : B ≤ w.heap.size) :
    Calls Tryz.prog 29 #[.pointer (some ⟨b, 0, none⟩), .string (strS t)] w (BldTo B b m w v u q (addLabA s t)) := by
  obtain ⟨i6, hi6, hz6, hn6, hb6⟩ := info_parts info_lab2
  have HI6 := Lib.hid hi6; clear hi6
  have HZ6 := Lib.hid hz6; clear hz6
  have HN6 := Lib.hid hn6; clear hn6
  have HB6 := Lib.hid hb6; clear hb6
  obtain ⟨⟨c0, c1, c2, c3, c4⟩, hfr⟩ := h.cells
  have f1 := hfr 1
  have hlook := names_look h.names t (by unfold maxLen; omega)
  have H := Lib.hid h
  have HO := Lib.hid hok
  have hln := hok.line
  have hll := hok.labs
  have hcl := hok.code
  clear h hok hfr
  cases hf : findA s.labs t with
  | some k =>
    rw [hf] at hlook
    have HR : Hid (addLabA s t = .error (5, s.line)) := Lib.hid (by unfold addLabA; rw [if_pos (by rw [hf]; rfl)])
    have HS := Lib.hid (fun w' => spot_any s.line 5 w')
    clear hf
    go_enter Tryz.func29, Tryz.ntmps29
    go_wp2_with fail
    refine (HS.out _).mono ?_
    rintro e w' ⟨rfl, rfl⟩
    go_wp2_with fail
    go_ret
    exact ⟨(Kept.refl _ w).alloc _, by rw [HR.out]; exact ⟨w.heap.size, Nat.le_refl _, rfl, heap_new1 w _, s.line, by omega, ((Kept.refl (fun _ => False) w).alloc _).at_ H.out.box (fun f => f)⟩⟩
  | none =>
    rw [hf] at hlook
    obtain ⟨sv, cv, rfl, _⟩ := Made.of_own insC_five H.out.code rfl (by unfold maxLen; omega)
    obtain ⟨W1, hst, hN1, hg1⟩ := names_store H.out.names t (by unfold maxLen; omega) (by unfold maxLen; omega) s.code.length (by omega) hf
    obtain ⟨a1, a2, a3, a4, a5, a6, a7, a8, a9⟩ := H.out.apart
    have hk1 : Kept (fun k => k = m) w W1 := (Kept.refl _ w).grown hg1 (fun k _ e => (Option.some.inj e).symm)
    have hbox1 := hk1.at_ H.out.box a1
    have d1 : W1.cell? ⟨b, 1, none⟩ = some u := by rw [cell_at W1 _ 1 _ _ hbox1]; rfl
    have hl1 := row_kept H.out.labs hk1 (fun g hg e => a5 (by rw [← e]; exact hg))
    have HL1 := Lib.hid hl1
    have HR : Hid (addLabA s t = .ok ⟨s.code, s.labs ++ [(t, s.code.length)], s.jmps, s.line⟩) := Lib.hid (by unfold addLabA; rw [if_neg (by rw [hf]; simp)])
    have HE : Hid (∀ u' w3 o, w3.ownsRow B 35 2 u' (s.labs.length + 1) (flat labC s.labs ++ flat labC [(t, s.code.length)]) → (W1.alloc o).grownBy w3 u.ownBlock → (u'.ownBlock = u.ownBlock ∨ u'.ownBlock = some (W1.alloc o).heap.size) →
        w3.cell? ⟨b, 1, none⟩ = some u ∧ w3.frozen? ⟨b, 1, none⟩ = false ∧ BldTo B b m w (.slice sv s.code.length cv) u q (.ok ⟨s.code, s.labs ++ [(t, s.code.length)], s.jmps, s.line⟩) (.returned .nilIface) (w3.setCell ⟨b, 1, none⟩ u')) := Lib.hid (fun u' w3 o h1 h2 h3 => lab_end H.out hg1 hN1 h1 h2 h3)
    have HEL : Hid (Elems (W1.alloc (.cells #[.string (strS t), .int .i64 s.code.length] 35)) (W1.heap.size + 1) (some ⟨W1.heap.size, 0, none⟩) 2 labC [(t, s.code.length)]) := Lib.hid (Elems.block labC_two (heap_new1 W1 _) rfl (by show 1 ≤ maxLen; decide))
    have hBW : B ≤ W1.heap.size := Nat.le_trans hB hk1.size
    have hn63 : (s.code.length : Int) ≤ 9223372036854775807 := by omega
    clear hf hN1 hg1 a1 a2 a3 a4 a5 a6 a7 a8 a9 hk1 hbox1 hl1
    go_enter Tryz.func29, Tryz.ntmps29
    go_wp2_with (at_builtin; refine wpList_append_elems (ys := [(t, s.code.length)]) _ rfl (.tmp 38) (.tmp 42) 26 rfl B 35 i6 (.agg #[.string { data := #[] }, .int .i64 0]) 2 24 Tryz.underlying26 HI6.out HZ6.out HN6.out HB6.out rfl (by decide) labC_two (labC_cell _) u s.labs.length (flat labC s.labs) rfl ?e1 (W1.heap.size + 1) _ 1 rfl ?e2 ?e3 ?e4 ?e5 ?_)
    case e1 => exact HL1.out.alloc _
    case e2 => exact HEL.out
    case e3 => show s.labs.length + 1 ≤ maxLen; unfold maxLen; omega
    case e4 => show (s.labs.length + 1) * 24 ≤ _; omega
    case e5 => simp; omega
    intro u' w3 h1 h2 h3
    obtain ⟨g1, g2, g3⟩ := HE.out u' w3 _ h1 h2 (by rw [World.size_alloc]; exact h3)
    obtain ⟨gu, cu, rfl, _⟩ := own_form h1 (by simp)
    have HF := Lib.hid g3
    clear h1 h2 h3 g3 HE HEL
    go_wp2_with fail
    go_ret
    exact (by rw [HR.out]; exact HF.out)
end Go.Proofs.YtlhnbihpefgcbaaGreatDoor
