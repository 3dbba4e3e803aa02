/-
  What the program's add comes to: a line taken.
  Conditions: the table lies as the program's text lays it; the builder's bounds; a line of at most 100000 bytes.
-/
import Derived.Test.YtlhnbihpefgcbaaGreatDoorAsmIns
import Derived.Test.YtlhnbihpefgcbaaGreatDoorInsParse
namespace Go.Proofs.YtlhnbihpefgcbaaGreatDoor
open Go.RowKit

theorem name_short {l : Str} (h : isName l = true) : l.length ≤ 24 := by
  unfold isName at h
  split at h
  · cases h
  · simp only [Bool.and_eq_true, decide_eq_true_eq] at h
    rename_i c r
    simp only [List.length_cons] at h ⊢
    omega
theorem label_short {s : Str} {x : Ln} (h : parseL s = some x) (hl : x.label ≠ []) : x.label.length ≤ 24 := by
  have hf := core_fits h
  unfold fitsL at hf
  rw [if_pos hl] at hf
  simp only [Bool.and_eq_true] at hf
  exact name_short hf.1
theorem target_short {s : Str} {x : Ln} (h : parseL s = some x) : x.target.length ≤ 24 := by
  by_cases ht : x.target = []
  · rw [ht]; simp
  have hop := target_low h ht
  have hgo := goes_is h hop
  have hf := core_fits h
  unfold fitsL at hf
  rw [if_neg (by rw [hgo.1]; simp), if_neg (by omega)] at hf
  simp only [Bool.and_eq_true] at hf
  have hg := hgo.2.1 ht
  rw [if_pos hg] at hf
  simp only [Bool.and_eq_true] at hf
  exact name_short hf.2.2
theorem add_ok {s s' : Bst} {l : Str} (hok : BldOk s) (hn : s.line < 200000) (h : addA s l = .ok s') : BldOk s' := by
  obtain ⟨o1, o2, o3, o4, o5, o6, o7⟩ := hok
  rw [add_is s l o1] at h
  cases e : parseL l with
  | none => rw [e] at h; cases h
  | some x =>
    rw [e] at h
    dsimp only at h
    split at h
    · cases h
    split at h
    · cases h
    rename_i h2
    injection h with h
    subst h
    have hts := target_short e
    by_cases hop : 0 < x.op
    · have hc : s.code.length < 1024 := by
        have : ¬ 1024 ≤ s.code.length := fun h => h2 ⟨hop, h⟩
        omega
      refine ⟨?_, ?_, ?_, ?_, ?_, ?_, ?_⟩
      · simp only [if_pos hop, List.length_append, List.length_cons, List.length_nil]; omega
      · simp only [if_pos hop, List.length_append, List.length_cons, List.length_nil]; split <;> simp <;> omega
      · intro j hj
        simp only [if_pos hop, List.length_append, List.length_cons, List.length_nil]
        rcases List.mem_append.1 hj with hj | hj
        · have := o3 j hj; omega
        · split at hj
          · obtain rfl := List.mem_singleton.1 hj; simp
          · cases hj
      · dsimp only; split <;> first | omega | (rw [List.length_append, List.length_cons, List.length_nil]; omega)
      · dsimp only; omega
      · intro j hj
        rcases List.mem_append.1 hj with hj | hj
        · exact o6 j hj
        · split at hj
          · obtain rfl := List.mem_singleton.1 hj; exact hts
          · cases hj
      · intro j hj
        rcases List.mem_append.1 hj with hj | hj
        · exact o7 j hj
        · split at hj
          · obtain rfl := List.mem_singleton.1 hj; exact o5
          · cases hj
    · have htar : ¬ x.target ≠ [] := fun h => hop (target_low e h)
      simp only [if_neg hop, if_neg htar, List.append_nil]
      exact ⟨o1, o2, o3, by dsimp only; split <;> first | omega | (rw [List.length_append, List.length_cons, List.length_nil]; omega), by dsimp only; omega, o6, o7⟩

/-- Behind the count of lines. -/
theorem line_end {B b m : Nat} {w w3 : World} {s : Bst} {v u q v' u' q' : Value} (hk : Kept (foot b m v u q) w w3) (h : Bld B b m w3 s v' u' q') (hf : ∀ k, foot b m v' u' q' k → foot b m v u q k ∨ w.heap.size ≤ k) :
    AddTo B b m w v u q (.ok (nextA s)) (.returned .nilIface) (w3.setCell ⟨b, 4, none⟩ (.int .i64 ((s.line : Int) + 1))) := by
  obtain ⟨a1, a2, a3, a4, a5, a6, a7, a8, a9⟩ := h.apart
  have k34 : Kept (fun k => k = b) w3 (w3.setCell ⟨b, 4, none⟩ (.int .i64 ((s.line : Int) + 1))) := (Kept.refl _ w3).setCell _ _ (fun _ => rfl)
  refine ⟨hk.trans k34 (fun i _ e => .inl e), v', u', q', rfl, ⟨?_, ?_, ?_, ?_, ?_⟩, hf⟩
  · exact set_cellB h.box
  · exact row_kept h.code k34 (fun g hg e => a2 (by rw [← e]; exact hg))
  · exact row_kept h.labs k34 (fun g hg e => a4 (by rw [← e]; exact hg))
  · exact row_kept h.jmps k34 (fun g hg e => a6 (by rw [← e]; exact hg))
  · exact h.names.kept k34 (fun e => a1 e.symm)

set_option maxRecDepth 100000 in
set_option maxHeartbeats 4000000 in
theorem add_any {B b m : Nat} {w : World} {s : Bst} {v u q : Value} (h : Bld B b m w s v u q) (hok : BldOk s) (l : Str) (hl : l.length ≤ 100000) (hL : Laid w) (hB : B ≤ w.heap.size) :
    Calls Tryz.prog 18 #[.pointer (some ⟨b, 0, none⟩), .string (strS l)] w (AddTo B b m w v u q (addA s l)) := by
  have HP := parse_any (strS l) w hL (by rw [strS_size]; exact hl)
  rw [bytesS_str] at HP
  replace HP := Lib.hid HP
  have H := Lib.hid h
  have HO := Lib.hid hok
  have hln := hok.line
  have hcl := hok.code
  have hlow := h.low
  have HLO := Lib.hid hlow
  clear h hok hL hlow
  go_enter Tryz.func18, Tryz.ntmps18
  go_wp2_with fail
  refine HP.out.mono ?_
  rintro e w1 ⟨⟨x, hx, rfl⟩ | ⟨hx, rfl⟩, hk1⟩
  case inr =>
    obtain ⟨W2, hW2⟩ : ∃ W2, w1.alloc (.cells (lnCells zeroLn) 59) = W2 := ⟨_, rfl⟩
    have hk2 : Kept (fun _ => False) w W2 := by rw [← hW2]; exact hk1.alloc _
    have h2 := H.out.kept hk2 (fun _ _ f => f)
    obtain ⟨⟨c0, c1, c2, c3, c4⟩, _⟩ := h2.cells
    have HS := Lib.hid (fun w' => spot_any s.line 2 w')
    have HF : Hid (AddTo B b m w v u q (addA s l) (.returned (spotV W2.heap.size)) (W2.alloc (.cells (spotC (2, s.line)) 67))) := Lib.hid (by
      unfold addA
      rw [hx]
      exact ⟨(hk2.mono (fun _ _ f => f.elim)).alloc _, W2.heap.size, hk2.size, rfl, heap_new1 W2 _⟩)
    clear hx hk1 h2
    go_wp2_with fail
    refine (HS.out _).mono ?_
    rintro e w3 ⟨rfl, rfl⟩
    go_wp2_with fail
    go_ret
    exact HF.out
  obtain ⟨W2, hW2⟩ : ∃ W2, w1.alloc (.cells (lnCells x) 59) = W2 := ⟨_, rfl⟩
  have hk2 : Kept (fun _ => False) w W2 := by rw [← hW2]; exact hk1.alloc _
  have hbx : W2.heap[w1.heap.size]? = some (.cells (lnCells x) 59 (0, 0)) := by rw [← hW2]; exact heap_new1 w1 _
  have hw1 : w.heap.size ≤ w1.heap.size := hk1.size
  have hB2 : B ≤ W2.heap.size := Nat.le_trans hB hk2.size
  have H2 := Lib.hid (H.out.kept hk2 (fun _ _ f => f))
  obtain ⟨⟨y0, y1, y2, y3, y4, y5, y6⟩, _⟩ := cells7 hbx
  have HK2 := Lib.hid hk2
  have HX := Lib.hid hx
  clear hk1 hk2 hx hbx HP
  by_cases hlab : x.label = []
  case neg =>
    obtain ⟨z1, z2⟩ := byte_no (s := strS x.label) (by rw [strS_size]; exact List.length_pos_iff.2 hlab)
    have HA := Lib.hid (addLabel_any H2.out HO.out x.label (by have := label_short HX.out hlab; omega) hB2)
    have HR : Hid (addA s l = (addLabA s x.label).map nextA) := Lib.hid (by unfold addA; rw [HX.out]; dsimp only; rw [if_pos hlab])
    clear hlab
    go_wp2_with fail
    refine HA.out.mono ?_
    rintro e w3 ⟨hk3, hm⟩
    cases hr : addLabA s x.label with
    | error p =>
      rw [hr] at hm
      obtain ⟨g, hg, rfl, hs, k, hk, hb⟩ := hm
      have c4 : w3.cell? ⟨b, 4, none⟩ = some (.int .i64 k) := by rw [cell_at w3 _ 4 _ _ hb]; rfl
      have f4 : w3.frozen? ⟨b, 4, none⟩ = false := frozen_at w3 _ 4 _ _ hb
      have HF : Hid (AddTo B b m w v u q (addA s l) (.returned (spotV g)) (w3.setCell ⟨b, 4, none⟩ (.int .i64 ((k : Int) + 1)))) := Lib.hid (by
        have hgb : g ≠ b := fun e => by have := HLO.out b (.inl rfl); have := HK2.out.size; omega
        rw [HR.out, hr]
        exact ⟨((HK2.out.mono (fun _ _ f => f.elim)).trans hk3 (fun _ _ e => e)).setCell _ _ (fun _ => .inl rfl), g, Nat.le_trans HK2.out.size hg, rfl, hs.kept ((Kept.refl (fun k => k = b) w3).setCell _ _ (fun _ => rfl)) hgb⟩)
      clear hr hk3 hs hb HA
      go_wp2_with fail
      go_ret
      exact HF.out
    | ok s' =>
      rw [hr] at hm
      obtain ⟨v', u', q', rfl, hb, hf⟩ := hm
      obtain ⟨⟨_, _, _, _, c4⟩, hfr⟩ := hb.cells
      have f4 := hfr 4
      have hs' : s'.line = s.line := by
        unfold addLabA at hr
        split at hr
        · cases hr
        · injection hr with hr; rw [← hr]
      have HF : Hid (AddTo B b m w v u q (addA s l) (.returned .nilIface) (w3.setCell ⟨b, 4, none⟩ (.int .i64 ((s.line : Int) + 1)))) := Lib.hid (by
        rw [HR.out, hr, ← hs']
        exact line_end ((HK2.out.mono (fun _ _ f => f.elim)).trans hk3 (fun _ _ e => e)) hb (fun k hk => (hf k hk).imp id (fun h => Nat.le_trans HK2.out.size h)))
      rw [hs'] at c4
      clear hr hk3 hb hf hfr HA hs'
      go_wp2_with fail
      go_ret
      exact HF.out
  obtain ⟨z1, z2⟩ := byte_yes (s := strS x.label) (by rw [hlab]; rfl)
  by_cases hop : x.op = 0
  case pos =>
    have hop' : (x.op == 0) = true := by rw [hop]; rfl
    obtain ⟨⟨_, _, _, _, c4⟩, hfr⟩ := H2.out.cells
    have f4 := hfr 4
    have HF : Hid (AddTo B b m w v u q (addA s l) (.returned .nilIface) (W2.setCell ⟨b, 4, none⟩ (.int .i64 ((s.line : Int) + 1)))) := Lib.hid (by
      have hr : addA s l = .ok (nextA s) := by unfold addA; rw [HX.out]; dsimp only; rw [if_neg (by simp [hlab]), if_neg (by simp [hop])]
      rw [hr]
      exact line_end (HK2.out.mono (fun _ _ f => f.elim)) H2.out (fun k hk => .inl hk))
    rw [hop] at y1
    clear hop hlab hfr
    go_wp2_with fail
    go_ret
    exact HF.out
  have hop' : (x.op == 0) = false := by rw [beq_eq_false_iff_ne]; exact hop
  have HA := Lib.hid (addIns_any H2.out HO.out x hB2)
  have HR : Hid (addA s l = (addInsA s x).map nextA) := Lib.hid (by unfold addA; rw [HX.out]; dsimp only; rw [if_neg (by simp [hlab]), if_pos hop])
  clear hlab
  go_wp2_with fail
  refine HA.out.mono ?_
  rintro e w3 ⟨hk3, hm⟩
  cases hr : addInsA s x with
  | error p =>
    rw [hr] at hm
    obtain ⟨g, hg, rfl, hs, k, hk, hb⟩ := hm
    have c4 : w3.cell? ⟨b, 4, none⟩ = some (.int .i64 k) := by rw [cell_at w3 _ 4 _ _ hb]; rfl
    have f4 : w3.frozen? ⟨b, 4, none⟩ = false := frozen_at w3 _ 4 _ _ hb
    have HF : Hid (AddTo B b m w v u q (addA s l) (.returned (spotV g)) (w3.setCell ⟨b, 4, none⟩ (.int .i64 ((k : Int) + 1)))) := Lib.hid (by
      have hgb : g ≠ b := fun e => by have := HLO.out b (.inl rfl); have := HK2.out.size; omega
      rw [HR.out, hr]
      exact ⟨((HK2.out.mono (fun _ _ f => f.elim)).trans hk3 (fun _ _ e => e)).setCell _ _ (fun _ => .inl rfl), g, Nat.le_trans HK2.out.size hg, rfl, hs.kept ((Kept.refl (fun k => k = b) w3).setCell _ _ (fun _ => rfl)) hgb⟩)
    clear hr hk3 hs hb HA
    go_wp2_with fail
    go_ret
    exact HF.out
  | ok s' =>
    rw [hr] at hm
    obtain ⟨v', u', q', rfl, hb, hf⟩ := hm
    obtain ⟨⟨_, _, _, _, c4⟩, hfr⟩ := hb.cells
    have f4 := hfr 4
    have hs' : s'.line = s.line := by
      unfold addInsA at hr
      split at hr
      · cases hr
      · injection hr with hr; rw [← hr]
    have HF : Hid (AddTo B b m w v u q (addA s l) (.returned .nilIface) (w3.setCell ⟨b, 4, none⟩ (.int .i64 ((s.line : Int) + 1)))) := Lib.hid (by
      rw [HR.out, hr, ← hs']
      exact line_end ((HK2.out.mono (fun _ _ f => f.elim)).trans hk3 (fun _ _ e => e)) hb (fun k hk => (hf k hk).imp id (fun h => Nat.le_trans HK2.out.size h)))
    rw [hs'] at c4
    clear hr hk3 hb hf hfr HA hs'
    go_wp2_with fail
    go_ret
    exact HF.out

end Go.Proofs.YtlhnbihpefgcbaaGreatDoor
