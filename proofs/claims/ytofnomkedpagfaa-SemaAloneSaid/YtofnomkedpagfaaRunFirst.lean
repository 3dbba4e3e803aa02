/-
  What the document's first of layers 13 to 18 comes to at a Sema's thing.
  Conditions: of its marks one may be done, none ahead of it.
-/
import Derived.Test.YtofnomkedpagfaaRunDo2
import Derived.Deep.RegionHeld3
import Derived.Deep.DeepCutAuto
import Derived.Deep.Cut
import Derived.Deep.CutRange
namespace Go.Proofs.Ytofnomkedpagfaa
open Go.RowKit
set_option linter.unusedVariables false
set_option linter.unusedSimpArgs false

/-- A thing stored cell by cell over zeros. -/
theorem th_put {w : World} {b : Nat} (h : ThAt b zeroC w) (k n : Int) : ∃ W, (((((((((((((((w.setCell ⟨b, 0, none⟩ (.int .i64 k)).setCell ⟨b, 1, none⟩ (.int .i64 n)).setCell ⟨b, 2, none⟩ (.int .i64 (-1))).setCell ⟨b, 3, none⟩ (.int .i64 0)).setCell ⟨b, 4, none⟩ (.int .i64 0)).setCell ⟨b, 5, none⟩ (.int .i64 0)).setCell ⟨b, 6, none⟩ (.int .i64 0)).setCell ⟨b, 7, none⟩ (.int .i64 0)).setCell ⟨b, 8, none⟩ (.int .i64 0)).setCell ⟨b, 9, none⟩ (.int .i64 0)).setCell ⟨b, 10, none⟩ (.int .i64 0)).setCell ⟨b, 11, none⟩ (.int .i64 0)).setCell ⟨b, 12, none⟩ (.slice none 0 0)).setCell ⟨b, 13, none⟩ (.int .i64 (-1))).setCell ⟨b, 14, none⟩ (.int .i64 0)) = W ∧ ThAt b (idleC k n) W ∧ Kept (fun q => q = b) w W := by
  refine ⟨_, rfl, ?_, setCells_keeps b (idleC k n) 0 w⟩
  have h2 := run_storeCells_from (P := Try.prog) b 45 (idleC k n) 0 zeroC.toArray w h rfl (idle_one k n)
  have h3 := run_storeCells_cells (P := Try.prog) b 0 (idleC k n) 0 w (fun j hj => by
    rw [show (0 + 0 + j) = j by omega, cell_at w b j _ _ h, List.getElem?_toArray, List.getElem?_eq_getElem (show j < zeroC.length from hj)]
    rfl) (fun j hj => frozen_at w b _ _ _ h) (idle_one k n)
  rw [List.take_zero, List.nil_append] at h2
  have e : w.setCells b 0 (idleC k n) = w.setRow b (idleC k n).toArray := by
    have := h3.symm.trans h2
    simpa using this
  show ThAt b (idleC k n) (w.setCells b 0 (idleC k n))
  rw [e]
  exact setRow_heap w b _ _ _ _ h
theorem th_zero (w : World) : ThAt w.heap.size zeroC (w.alloc (.cells #[.int .i64 0, .int .i64 0, .int .i64 0, .int .i64 0, .int .i64 0, .int .i64 0, .int .i64 0, .int .i64 0, .int .i64 0, .int .i64 0, .int .i64 0, .int .i64 0, .slice none 0 0, .int .i64 0, .int .i64 0] 45)) := heap_new1 w _
theorem kept_pass {w w6 W : World} {ob : Obj} (hk : Kept (fun _ => False) (w.alloc ob) w6) (hS : Kept (fun k => k = w.heap.size) w6 W) : Kept (fun _ => False) w W := by
  have h1 : Kept (fun k => k = w.heap.size) w W := ((((Kept.refl (fun _ => False) w).alloc ob).tr0 hk).mono (T := fun k => k = w.heap.size) (fun _ _ f => f.elim)).trans hS (fun _ _ e => e)
  exact ⟨h1.os, h1.tape, h1.output, h1.size, fun k hk _ => h1.block k hk (Nat.ne_of_lt hk)⟩
theorem kept_drewL {w W : World} (h : Kept (fun _ => False) w.drew W) : Kept (fun _ => False) w W := ((Kept.refl (fun _ => False) w).drew).tr0 h

set_option maxHeartbeats 4000000 in
set_option maxRecDepth 100000 in
theorem first_any (n m : Int) (t : Nat) (l : List Nt) (sl : Option Addr) (cap len : Nat) (hl : l.length = len) (hlen : len ≤ 100) (j : Nat) (hj : j < len) (w : World) (hE : Elems w w.heap.size sl 2 Nt.cells l)
    (hno : ∀ i x, i < j → l[i]? = some x → ∀ w', Calls Try.prog 37 #[.agg (idleC 2 n).toArray, .int .i64 t, .agg #[.int .i64 x.kind, .int .i64 x.value]] w' (ThTo w' 2 n false))
    (hyes : ∀ x, l[j]? = some x → ∀ w', Calls Try.prog 37 #[.agg (idleC 2 n).toArray, .int .i64 t, .agg #[.int .i64 x.kind, .int .i64 x.value]] w' (ThTo w' 2 m true)) :
    Calls Try.prog 27 #[.agg (idleC 2 n).toArray, .int .i64 t, .slice sl len cap] w fun e w' => e = .returned (.tuple #[.agg (idleC 2 m).toArray, .int .i64 j]) ∧ Kept (fun _ => False) w w' := by
  have HNO : Hid (∀ i x, i < j → l[i]? = some x → ∀ w', Calls Try.prog 37 #[.agg #[.int .i64 2, .int .i64 n, .int .i64 (-1), .int .i64 0, .int .i64 0, .int .i64 0, .int .i64 0, .int .i64 0, .int .i64 0, .int .i64 0, .int .i64 0, .int .i64 0, .slice none 0 0, .int .i64 (-1), .int .i64 0], .int .i64 t, .agg #[.int .i64 x.kind, .int .i64 x.value]] w' fun e w'' => e = .returned (.tuple #[.agg #[.int .i64 2, .int .i64 n, .int .i64 (-1), .int .i64 0, .int .i64 0, .int .i64 0, .int .i64 0, .int .i64 0, .int .i64 0, .int .i64 0, .int .i64 0, .int .i64 0, .slice none 0 0, .int .i64 (-1), .int .i64 0], .bool false]) ∧ Kept (fun _ => False) w' w'') := Lib.hid hno
  have HYES : Hid (∀ x, l[j]? = some x → ∀ w', Calls Try.prog 37 #[.agg #[.int .i64 2, .int .i64 n, .int .i64 (-1), .int .i64 0, .int .i64 0, .int .i64 0, .int .i64 0, .int .i64 0, .int .i64 0, .int .i64 0, .int .i64 0, .int .i64 0, .slice none 0 0, .int .i64 (-1), .int .i64 0], .int .i64 t, .agg #[.int .i64 x.kind, .int .i64 x.value]] w' fun e w'' => e = .returned (.tuple #[.agg #[.int .i64 2, .int .i64 m, .int .i64 (-1), .int .i64 0, .int .i64 0, .int .i64 0, .int .i64 0, .int .i64 0, .int .i64 0, .int .i64 0, .int .i64 0, .int .i64 0, .slice none 0 0, .int .i64 (-1), .int .i64 0], .bool true]) ∧ Kept (fun _ => False) w' w'') := Lib.hid hyes
  have HE := Lib.hid hE
  have HL := Lib.hid hl
  have HJ := Lib.hid hj
  clear hno hyes hE hl hj
  go_enter Try.func27, Try.ntmps27
  go_upto_region 1 with fail
  generalize hW : (World.alloc w _).alloc _ = W
  have hb := th_begin w 2 n hW
  have HB := Lib.hid hb
  clear hW hb
  obtain ⟨z, hz⟩ : ∃ z, w.heap.size = z := ⟨_, rfl⟩
  rw [hz] at HB ⊢
  have HZ := Lib.hid hz
  clear hz
  go_wp2_with fail
  go_loopw [8] (fun i wr => ∃ k : Nat, i = .int .i64 k ∧ k ≤ j ∧ Kept (fun _ => False) W wr) (fun i _ => len - (intOf i).toNat)
  case atStart => exact ⟨0, rfl, Nat.zero_le _, Kept.refl _ _⟩
  case round =>
    obtain ⟨k, rfl, hk, hkk⟩ := hrel
    have HKK := Lib.hid hkk
    have hkl : k < len := by have := HJ.out; omega
    have hkl2 : (k : Int) < (len : Int) := by omega
    obtain ⟨x, hx⟩ : ∃ x, l[k]? = some x := ⟨_, List.getElem?_eq_getElem (by rw [HL.out]; exact hkl)⟩
    obtain ⟨g, off, rfl, hg, hc⟩ := HE.out.2 k x hx
    have hxc : ∀ w', Kept (fun _ => False) W w' → w'.cell? ⟨g, off + k * 2, none⟩ = some (.int .i64 x.kind) ∧ w'.cell? ⟨g, off + k * 2 + 1, none⟩ = some (.int .i64 x.value) := fun w' hk' => by
      have hkw := HB.out.2.2.tr0 hk'
      exact ⟨(hkw.cell (p := ⟨g, off + k * 2, none⟩) hg (fun f => f)).trans (by have := hc 0 _ rfl; rwa [Nat.add_zero] at this), (hkw.cell (p := ⟨g, off + k * 2 + 1, none⟩) hg (fun f => f)).trans (hc 1 _ rfl)⟩
    have SF : Hid (∀ w', Kept (fun _ => False) wr w' → (fun w' : World => w'.cell? ⟨z, 0, none⟩ = some (.int .i64 2) ∧ w'.cell? ⟨z, 1, none⟩ = some (.int .i64 n) ∧ w'.cell? ⟨z, 2, none⟩ = some (.int .i64 (-1)) ∧ w'.cell? ⟨z, 3, none⟩ = some (.int .i64 0) ∧ w'.cell? ⟨z, 4, none⟩ = some (.int .i64 0) ∧ w'.cell? ⟨z, 5, none⟩ = some (.int .i64 0) ∧ w'.cell? ⟨z, 6, none⟩ = some (.int .i64 0) ∧ w'.cell? ⟨z, 7, none⟩ = some (.int .i64 0) ∧ w'.cell? ⟨z, 8, none⟩ = some (.int .i64 0) ∧ w'.cell? ⟨z, 9, none⟩ = some (.int .i64 0) ∧ w'.cell? ⟨z, 10, none⟩ = some (.int .i64 0) ∧ w'.cell? ⟨z, 11, none⟩ = some (.int .i64 0) ∧ w'.cell? ⟨z, 12, none⟩ = some (.slice none 0 0) ∧ w'.cell? ⟨z, 13, none⟩ = some (.int .i64 (-1)) ∧ w'.cell? ⟨z, 14, none⟩ = some (.int .i64 0) ∧ w'.cell? ⟨g, off + k * 2, none⟩ = some (.int .i64 x.kind) ∧ w'.cell? ⟨g, off + k * 2 + 1, none⟩ = some (.int .i64 x.value)) w') := Lib.hid (fun w' hk' => by
      have h1 := HKK.out.tr0 hk'
      obtain ⟨i0, i1, i2, i3, i4, i5, i6, i7, i8, i9, i10, i11, i12, i13, i14⟩ := idle_cells (HB.out.1.kept h1 (fun f => f))
      exact ⟨i0, i1, i2, i3, i4, i5, i6, i7, i8, i9, i10, i11, i12, i13, i14, hxc w' h1⟩)
    by_cases hkj : k = j
    · subst hkj
      have HD := Lib.hid (HYES.out x hx)
      clear hkk hx hg hc hxc hk
      go_upto_region 4 with fail
      go_cut [9, 10] (fun p bb wx => ∃ b9, p = .pointer (some ⟨b9, 0, none⟩) ∧ bb = .bool true ∧ ThAt b9 (idleC 2 m) wx ∧ Kept (fun _ => False) wr wx)
      case first =>
        go_region_held3 (fun w' => w'.cell? ⟨z, 0, none⟩ = some (.int .i64 2) ∧ w'.cell? ⟨z, 1, none⟩ = some (.int .i64 n) ∧ w'.cell? ⟨z, 2, none⟩ = some (.int .i64 (-1)) ∧ w'.cell? ⟨z, 3, none⟩ = some (.int .i64 0) ∧ w'.cell? ⟨z, 4, none⟩ = some (.int .i64 0) ∧ w'.cell? ⟨z, 5, none⟩ = some (.int .i64 0) ∧ w'.cell? ⟨z, 6, none⟩ = some (.int .i64 0) ∧ w'.cell? ⟨z, 7, none⟩ = some (.int .i64 0) ∧ w'.cell? ⟨z, 8, none⟩ = some (.int .i64 0) ∧ w'.cell? ⟨z, 9, none⟩ = some (.int .i64 0) ∧ w'.cell? ⟨z, 10, none⟩ = some (.int .i64 0) ∧ w'.cell? ⟨z, 11, none⟩ = some (.int .i64 0) ∧ w'.cell? ⟨z, 12, none⟩ = some (.slice none 0 0) ∧ w'.cell? ⟨z, 13, none⟩ = some (.int .i64 (-1)) ∧ w'.cell? ⟨z, 14, none⟩ = some (.int .i64 0) ∧ w'.cell? ⟨g, off + k * 2, none⟩ = some (.int .i64 x.kind) ∧ w'.cell? ⟨g, off + k * 2 + 1, none⟩ = some (.int .i64 x.value)) (first | exact SF.out _ (Kept.refl _ _) | exact SF.out _ (Kept.refl _ _).drew | exact SF.out _ ((Kept.refl _ _).drew.alloc _) | exact SF.out _ H6 | exact SF.out _ (H6.alloc _) | exact SF.out _ hAW) (first | (go_at_call 37; refine (HD.out _).mono ?_; rintro e w6 ⟨rfl, hk6⟩; first | (have hz : ThAt wr.heap.size zeroC w6 := (th_zero wr.drew).kept hk6 (fun f => f); have H6 : Kept (fun _ => False) wr w6 := ((Kept.refl (fun _ => False) wr).drew.alloc _).tr0 hk6; obtain ⟨⟨_, _, _, _, _, _, _, _, _, _, _, _, _, _, _⟩, hfz⟩ := zero_cells hz; have f0 := hfz 0; have f1 := hfz 1; have f2 := hfz 2; have f3 := hfz 3; have f4 := hfz 4; have f5 := hfz 5; have f6 := hfz 6; have f7 := hfz 7; have f8 := hfz 8; have f9 := hfz 9; have f10 := hfz 10; have f11 := hfz 11; have f12 := hfz 12; have f13 := hfz 13; have f14 := hfz 14; obtain ⟨WS, hWS, hBS, hKS⟩ := th_put hz 2 m; have hAW : Kept (fun _ => False) wr WS := kept_drewL (kept_pass (w := wr.drew) hk6 hKS); clear hz hKS hk6 hfz) | (have H6 : Kept (fun _ => False) wr w6 := kept_drewL hk6; have hAW : Kept (fun _ => False) wr (w6.alloc (.cells #[.int .i64 2, .int .i64 m, .int .i64 (-1), .int .i64 0, .int .i64 0, .int .i64 0, .int .i64 0, .int .i64 0, .int .i64 0, .int .i64 0, .int .i64 0, .int .i64 0, .slice none 0 0, .int .i64 (-1), .int .i64 0] 45)) := (kept_drewL hk6).alloc _; have hBS : ThAt w6.heap.size (idleC 2 m) (w6.alloc (.cells #[.int .i64 2, .int .i64 m, .int .i64 (-1), .int .i64 0, .int .i64 0, .int .i64 0, .int .i64 0, .int .i64 0, .int .i64 0, .int .i64 0, .int .i64 0, .int .i64 0, .slice none 0 0, .int .i64 (-1), .int .i64 0] 45)) := heap_new1 w6 _; clear hk6)))
        all_goals
          have HF := Lib.hid (And.intro hBS hAW)
          clear hBS hAW
          go_wp2_with fail
          go_meet
          exact ⟨_, rfl, rfl, HF.out.1, HF.out.2⟩
      case rest =>
        obtain ⟨b9, hp, hbb, h9, hkc⟩ := hcut
        subst hp
        subst hbb
        have H9 := Lib.hid (And.intro h9 (HKK.out.tr0 hkc))
        have HZR := Lib.hid (HB.out.2.1.kept (HKK.out.tr0 hkc) (fun f => f))
        clear h9 hkc
        go_wp2_with (first
          | refine wpList_loadTh rfl rfl rfl H9.out.1 rfl ?_
          | (refine wpList_storeTh rfl rfl rfl rfl HZR.out rfl rfl (idle_one 2 m) ?_; intro W2 hb2 hk2; have HE2 := Lib.hid (And.intro hb2 hk2); clear hb2 hk2))
        exact bodyPost_ret (th_results rfl rfl rfl HE2.out.1 rfl) rfl ⟨rfl, (HB.out.2.2.tr0 H9.out.2).trans HE2.out.2 (fun i hi e => by have := HZ.out; omega)⟩
    · have HD := Lib.hid (HNO.out k x (by omega) hx)
      have hkj2 : k < j := by omega
      clear hkk hx hg hc hxc hk hkj
      go_upto_region 4 with fail
      go_cut [9, 10] (fun p bb wx => bb = .bool false ∧ Kept (fun _ => False) wr wx)
      case first =>
        go_region_held3 (fun w' => w'.cell? ⟨z, 0, none⟩ = some (.int .i64 2) ∧ w'.cell? ⟨z, 1, none⟩ = some (.int .i64 n) ∧ w'.cell? ⟨z, 2, none⟩ = some (.int .i64 (-1)) ∧ w'.cell? ⟨z, 3, none⟩ = some (.int .i64 0) ∧ w'.cell? ⟨z, 4, none⟩ = some (.int .i64 0) ∧ w'.cell? ⟨z, 5, none⟩ = some (.int .i64 0) ∧ w'.cell? ⟨z, 6, none⟩ = some (.int .i64 0) ∧ w'.cell? ⟨z, 7, none⟩ = some (.int .i64 0) ∧ w'.cell? ⟨z, 8, none⟩ = some (.int .i64 0) ∧ w'.cell? ⟨z, 9, none⟩ = some (.int .i64 0) ∧ w'.cell? ⟨z, 10, none⟩ = some (.int .i64 0) ∧ w'.cell? ⟨z, 11, none⟩ = some (.int .i64 0) ∧ w'.cell? ⟨z, 12, none⟩ = some (.slice none 0 0) ∧ w'.cell? ⟨z, 13, none⟩ = some (.int .i64 (-1)) ∧ w'.cell? ⟨z, 14, none⟩ = some (.int .i64 0) ∧ w'.cell? ⟨g, off + k * 2, none⟩ = some (.int .i64 x.kind) ∧ w'.cell? ⟨g, off + k * 2 + 1, none⟩ = some (.int .i64 x.value)) (first | exact SF.out _ (Kept.refl _ _) | exact SF.out _ (Kept.refl _ _).drew | exact SF.out _ ((Kept.refl _ _).drew.alloc _) | exact SF.out _ H6 | exact SF.out _ (H6.alloc _) | exact SF.out _ hAW) (first | (go_at_call 37; refine (HD.out _).mono ?_; rintro e w6 ⟨rfl, hk6⟩; first | (have hz : ThAt wr.heap.size zeroC w6 := (th_zero wr.drew).kept hk6 (fun f => f); have H6 : Kept (fun _ => False) wr w6 := ((Kept.refl (fun _ => False) wr).drew.alloc _).tr0 hk6; obtain ⟨⟨_, _, _, _, _, _, _, _, _, _, _, _, _, _, _⟩, hfz⟩ := zero_cells hz; have f0 := hfz 0; have f1 := hfz 1; have f2 := hfz 2; have f3 := hfz 3; have f4 := hfz 4; have f5 := hfz 5; have f6 := hfz 6; have f7 := hfz 7; have f8 := hfz 8; have f9 := hfz 9; have f10 := hfz 10; have f11 := hfz 11; have f12 := hfz 12; have f13 := hfz 13; have f14 := hfz 14; obtain ⟨WS, hWS, hBS, hKS⟩ := th_put hz 2 n; have hAW : Kept (fun _ => False) wr WS := kept_drewL (kept_pass (w := wr.drew) hk6 hKS); clear hz hKS hk6 hfz) | (have H6 : Kept (fun _ => False) wr w6 := kept_drewL hk6; have hAW : Kept (fun _ => False) wr (w6.alloc (.cells #[.int .i64 2, .int .i64 n, .int .i64 (-1), .int .i64 0, .int .i64 0, .int .i64 0, .int .i64 0, .int .i64 0, .int .i64 0, .int .i64 0, .int .i64 0, .int .i64 0, .slice none 0 0, .int .i64 (-1), .int .i64 0] 45)) := (kept_drewL hk6).alloc _; have hBS : ThAt w6.heap.size (idleC 2 n) (w6.alloc (.cells #[.int .i64 2, .int .i64 n, .int .i64 (-1), .int .i64 0, .int .i64 0, .int .i64 0, .int .i64 0, .int .i64 0, .int .i64 0, .int .i64 0, .int .i64 0, .int .i64 0, .slice none 0 0, .int .i64 (-1), .int .i64 0] 45)) := heap_new1 w6 _; clear hk6)))
        all_goals
          have HF := Lib.hid hAW
          clear hBS hAW
          go_wp2_with fail
          go_meet
          exact ⟨rfl, HF.out⟩
      case rest =>
        obtain ⟨hbb, hkc⟩ := hcut
        subst hbb
        have H9 := Lib.hid (HKK.out.tr0 hkc)
        clear hkc
        go_wp2_with fail
        go_roundw
        case rel => exact ⟨k + 1, by go_num, by omega, H9.out⟩
        case measure => have := HJ.out; simp [intOf]; omega

end Go.Proofs.Ytofnomkedpagfaa
