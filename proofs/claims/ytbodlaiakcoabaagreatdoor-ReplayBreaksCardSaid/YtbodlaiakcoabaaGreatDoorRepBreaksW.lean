/-
  ReplayBreaks: the walk.
  Conditions: none.
-/
import Derived.Test.YtbodlaiakcoabaaGreatDoorRepUp
import Derived.Test.YtbodlaiakcoabaaGreatDoorRepThs
import Derived.Test.YtbodlaiakcoabaaGreatDoorFew
namespace Go.Proofs.YtbodlaiakcoabaaGreatDoor
open Go.RowKit
set_option linter.unusedSimpArgs false
set_option linter.unusedVariables false
set_option maxRecDepth 100000

set_option maxHeartbeats 8000000 in
theorem breaks_any (x : Sc) (L : List Ev) (s : Option Addr) (cap n : Nat) (t : Int) (w : World) (hx : Lies w w.heap.size x) (hE : Elems w w.heap.size s 7 Ev.cells L) (hn : L.length = n) (h64 : ∀ ev ∈ L, Ev64 ev) (hH : Er.HndAt w) :
    Calls Tryz.prog 5 #[x.agg, .slice s n cap, .int .i64 t] w fun e w' => e = .returned (.bool true) ∧ Below w.heap.size w w' := by
  obtain ⟨W0, hW0⟩ : ∃ W0, w.alloc (.cells #[.slice x.os x.obs.length x.oc, .slice x.ps x.prs.length x.pc, .slice x.ks x.pis.length x.kc] 26) = W0 := ⟨_, rfl⟩
  have hk0 : Kept (fun _ => False) w W0 := by rw [← hW0]; exact (Kept.refl _ w).alloc _
  have hs0 : W0.heap.size = w.heap.size + 1 := by rw [← hW0]; simp
  have hb0 : W0.heap[w.heap.size]? = some (.cells #[.slice x.os x.obs.length x.oc, .slice x.ps x.prs.length x.pc, .slice x.ks x.pis.length x.kc] 26 (0, 0)) := by rw [← hW0]; exact heap_alloc_new w _
  have HX := Lib.hid (fun (w' : World) (hk : Kept (fun _ => False) W0 w') => (hx.kept (hk0.trans hk (fun _ _ f => f)) (Nat.le_refl _) (fun _ _ f => f)).more (Nat.le_trans hk0.size hk.size))
  have HE := Lib.hid (fun (w' : World) (hk : Kept (fun _ => False) W0 w') => (hE.kept (hk0.trans hk (fun _ _ f => f)) (Nat.le_refl _) (fun _ _ f => f)).more (Nat.le_trans hk0.size hk.size))
  have HP := Lib.hid (fun (w' : World) (hk : Kept (fun _ => False) W0 w') => box3_cells ((hk.block w.heap.size (by omega) (fun f => f)).trans hb0))
  have HFIN := Lib.hid (fun (w' : World) (hk : Kept (fun _ => False) W0 w') => (hk0.trans hk (fun _ _ f => f)).below (Nat.le_refl _) (fun _ f => f.elim))
  have HH := Lib.hid (hH.on0 hk0)
  have HHW := Lib.hid (fun (w' : World) (hk : Kept (fun _ => False) W0 w') => (hH.on0 hk0).on0 hk)
  have HW0 := Lib.hid hW0
  have HS0 := Lib.hid hs0
  have H64 := Lib.hid h64
  have HN := Lib.hid hn
  have hmax : n ≤ 9223372036854775807 := by have := hE.1; unfold maxLen at this; rw [hn] at this; exact this
  clear hx hE hk0 hs0 hb0 hW0 h64 hH hn
  go_enter Tryz.func5, Tryz.ntmps5
  go_wp2_with fail
  rw [HW0.out]
  clear HW0
  refine (up11_any _ HH.out).mono ?_
  rintro e w1 ⟨rfl, hk1⟩
  obtain ⟨p0, p1, p2⟩ := HP.out w1 hk1
  have HK1 := Lib.hid hk1
  clear hk1
  have HFEW : Hid (Calls Tryz.prog 10 #[x.agg] w1 fun e w' => e = .returned (.bool (Er.fewF x)) ∧ Kept (fun _ => False) w1 w') := Lib.hid (Er.few_any (HX.out w1 HK1.out) (Nat.le_refl _) _ rfl)
  cases hfx : Er.fewF x
  · rw [hfx] at HFEW
    go_wp2_with fail
    refine HFEW.out.mono ?_
    rintro e w2 ⟨rfl, hk2⟩
    have HF := Lib.hid (HFIN.out w2 (HK1.out.trans hk2 (fun _ _ f => f)))
    clear hk2
    go_wp2_with fail
    go_ret
    exact ⟨rfl, HF.out⟩
  rw [hfx] at HFEW
  go_wp2_with fail
  refine HFEW.out.mono ?_
  rintro e w2 ⟨rfl, hk2⟩
  have HK2 := Lib.hid (HK1.out.trans hk2 (fun _ _ f => f))
  clear hk2 p0 p1 p2 hfx
  by_cases h4 : (5000 : Int) < (n : Int)
  · have HF := Lib.hid (HFIN.out w2 HK2.out)
    go_wp2_with fail
    go_ret
    exact ⟨rfl, HF.out⟩
  have hl20 : n ≤ 5000 := by omega
  obtain ⟨p0, p1, p2⟩ := HP.out w2 HK2.out
  have HRUN := Lib.hid (run_said x L n HN.out s cap w2 (HX.out w2 HK2.out) (HE.out w2 HK2.out) H64.out (by omega))
  go_wp2_with fail
  refine HRUN.out.mono ?_
  rintro e w3 ⟨hk3, hR⟩
  have HK3 := Lib.hid (HK2.out.trans hk3 (fun _ _ f => f))
  clear hk3 HRUN p0 p1 p2
  rcases hR with ⟨T, u, rfl, -⟩ | ⟨σ, hg, hlg, hG, g, c, m, tts, rfl, hT⟩
  · have HF := Lib.hid (HFIN.out w3 HK3.out)
    by_cases ht0 : t < 0
    · go_wp2_with fail
      go_ret
      exact ⟨rfl, HF.out⟩
    · have ht1 : (0 : Int) ≤ t := by omega
      go_wp2_with fail
      go_ret
      exact ⟨rfl, HF.out⟩
  have HG := Lib.hid hg
  have HLG := Lib.hid hlg
  have HGOOD := Lib.hid hG
  have HT := Lib.hid hT
  clear hg hlg hG hT
  by_cases ht0 : t < 0
  · have HF := Lib.hid (HFIN.out w3 HK3.out)
    go_wp2_with fail
    go_ret
    exact ⟨rfl, HF.out⟩
  have ht1 : (0 : Int) ≤ t := by omega
  obtain ⟨p0, p1, p2⟩ := HP.out w3 HK3.out
  by_cases ht2 : (x.prs.length : Int) ≤ t
  · have HF := Lib.hid (HFIN.out w3 HK3.out)
    go_wp2_with fail
    go_ret
    exact ⟨rfl, HF.out⟩
  have ht3 : t < (x.prs.length : Int) := by omega
  obtain ⟨WA, hWA⟩ : ∃ WA, w3.alloc (.cells #[.int .i64 4, .int .i64 t, .int .i64 0, .int .i64 0, .int .i64 0, .int .i64 0, .int .i64 0] 38) = WA := ⟨_, rfl⟩
  have hkA : Kept (fun _ => False) w3 WA := by rw [← hWA]; exact (Kept.refl _ _).alloc _
  have hbA : WA.heap[w3.heap.size]? = some (.cells (Ev.cells ⟨4, t, 0, ⟨0, 0⟩, 0, 0⟩).toArray 38 (0, 0)) := by rw [← hWA]; exact heap_new1 _ _
  have hoA : WA.ownsRow w3.heap.size 38 7 (.slice (some ⟨w3.heap.size, 0, none⟩) 1 1) 1 (flat Ev.cells [⟨4, t, 0, ⟨0, 0⟩, 0, 0⟩]) := ⟨by simp [flat, Ev.cells], .inr ⟨w3.heap.size, 1, _, rfl, Nat.le_refl _, hbA, by first | decide | simp [Ev.cells], by first | decide | simp [Ev.cells], by first | decide | simp [Ev.cells], by first | rfl | simp [flat, Ev.cells]⟩⟩
  have HKA := Lib.hid hkA
  have HOA := Lib.hid hoA
  have HEA := Lib.hid (HE.out WA (HK3.out.tr0 hkA))
  clear hkA hbA hoA
  subst hWA
  go_wp2_with (refine wpList_evs rfl _ _ rfl (W := w3.heap.size) HN.out rfl rfl HOA.out (by omega) HEA.out HKA.out.size ?_)
  intro v5 w5 hO hk5 hb5
  obtain ⟨g5, c5, rfl, hg5, hlt5⟩ := own_shape hO (by omega)
  have hR5 : Row w5 g5 c5 38 7 Ev.cells (⟨4, t, 0, ⟨0, 0⟩, 0, 0⟩ :: L) := Row.made (by rw [List.length_cons, HN.out]; omega) (ownsRow_base hO)
  have hK5 : Kept (fun _ => False) w3 w5 := HKA.out.trans hk5 (fun q hq e => by
    have e' : some w3.heap.size = some q := e
    simp only [Option.some.injEq] at e'
    omega)
  have HK5 := Lib.hid hK5
  have HR5 := Lib.hid hR5
  have HG5 := Lib.hid hg5
  obtain ⟨k, rfl⟩ : ∃ k : Nat, t = k := ⟨t.toNat, by omega⟩
  have hkl : k < x.prs.length := by omega
  clear hO hk5 hb5 hlt5 hK5 hR5 hg5
  by_cases hn0 : 0 < n
  · obtain ⟨ev, hev⟩ : ∃ ev, L[0]? = some ev := ⟨_, List.getElem?_eq_getElem (by rw [HN.out]; exact hn0)⟩
    obtain ⟨ga, off, rfl, hga, hc⟩ := (HE.out w5 (HK3.out.tr0 HK5.out)).2 0 ev hev
    have cN : w5.cell? ⟨ga, off + 2, none⟩ = some (.int .i64 ev.now) := by simpa using hc 2 _ rfl
    have cS : w5.cell? ⟨g5, 2, none⟩ = some (.int .i64 0) := HR5.out.cell Ev.seven (i := 0) (j := 2) rfl rfl
    have fS := HR5.out.free 2
    have hn0' : (0 : Int) < (n : Int) := by omega
    have hRS : Row (w5.setCell ⟨g5, 2, none⟩ (.int .i64 ev.now)) g5 c5 38 7 Ev.cells (⟨4, k, ev.now, ⟨0, 0⟩, 0, 0⟩ :: L) := Row.set Ev.seven HR5.out (i := 0) (j := 2) (x' := ⟨4, k, ev.now, ⟨0, 0⟩, 0, 0⟩) rfl (by decide) rfl
    have hKS : Kept (fun _ => False) w3 (w5.setCell ⟨g5, 2, none⟩ (.int .i64 ev.now)) := HK5.out.setCell _ _ (fun h => by
      have h' : g5 < w3.heap.size := h
      have := HG5.out
      omega)
    obtain ⟨p0, p1, p2⟩ := HP.out _ (HK3.out.tr0 hKS)
    obtain ⟨σ2, hg2, hth⟩ := breaks_go HG.out k (by rw [List.length_map]; exact hkl) ev.now (by
      cases L with
      | nil => simp at hev
      | cons e l => simp only [List.getElem?_cons_zero, Option.some.injEq] at hev; subst hev; rfl)
    have h64' : Ev64 ev := H64.out ev (List.mem_of_getElem? hev)
    have hE5 : Elems (w5.setCell ⟨g5, 2, none⟩ (.int .i64 ev.now)) (w5.setCell ⟨g5, 2, none⟩ (.int .i64 ev.now)).heap.size (some ⟨g5, 0, none⟩) 7 Ev.cells (⟨4, k, ev.now, ⟨0, 0⟩, 0, 0⟩ :: L) := (Elems.of_row Ev.seven hRS (by rw [List.length_cons, HN.out]; unfold maxLen; omega)).more hRS.lt
    have HRUN2 := Lib.hid (run_good x (⟨4, k, ev.now, ⟨0, 0⟩, 0, 0⟩ :: L) (1 + n) (by rw [List.length_cons, HN.out]; omega) hg2 HLG.out _ c5 _ (HX.out _ (HK3.out.tr0 hKS)) hE5 (fun q hq => by
      rcases List.mem_cons.1 hq with rfl | hq
      · exact ⟨h64'.n1, (by show (-9223372036854775808 : Int) ≤ 0; decide), (by show (0 : Int) ≤ 9223372036854775807; decide)⟩
      · exact H64.out q hq) (by omega))
    have hTr := HT.out.kept hKS
    rw [← hth] at hTr
    have HTR := Lib.hid hTr
    have HKR := Lib.hid (HK3.out.tr0 hKS)
    clear hev hc hRS hKS hg2 hth hTr hE5 h64'
    go_wp2_with fail
    refine HRUN2.out.mono ?_
    rintro e w6 ⟨g6, c6, m6, t6, rfl, hT6, hk6⟩
    have HS := Lib.hid (same_things (HTR.out.kept hk6) hT6)
    have HK6 := Lib.hid (HKR.out.tr0 hk6)
    clear hT6 hk6 p0 p1 p2
    go_wp2_with fail
    refine HS.out.mono ?_
    rintro e w7 ⟨rfl, hk7⟩
    have HF := Lib.hid (HFIN.out w7 (HK6.out.tr0 hk7))
    clear hk7
    go_wp2_with fail
    go_ret
    exact ⟨rfl, HF.out⟩
  · have hn0' : ¬ (0 : Int) < (n : Int) := by omega
    obtain rfl : n = 0 := by omega
    obtain rfl : L = [] := List.length_eq_zero_iff.1 HN.out
    obtain ⟨p0, p1, p2⟩ := HP.out _ (HK3.out.tr0 HK5.out)
    obtain ⟨σ2, hg2, hth⟩ := breaks_go HG.out k (by rw [List.length_map]; exact hkl) 0 rfl
    have hE5 : Elems w5 w5.heap.size (some ⟨g5, 0, none⟩) 7 Ev.cells [⟨4, k, 0, ⟨0, 0⟩, 0, 0⟩] := (Elems.of_row Ev.seven HR5.out (by show 1 ≤ maxLen; decide)).more HR5.out.lt
    have HRUN2 := Lib.hid (run_good x [⟨4, k, 0, ⟨0, 0⟩, 0, 0⟩] (1 + 0) rfl hg2 HLG.out _ c5 _ (HX.out _ (HK3.out.tr0 HK5.out)) hE5 (fun q hq => by
      simp only [List.mem_singleton] at hq
      subst hq
      exact ⟨(by show (0 : Int) ≤ 9223372036854775807; decide), (by show (-9223372036854775808 : Int) ≤ 0; decide), (by show (0 : Int) ≤ 9223372036854775807; decide)⟩) (by omega))
    have hTr := HT.out.kept HK5.out
    rw [← hth] at hTr
    have HTR := Lib.hid hTr
    have HKR := Lib.hid (HK3.out.tr0 HK5.out)
    clear hg2 hth hTr hE5
    go_wp2_with fail
    refine HRUN2.out.mono ?_
    rintro e w6 ⟨g6, c6, m6, t6, rfl, hT6, hk6⟩
    have HS := Lib.hid (same_things (HTR.out.kept hk6) hT6)
    have HK6 := Lib.hid (HKR.out.tr0 hk6)
    clear hT6 hk6 p0 p1 p2
    go_wp2_with fail
    refine HS.out.mono ?_
    rintro e w7 ⟨rfl, hk7⟩
    have HF := Lib.hid (HFIN.out w7 (HK6.out.tr0 hk7))
    clear hk7
    go_wp2_with fail
    go_ret
    exact ⟨rfl, HF.out⟩

end Go.Proofs.YtbodlaiakcoabaaGreatDoor
