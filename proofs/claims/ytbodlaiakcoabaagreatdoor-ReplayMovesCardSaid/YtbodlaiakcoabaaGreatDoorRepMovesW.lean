/-
  ReplayMoves: the walk.
  Conditions: none.
-/
import Derived.Test.YtbodlaiakcoabaaGreatDoorRepUp
import Derived.Test.YtbodlaiakcoabaaGreatDoorRepThs
import Derived.Test.YtbodlaiakcoabaaGreatDoorFew
namespace Go.Proofs.YtbodlaiakcoabaaGreatDoor
open Go.RowKit
set_option linter.unusedSimpArgs false
set_option linter.unusedVariables false
set_option maxRecDepth 100000

/-- An event, so much later. -/
def laterE (d : Int) (e : Ev) : Ev := { e with now := e.now + d }
theorem later_take {d : Int} {L : List Ev} {k : Nat} {e : Ev} (h : L[k]? = some e) : (L.map (laterE d)).take (k + 1) = (L.map (laterE d)).take k ++ [laterE d e] := by
  have h' : (L.map (laterE d))[k]? = some (laterE d e) := by rw [List.getElem?_map, h]; rfl
  obtain ⟨h1, h2⟩ := List.getElem?_eq_some_iff.1 h'
  rw [List.take_succ_eq_append_getElem h1, h2]
theorem take_more {L : List Ev} {k : Nat} {e : Ev} (h : L[k]? = some e) {Q : Ev → Prop} (hq : ∀ ev ∈ L.take k, Q ev) (he : Q e) : ∀ ev ∈ L.take (k + 1), Q ev := by
  obtain ⟨h1, h2⟩ := List.getElem?_eq_some_iff.1 h
  rw [List.take_succ_eq_append_getElem h1, h2]
  intro ev hm
  rcases List.mem_append.1 hm with hm | hm
  · exact hq ev hm
  · simp only [List.mem_singleton] at hm
    subst hm; exact he
set_option maxHeartbeats 8000000 in
theorem moves_any (x : Sc) (L : List Ev) (s : Option Addr) (cap n : Nat) (t : Int) (w : World) (hx : Lies w w.heap.size x) (hE : Elems w w.heap.size s 7 Ev.cells L) (hn : L.length = n) (h64 : ∀ ev ∈ L, Ev64 ev) (hH : Er.HndAt w) :
    Calls Tryz.prog 7 #[x.agg, .slice s n cap, .int .i64 t] w fun e w' => e = .returned (.bool true) ∧ Below w.heap.size w w' := by
  obtain ⟨W0, hW0⟩ : ∃ W0, w.alloc (.cells #[.slice x.os x.obs.length x.oc, .slice x.ps x.prs.length x.pc, .slice x.ks x.pis.length x.kc] 26) = W0 := ⟨_, rfl⟩
  have hk0 : Kept (fun _ => False) w W0 := by rw [← hW0]; exact (Kept.refl _ w).alloc _
  have hs0 : W0.heap.size = w.heap.size + 1 := by rw [← hW0]; simp
  have hb0 : W0.heap[w.heap.size]? = some (.cells #[.slice x.os x.obs.length x.oc, .slice x.ps x.prs.length x.pc, .slice x.ks x.pis.length x.kc] 26 (0, 0)) := by rw [← hW0]; exact heap_alloc_new w _
  have HX := Lib.hid (fun (w' : World) (hk : Kept (fun _ => False) W0 w') => (hx.kept (hk0.trans hk (fun _ _ f => f)) (Nat.le_refl _) (fun _ _ f => f)).more (Nat.le_trans hk0.size hk.size))
  have HE := Lib.hid (fun (w' : World) (hk : Kept (fun _ => False) W0 w') => (hE.kept (hk0.trans hk (fun _ _ f => f)) (Nat.le_refl _) (fun _ _ f => f)).more (Nat.le_trans hk0.size hk.size))
  have HP := Lib.hid (fun (w' : World) (hk : Kept (fun _ => False) W0 w') => box3_cells ((hk.block w.heap.size (by omega) (fun f => f)).trans hb0))
  have HFIN := Lib.hid (fun (w' : World) (hk : Kept (fun _ => False) W0 w') => (hk0.trans hk (fun _ _ f => f)).below (Nat.le_refl _) (fun _ f => f.elim))
  have HH := Lib.hid (hH.on0 hk0)
  have HHW := Lib.hid (fun (w' : World) (hk : Kept (fun _ => False) W0 w') => (hH.on0 hk0).on0 hk)
  have HW0 := Lib.hid hW0
  have HS0 := Lib.hid hs0
  have H64 := Lib.hid h64
  have HN := Lib.hid hn
  have hmax : n ≤ 9223372036854775807 := by have := hE.1; unfold maxLen at this; rw [hn] at this; exact this
  clear hx hE hk0 hs0 hb0 hW0 h64 hH hn
  go_enter Tryz.func7, Tryz.ntmps7
  go_wp2_with fail
  rw [HW0.out]
  clear HW0
  refine (up11_any _ HH.out).mono ?_
  rintro e w1 ⟨rfl, hk1⟩
  obtain ⟨p0, p1, p2⟩ := HP.out w1 hk1
  have HK1 := Lib.hid hk1
  clear hk1
  have HFEW : Hid (Calls Tryz.prog 10 #[x.agg] w1 fun e w' => e = .returned (.bool (Er.fewF x)) ∧ Kept (fun _ => False) w1 w') := Lib.hid (Er.few_any (HX.out w1 HK1.out) (Nat.le_refl _) _ rfl)
  cases hfx : Er.fewF x
  · rw [hfx] at HFEW
    go_wp2_with fail
    refine HFEW.out.mono ?_
    rintro e w2 ⟨rfl, hk2⟩
    have HF := Lib.hid (HFIN.out w2 (HK1.out.trans hk2 (fun _ _ f => f)))
    clear hk2
    go_wp2_with fail
    go_ret
    exact ⟨rfl, HF.out⟩
  rw [hfx] at HFEW
  go_wp2_with fail
  refine HFEW.out.mono ?_
  rintro e w2 ⟨rfl, hk2⟩
  have HK2 := Lib.hid (HK1.out.trans hk2 (fun _ _ f => f))
  clear hk2 p0 p1 p2 hfx
  by_cases h4 : (500 : Int) < (n : Int)
  · have HF := Lib.hid (HFIN.out w2 HK2.out)
    go_wp2_with fail
    go_ret
    exact ⟨rfl, HF.out⟩
  have hl20 : n ≤ 500 := by omega
  by_cases h5 : t < 0
  · have HF := Lib.hid (HFIN.out w2 HK2.out)
    go_wp2_with fail
    go_ret
    exact ⟨rfl, HF.out⟩
  have h5' : 0 ≤ t := by omega
  by_cases h6 : (1048576 : Int) < t
  · have HF := Lib.hid (HFIN.out w2 HK2.out)
    go_wp2_with fail
    go_ret
    exact ⟨rfl, HF.out⟩
  have h6' : t ≤ 1048576 := by omega
  obtain ⟨p0, p1, p2⟩ := HP.out w2 HK2.out
  have HRUN := Lib.hid (run_said x L n HN.out s cap w2 (HX.out w2 HK2.out) (HE.out w2 HK2.out) H64.out (by omega))
  go_wp2_with fail
  refine HRUN.out.mono ?_
  rintro e w3 ⟨hk3, hR⟩
  have HK3 := Lib.hid (HK2.out.trans hk3 (fun _ _ f => f))
  clear hk3 HRUN p0 p1 p2
  rcases hR with ⟨T, u, rfl, -⟩ | ⟨σ, hg, hlg, hG, g, c, m, tts, rfl, hT⟩
  · have HF := Lib.hid (HFIN.out w3 HK3.out)
    go_wp2_with fail
    go_ret
    exact ⟨rfl, HF.out⟩
  have HG := Lib.hid hg
  have HLG := Lib.hid hlg
  have HGOOD := Lib.hid hG
  have HT := Lib.hid hT
  clear hg hlg hG hT
  go_wp2_with fail
  go_loopw [11, 12] (fun v i wr => ∃ k : Nat, i = .int .i64 k ∧ k ≤ n ∧ wr.ownsRow w3.heap.size 38 7 v k (flat Ev.cells ((L.map (laterE t)).take k)) ∧ Kept (fun _ => False) w3 wr ∧ (∀ ev ∈ L.take k, ev.now ≤ 1152921504606846976)) (fun v i _ => n - (intOf i).toNat)
  case atStart => exact ⟨0, rfl, by omega, World.ownsRow_nil _ _ _ _, Kept.refl _ _, by simp⟩
  case round =>
    obtain ⟨k, rfl, hk1, hown, hkr, hall⟩ := hrel
    by_cases hkk : k < n
    · obtain ⟨ev, hev⟩ : ∃ ev, L[k]? = some ev := ⟨_, List.getElem?_eq_getElem (by rw [HN.out]; exact hkk)⟩
      obtain ⟨ga, off, rfl, hga, hc⟩ := (HE.out wr (HK3.out.tr0 hkr)).2 k ev hev
      have k0 : (0 : Int) ≤ (k : Int) := by omega
      have k1 : (k : Int) < (n : Int) := by omega
      have c0 : wr.cell? ⟨ga, off + k * 7, none⟩ = some (.int .i64 ev.kind) := hc 0 _ rfl
      have c1 : wr.cell? ⟨ga, off + k * 7 + 1, none⟩ = some (.int .i64 ev.thread) := hc 1 _ rfl
      have c2 : wr.cell? ⟨ga, off + k * 7 + 2, none⟩ = some (.int .i64 ev.now) := hc 2 _ rfl
      have c3 : wr.cell? ⟨ga, off + k * 7 + 3, none⟩ = some (.int .i64 ev.m.kind) := hc 3 _ rfl
      have c4 : wr.cell? ⟨ga, off + k * 7 + 4, none⟩ = some (.int .i64 ev.m.v) := hc 4 _ rfl
      have c5 : wr.cell? ⟨ga, off + k * 7 + 5, none⟩ = some (.int .i64 ev.value) := hc 5 _ rfl
      have c6 : wr.cell? ⟨ga, off + k * 7 + 6, none⟩ = some (.int .i64 ev.got) := hc 6 _ rfl
      have hev64 := H64.out ev (List.mem_of_getElem? hev)
      have HEV := Lib.hid hev
      have HC := Lib.hid hc
      have HOWN := Lib.hid hown
      have HKR := Lib.hid hkr
      have HALL := Lib.hid hall
      have HF := Lib.hid (HFIN.out _ (HK3.out.tr0 (hkr.alloc (.cells #[.int .i64 ev.kind, .int .i64 ev.thread, .int .i64 ev.now, .int .i64 ev.m.kind, .int .i64 ev.m.v, .int .i64 ev.value, .int .i64 ev.got] 38))))
      clear hev hc hown hkr hall
      have hlo : 0 ≤ ev.now := go_low L HG.out (by show (0 : Int) ≤ 0; decide) ev (List.mem_of_getElem? HEV.out)
      by_cases hbig : (1152921504606846976 : Int) < ev.now
      · clear hev64
        go_wp2_with fail
        go_ret
        exact ⟨rfl, HF.out⟩
      · have hbig2 : ev.now ≤ 1152921504606846976 := by omega
        have hwr : wrap64 (ev.now + t) = ev.now + t := by unfold wrap64; omega
        obtain ⟨WA, hWA⟩ : ∃ WA, wr.alloc (.cells #[.int .i64 ev.kind, .int .i64 ev.thread, .int .i64 (ev.now + t), .int .i64 ev.m.kind, .int .i64 ev.m.v, .int .i64 ev.value, .int .i64 ev.got] 38) = WA := ⟨_, rfl⟩
        have hszA : WA.heap.size = wr.heap.size + 1 := by rw [← hWA]; simp
        have hkA : Kept (fun _ => False) wr WA := by rw [← hWA]; exact (Kept.refl _ _).alloc _
        obtain ⟨WB, hWB⟩ : ∃ WB, WA.alloc (.cells #[.int .i64 ev.kind, .int .i64 ev.thread, .int .i64 (ev.now + t), .int .i64 ev.m.kind, .int .i64 ev.m.v, .int .i64 ev.value, .int .i64 ev.got] 38) = WB := ⟨_, rfl⟩
        have hkB : Kept (fun _ => False) WA WB := by rw [← hWB]; exact (Kept.refl _ _).alloc _
        have hbB : WB.heap[wr.heap.size + 1]? = some (.cells (laterE t ev).cells.toArray 38 (0, 0)) := by rw [← hWB, ← hszA]; exact heap_new1 _ _
        have HKB := Lib.hid (HKR.out.tr0 (hkA.tr0 hkB))
        have HBB := Lib.hid hbB
        have HOB := Lib.hid (own_on HOWN.out (hkA.tr0 hkB) (fun _ _ f => f))
        clear hszA hkA hkB hbB
        subst hWB
        subst hWA
        go_wp2_with (refine wpList_ev1 rfl _ _ rfl (w3 := w3) rfl rfl HKB.out HOB.out (by omega) HBB.out ?_)
        intro v5 w5 hO hk5
        have hO' : w5.ownsRow w3.heap.size 38 7 v5 (k + 1) (flat Ev.cells ((L.map (laterE t)).take (k + 1))) := by rw [later_take HEV.out]; exact hO
        have HO5 := Lib.hid hO'
        have HK5 := Lib.hid hk5
        clear hO hO' hk5 hwr
        have hf5 := HALL.out
        have hf6 := take_more HEV.out (Q := fun ev => ev.now ≤ 1152921504606846976) HALL.out hbig2
        have HALL2 := Lib.hid hf6
        clear hf5 hf6
        go_wp2_with fail
        go_roundw
        case rel => exact ⟨k + 1, by go_num, by omega, HO5.out, HK5.out, HALL2.out⟩
        case measure => simp [intOf]; omega
    · have k1 : ¬ (k : Int) < (n : Int) := by omega
      have hkn : k = n := by omega
      subst hkn
      have hln : (L.map (laterE t)).length = k := by rw [List.length_map]; exact HN.out
      rw [List.take_of_length_le (by omega)] at hown
      rw [List.take_of_length_le (by rw [HN.out]; omega)] at hall
      obtain ⟨s5, c5, rfl, hE5⟩ := own_elems hown hln (by omega)
      obtain ⟨σ2, hg2, hth⟩ := moves_go HG.out t h5'
      have hg2' : goM (startM x.obs (x.prs.map Pr.ops)) 0 (L.map (laterE t)) = .inr σ2 := hg2
      have HRUN2 := Lib.hid (run_good x (L.map (laterE t)) k hln hg2' HLG.out s5 c5 wr (HX.out wr (HK3.out.tr0 hkr)) hE5 (fun ev hev => by
        obtain ⟨e0, he0, rfl⟩ := List.mem_map.1 hev
        have h1 := H64.out e0 he0
        have h2 := hall e0 he0
        exact ⟨by show e0.now + t ≤ _; omega, h1.v0, h1.v1⟩) (by omega))
      have hTr := HT.out.kept hkr
      rw [← hth] at hTr
      have HTR := Lib.hid hTr
      have HKR := Lib.hid (HK3.out.tr0 hkr)
      obtain ⟨p0, p1, p2⟩ := HP.out wr HKR.out
      clear hown hkr hall hE5 hg2 hg2' hth hTr hln
      go_wp2_with fail
      refine HRUN2.out.mono ?_
      rintro e w6 ⟨g6, c6, m6, t6, rfl, hT6, hk6⟩
      have HS := Lib.hid (same_things (HTR.out.kept hk6) hT6)
      have HK6 := Lib.hid (HKR.out.tr0 hk6)
      clear hT6 hk6 p0 p1 p2
      go_wp2_with fail
      refine HS.out.mono ?_
      rintro e w7 ⟨rfl, hk7⟩
      have HF := Lib.hid (HFIN.out w7 (HK6.out.tr0 hk7))
      clear hk7
      go_wp2_with fail
      go_ret
      exact ⟨rfl, HF.out⟩

end Go.Proofs.YtbodlaiakcoabaaGreatDoor
