/-
  ReplayEnds: the walk.
  Conditions: none.
-/
import Derived.Test.YtbodlaiakcoabaaGreatDoorRepUp
import Derived.Test.YtbodlaiakcoabaaGreatDoorRepEvs
import Derived.Test.YtbodlaiakcoabaaGreatDoorFew
namespace Go.Proofs.YtbodlaiakcoabaaGreatDoor
open Go.RowKit
set_option linter.unusedSimpArgs false
set_option linter.unusedVariables false
set_option maxRecDepth 100000

/-- Pending, for any script and any history: a slice. -/
theorem pend_weak (x : Sc) (L : List Ev) (n : Nat) (hln : L.length = n) (s : Option Addr) (cap : Nat) (w : World) (h : Lies w w.heap.size x) (hE : Elems w w.heap.size s 7 Ev.cells L) (h64 : ∀ ev ∈ L, Ev64 ev) (hn : n ≤ 20000) :
    Calls Tryz.prog 12 #[x.agg, .slice s n cap] w fun e w' => ∃ s' n' c', e = .returned (.slice s' n' c') ∧ Kept (fun _ => False) w w' := by
  subst hln
  by_cases hlg : largeF x = false ∧ goodF x = true
  · refine (pend_any x L s cap w h hE h64 hn hlg.1 hlg.2).mono ?_
    rintro e w' ⟨hk, hR⟩
    rcases hR with ⟨k, h0, rfl⟩ | ⟨σ, h0, _, g, _, rfl, _⟩
    · exact ⟨_, _, _, rfl, hk⟩
    · exact ⟨_, _, _, rfl, hk⟩
  · refine (pend_bad x L.length s cap w h (fun h => hlg h)).mono ?_
    rintro e w' ⟨rfl, hk⟩
    exact ⟨_, _, _, rfl, hk⟩
/-- Pending, of a history that may have been. -/
theorem pend_good {σ : St} (x : Sc) (L : List Ev) (n : Nat) (hln : L.length = n) (hgo : goM (startM x.obs (x.prs.map Pr.ops)) 0 L = .inr σ) (hlg : largeF x = false ∧ goodF x = true) (nt : Nat) (hnt : σ.threads.length = nt) (s : Option Addr) (cap : Nat) (w : World) (h : Lies w w.heap.size x) (hE : Elems w w.heap.size s 7 Ev.cells L) (h64 : ∀ ev ∈ L, Ev64 ev) (hn : n ≤ 20000) :
    Calls Tryz.prog 12 #[x.agg, .slice s n cap] w fun e w' => ∃ g, e = .returned (.slice (some ⟨g, 0, none⟩) nt nt) ∧ Row w' g nt 3 1 intC (σ.threads.map pendM) ∧ Kept (fun _ => False) w w' := by
  subst hln hnt
  refine (pend_any x L s cap w h hE h64 hn hlg.1 hlg.2).mono ?_
  rintro e w' ⟨hk, hR⟩
  rcases hR with ⟨k, h0, rfl⟩ | ⟨σ', h0, _, g, _, rfl, hrow⟩
  · rw [hgo] at h0; cases h0
  · rw [hgo] at h0
    simp only [Sum.inr.injEq] at h0
    subst h0
    exact ⟨g, rfl, hrow, hk⟩
theorem last_take {L : List Ev} {k : Nat} {e : Ev} (h : L[k]? = some e) : lastM 0 (L.take (k + 1)) = e.now := by
  obtain ⟨h1, h2⟩ := List.getElem?_eq_some_iff.1 h
  unfold lastM
  rw [List.take_succ_eq_append_getElem h1, h2, List.getLast?_append]
  rfl
theorem count_take {L : List Ev} {k : Nat} {e : Ev} (h : L[k]? = some e) (p : Ev → Bool) : (L.take (k + 1)).countP p = (L.take k).countP p + (if p e then 1 else 0) := by
  obtain ⟨h1, h2⟩ := List.getElem?_eq_some_iff.1 h
  rw [List.take_succ_eq_append_getElem h1, h2, List.countP_append]
  simp [List.countP_cons]

set_option maxHeartbeats 8000000 in
theorem ends_any (x : Sc) (L : List Ev) (s : Option Addr) (cap n : Nat) (t : Int) (w : World) (hx : Lies w w.heap.size x) (hE : Elems w w.heap.size s 7 Ev.cells L) (hn : L.length = n) (h64 : ∀ ev ∈ L, Ev64 ev) (hH : Er.HndAt w) :
    Calls Tryz.prog 8 #[x.agg, .slice s n cap, .int .i64 t] w fun e w' => e = .returned (.bool true) ∧ Below w.heap.size w w' := by
  obtain ⟨W0, hW0⟩ : ∃ W0, w.alloc (.cells #[.slice x.os x.obs.length x.oc, .slice x.ps x.prs.length x.pc, .slice x.ks x.pis.length x.kc] 26) = W0 := ⟨_, rfl⟩
  have hk0 : Kept (fun _ => False) w W0 := by rw [← hW0]; exact (Kept.refl _ w).alloc _
  have hs0 : W0.heap.size = w.heap.size + 1 := by rw [← hW0]; simp
  have hb0 : W0.heap[w.heap.size]? = some (.cells #[.slice x.os x.obs.length x.oc, .slice x.ps x.prs.length x.pc, .slice x.ks x.pis.length x.kc] 26 (0, 0)) := by rw [← hW0]; exact heap_alloc_new w _
  have HX := Lib.hid (fun (w' : World) (hk : Kept (fun _ => False) W0 w') => (hx.kept (hk0.trans hk (fun _ _ f => f)) (Nat.le_refl _) (fun _ _ f => f)).more (Nat.le_trans hk0.size hk.size))
  have HE := Lib.hid (fun (w' : World) (hk : Kept (fun _ => False) W0 w') => (hE.kept (hk0.trans hk (fun _ _ f => f)) (Nat.le_refl _) (fun _ _ f => f)).more (Nat.le_trans hk0.size hk.size))
  have HP := Lib.hid (fun (w' : World) (hk : Kept (fun _ => False) W0 w') => box3_cells ((hk.block w.heap.size (by omega) (fun f => f)).trans hb0))
  have HFIN := Lib.hid (fun (w' : World) (hk : Kept (fun _ => False) W0 w') => (hk0.trans hk (fun _ _ f => f)).below (Nat.le_refl _) (fun _ f => f.elim))
  have HH := Lib.hid (hH.on0 hk0)
  have HHW := Lib.hid (fun (w' : World) (hk : Kept (fun _ => False) W0 w') => (hH.on0 hk0).on0 hk)
  have HW0 := Lib.hid hW0
  have HS0 := Lib.hid hs0
  have H64 := Lib.hid h64
  have HN := Lib.hid hn
  have hmax : n ≤ 9223372036854775807 := by have := hE.1; unfold maxLen at this; rw [hn] at this; exact this
  clear hx hE hk0 hs0 hb0 hW0 h64 hH hn
  go_enter Tryz.func8, Tryz.ntmps8
  go_wp2_with fail
  rw [HW0.out]
  clear HW0
  refine (up11_any _ HH.out).mono ?_
  rintro e w1 ⟨rfl, hk1⟩
  obtain ⟨p0, p1, p2⟩ := HP.out w1 hk1
  have HK1 := Lib.hid hk1
  clear hk1
  have HFEW : Hid (Calls Tryz.prog 10 #[x.agg] w1 fun e w' => e = .returned (.bool (Er.fewF x)) ∧ Kept (fun _ => False) w1 w') := Lib.hid (Er.few_any (HX.out w1 HK1.out) (Nat.le_refl _) _ rfl)
  cases hfx : Er.fewF x
  · rw [hfx] at HFEW
    go_wp2_with fail
    refine HFEW.out.mono ?_
    rintro e w2 ⟨rfl, hk2⟩
    have HF := Lib.hid (HFIN.out w2 (HK1.out.trans hk2 (fun _ _ f => f)))
    clear hk2
    go_wp2_with fail
    go_ret
    exact ⟨rfl, HF.out⟩
  rw [hfx] at HFEW
  go_wp2_with fail
  refine HFEW.out.mono ?_
  rintro e w2 ⟨rfl, hk2⟩
  have HK2 := Lib.hid (HK1.out.trans hk2 (fun _ _ f => f))
  clear hk2 p0 p1 p2 hfx
  by_cases h4 : (500 : Int) < (n : Int)
  · have HF := Lib.hid (HFIN.out w2 HK2.out)
    go_wp2_with fail
    go_ret
    exact ⟨rfl, HF.out⟩
  have hl20 : n ≤ 500 := by omega
  by_cases h5 : t < 0
  · have HF := Lib.hid (HFIN.out w2 HK2.out)
    go_wp2_with fail
    go_ret
    exact ⟨rfl, HF.out⟩
  obtain ⟨k, rfl⟩ : ∃ k : Nat, t = k := ⟨t.toNat, by omega⟩
  obtain ⟨p0, p1, p2⟩ := HP.out w2 HK2.out
  by_cases h6 : (x.prs.length : Int) ≤ (k : Int)
  · have HF := Lib.hid (HFIN.out w2 HK2.out)
    go_wp2_with fail
    go_ret
    exact ⟨rfl, HF.out⟩
  have h6' : (k : Int) < (x.prs.length : Int) := by omega
  have hkl : k < x.prs.length := by omega
  have HRUN := Lib.hid (run_said x L n HN.out s cap w2 (HX.out w2 HK2.out) (HE.out w2 HK2.out) H64.out (by omega))
  go_wp2_with fail
  refine HRUN.out.mono ?_
  rintro e w3 ⟨hk3, hR⟩
  have HK3 := Lib.hid (HK2.out.tr0 hk3)
  clear hk3 HRUN p0 p1 p2
  obtain ⟨p0, p1, p2⟩ := HP.out w3 HK3.out
  rcases hR with ⟨T, u, rfl, -⟩ | ⟨σ, hg, hlg, hG, g, c, m, tts, rfl, hT⟩
  · have HPN := Lib.hid (pend_weak x L n HN.out s cap w3 (HX.out w3 HK3.out) (HE.out w3 HK3.out) H64.out (by omega))
    go_wp2_with fail
    refine HPN.out.mono ?_
    rintro e w4 ⟨s4, n4, c4, rfl, hk4⟩
    have HF := Lib.hid (HFIN.out w4 (HK3.out.tr0 hk4))
    clear hk4 p0 p1 p2
    go_wp2_with fail
    go_ret
    exact ⟨rfl, HF.out⟩
  have HG := Lib.hid hg
  have HLG := Lib.hid hlg
  have HGOOD := Lib.hid hG
  have hthr : σ.threads.length = x.prs.length := by
    rw [(go_frame L hg).1]
    simp [startM]
  have hnow : lastM 0 L = σ.now := by
    rw [(go_frame L hg).2.1]
    rfl
  obtain ⟨pr, hpr⟩ : ∃ pr, x.prs[k]? = some pr := ⟨_, List.getElem?_eq_getElem hkl⟩
  have hst : (startM x.obs (x.prs.map Pr.ops)).threads[k]? = some ⟨pr.ops, 0, none, 0⟩ := by simp [startM, hpr]
  obtain ⟨tr, htr, hops, hbeg⟩ := ((go_frame L hg).2.2 k).th _ hst
  have HPN := Lib.hid (pend_good x L n HN.out hg hlg x.prs.length hthr s cap w3 (HX.out w3 HK3.out) (HE.out w3 HK3.out) H64.out (by omega))
  have HTR := Lib.hid htr
  have HPR := Lib.hid hpr
  have HOPS : Hid (tr.ops = pr.ops ∧ tr.begun = L.countP (callP k)) := Lib.hid ⟨hops, by rw [hbeg]; exact Nat.zero_add _⟩
  have HNOW := Lib.hid hnow
  have hkn : k < x.prs.length := by omega
  have hn8 : x.prs.length ≤ 8 := by rw [← hthr]; exact hG.nthr
  clear hg hlg hG hT hthr hnow hpr hst htr hops hbeg hkl h6 h6'
  go_wp2_with fail
  refine HPN.out.mono ?_
  rintro e w4 ⟨g4, rfl, hrow, hk4⟩
  have HK4 := Lib.hid (HK3.out.tr0 hk4)
  have hcell := hrow.cell intC_one (i := k) (j := 0) (by rw [List.getElem?_map, HTR.out]; rfl) rfl
  rw [Nat.mul_one, Nat.add_zero] at hcell
  clear hk4 hrow p0 p1 p2 HPN
  obtain ⟨p0, p1, p2⟩ := HP.out w4 HK4.out
  have k0 : (0 : Int) ≤ (k : Int) := by omega
  have k1 : (k : Int) < (x.prs.length : Int) := by omega
  obtain ⟨pd, hpd⟩ : ∃ pd, pendM tr = pd := ⟨_, rfl⟩
  rw [hpd] at hcell
  cases hcall : tr.call with
  | some ca =>
    have hpm : 0 ≤ pd := by
      have hpos := ((HGOOD.out.th tr (List.mem_of_getElem? HTR.out)).call ca hcall).pos
      rw [← hpd]; unfold pendM; rw [hcall]
      simp only
      omega
    have hpm1 : (pd == -1) = false := by rw [beq_eq_false_iff_ne]; omega
    have hpm2 : (pd != -1) = true := by rw [bne_iff_ne]; omega
    have hpm3 : ¬ pd = -1 := by omega
    have HF := Lib.hid (HFIN.out w4 HK4.out)
    clear hpd hcall hpm
    go_wp2_with fail
    go_ret
    exact ⟨rfl, HF.out⟩
  | none =>
    have hpm : pd = -1 := by rw [← hpd]; unfold pendM; rw [hcall]
    subst hpm
    have HCALL := Lib.hid hcall
    clear hpd hcall
    go_wp2_with fail
    go_loopw [12, 13, 14] (fun c v i wr => ∃ j cn : Nat, i = .int .i64 j ∧ j ≤ n ∧ c = .int .i64 cn ∧ cn ≤ j ∧ (L.take j).countP (callP k) = cn ∧ v = .int .i64 (lastM 0 (L.take j)) ∧ wr = w4) (fun c v i _ => n - (intOf i).toNat)
    case atStart => exact ⟨0, 0, rfl, by omega, rfl, by omega, rfl, rfl, rfl⟩
    case round =>
      obtain ⟨j, cn, rfl, hj, rfl, hcn, hct, rfl, rfl⟩ := hrel
      by_cases hjn : j < n
      · obtain ⟨ev, hev⟩ : ∃ ev, L[j]? = some ev := ⟨_, List.getElem?_eq_getElem (by rw [HN.out]; exact hjn)⟩
        obtain ⟨ga, off, rfl, hga, hc⟩ := (HE.out wr HK4.out).2 j ev hev
        have j0 : (0 : Int) ≤ (j : Int) := by omega
        have j1 : (j : Int) < (n : Int) := by omega
        have c0 : wr.cell? ⟨ga, off + j * 7, none⟩ = some (.int .i64 ev.kind) := hc 0 _ rfl
        have c1 : wr.cell? ⟨ga, off + j * 7 + 1, none⟩ = some (.int .i64 ev.thread) := hc 1 _ rfl
        have c2 : wr.cell? ⟨ga, off + j * 7 + 2, none⟩ = some (.int .i64 ev.now) := hc 2 _ rfl
        have HLT := Lib.hid (last_take hev)
        have HCT := Lib.hid (count_take hev (callP k))
        have HCN := Lib.hid hct
        clear hev hc hga hct
        cases q1 : (ev.thread == (k : Int)) with
        | false =>
          have HP1 : Hid (callP k ev = false) := Lib.hid (by unfold callP; rw [q1]; rfl)
          go_wp2_with fail
          go_roundw
          case rel => exact ⟨j + 1, cn, by go_num, by omega, rfl, by omega, by rw [HCT.out, HP1.out, HCN.out]; rfl, by rw [HLT.out], by first | rfl | trivial⟩
          case measure => simp [intOf]; omega
        | true =>
          cases q2 : (ev.kind == (1 : Int)) with
          | false =>
            have HP1 : Hid (callP k ev = false) := Lib.hid (by unfold callP; rw [q1, q2]; rfl)
            go_wp2_with fail
            go_roundw
            case rel => exact ⟨j + 1, cn, by go_num, by omega, rfl, by omega, by rw [HCT.out, HP1.out, HCN.out]; rfl, by rw [HLT.out], by first | rfl | trivial⟩
            case measure => simp [intOf]; omega
          | true =>
            have HP1 : Hid (callP k ev = true) := Lib.hid (by unfold callP; rw [q1, q2]; rfl)
            have hcn5 : (cn : Int) + 1 ≤ 500 := by omega
            go_wp2_with fail
            go_roundw
            case rel => exact ⟨j + 1, cn + 1, by go_num, by omega, by go_num, by omega, by rw [HCT.out, HP1.out, HCN.out]; rfl, by rw [HLT.out], by first | rfl | trivial⟩
            case measure => simp [intOf]; omega
      · have j1 : ¬ (j : Int) < (n : Int) := by omega
        have hjn2 : j = n := by omega
        subst hjn2
        rw [List.take_of_length_le (by rw [HN.out]; omega)] at hct
        obtain ⟨nw, hnw⟩ : ∃ nw, lastM 0 (L.take j) = nw := ⟨_, rfl⟩
        rw [hnw]
        rw [List.take_of_length_le (by rw [HN.out]; omega)] at hnw
        have HNW : Hid (σ.now = nw ∧ nw ≤ 9223372036854775807) := Lib.hid ⟨HNOW.out.symm.trans hnw, by rw [← hnw, HNOW.out]; exact HGOOD.out.now1⟩
        have HCT := Lib.hid hct
        clear hct hnw
        go_wp2_with fail
        obtain ⟨w4, hw4⟩ : ∃ z, z = wr := ⟨_, rfl⟩
        subst hw4
        have HKN := Lib.hid hkn
        clear hkn k0 k1 h5 hjn j1 hj hcn
        have HBw4 : Hid (∀ w', Kept (fun _ => False) w4 w' → w'.cell? ⟨w.heap.size, 0, none⟩ = some (.slice x.os x.obs.length x.oc) ∧ w'.cell? ⟨w.heap.size, 1, none⟩ = some (.slice x.ps x.prs.length x.pc) ∧ w'.cell? ⟨w.heap.size, 2, none⟩ = some (.slice x.ks x.pis.length x.kc)) := Lib.hid (fun w' hk => HP.out w' (HK4.out.tr0 hk))
        have HXw4 : Hid (∀ w', Kept (fun _ => False) w4 w' → Lies w' w'.heap.size x) := Lib.hid (fun w' hk => HX.out w' (HK4.out.tr0 hk))
        have HEw4 : Hid (∀ w', Kept (fun _ => False) w4 w' → Elems w' w'.heap.size s 7 Ev.cells L) := Lib.hid (fun w' hk => HE.out w' (HK4.out.tr0 hk))
        obtain ⟨b1, hb1⟩ : ∃ b, (evM σ ⟨1, k, nw, ⟨0, 0⟩, 0, 0⟩).isNone = b := ⟨_, rfl⟩
        have HBB1 := Lib.hid hb1
        clear hb1
        have HST1 : Hid (Stay (PErr b1 j)) := Lib.hid (stay_err _ _)
        have HRUN1 : Hid (∀ g c w', Kept (fun _ => False) w4 w' → Elems w' w'.heap.size (some ⟨g, 0, none⟩) 7 Ev.cells (L ++ [⟨1, k, nw, ⟨0, 0⟩, 0, 0⟩]) → Calls Tryz.prog 11 #[x.agg, .slice (some ⟨g, 0, none⟩) (j + 1) c] w' fun e w'' => ∃ a b, e = .returned (.tuple #[a, b]) ∧ PErr b1 j w'' b ∧ Kept (fun _ => False) w' w'') := Lib.hid (fun g c w' hk hE => run_more x L ⟨1, k, nw, ⟨0, 0⟩, 0, 0⟩ _ HN.out (by omega) H64.out ⟨HNW.out.2, (by show (-9223372036854775808 : Int) ≤ 0; decide), (by show (0 : Int) ≤ 9223372036854775807; decide)⟩ HLG.out.1 HLG.out.2 HG.out _ HBB1.out w' _ c (HXw4.out w' hk) hE)
        have HST2 : Hid (Stay (PErr true j)) := Lib.hid (stay_err _ _)
        have HRUN2 : Hid (∀ g c w', Kept (fun _ => False) w4 w' → Elems w' w'.heap.size (some ⟨g, 0, none⟩) 7 Ev.cells (L ++ [⟨3, k, nw, ⟨0, 0⟩, 0, 0⟩]) → Calls Tryz.prog 11 #[x.agg, .slice (some ⟨g, 0, none⟩) (j + 1) c] w' fun e w'' => ∃ a b, e = .returned (.tuple #[a, b]) ∧ PErr true j w'' b ∧ Kept (fun _ => False) w' w'') := Lib.hid (fun g c w' hk hE => run_more x L ⟨3, k, nw, ⟨0, 0⟩, 0, 0⟩ _ HN.out (by omega) H64.out ⟨HNW.out.2, (by show (-9223372036854775808 : Int) ≤ 0; decide), (by show (0 : Int) ≤ 9223372036854775807; decide)⟩ HLG.out.1 HLG.out.2 HG.out _ (by rw [ev_idle (t := tr) (by simpa using HTR.out) HCALL.out (.inr rfl)]; rfl) w' _ c (HXw4.out w' hk) hE)
        have HST3 : Hid (Stay (PErr true j)) := Lib.hid (stay_err _ _)
        have HRUN3 : Hid (∀ g c w', Kept (fun _ => False) w4 w' → Elems w' w'.heap.size (some ⟨g, 0, none⟩) 7 Ev.cells (L ++ [⟨2, k, nw, ⟨17, 0⟩, 0, 0⟩]) → Calls Tryz.prog 11 #[x.agg, .slice (some ⟨g, 0, none⟩) (j + 1) c] w' fun e w'' => ∃ a b, e = .returned (.tuple #[a, b]) ∧ PErr true j w'' b ∧ Kept (fun _ => False) w' w'') := Lib.hid (fun g c w' hk hE => run_more x L ⟨2, k, nw, ⟨17, 0⟩, 0, 0⟩ _ HN.out (by omega) H64.out ⟨HNW.out.2, (by show (-9223372036854775808 : Int) ≤ 0; decide), (by show (0 : Int) ≤ 9223372036854775807; decide)⟩ HLG.out.1 HLG.out.2 HG.out _ (by rw [ev_idle (t := tr) (by simpa using HTR.out) HCALL.out (.inl rfl)]; rfl) w' _ c (HXw4.out w' hk) hE)
        have HSAa : Hid (StayAll [PEq x.agg, PNil w4.heap.size, PEq (.slice s j cap), POwn w4.heap.size j L, PEq (.int .i64 k), PEq (.int .i64 nw), PEq ((⟨1, k, nw, ⟨0, 0⟩, 0, 0⟩ : Ev).agg), PLit ⟨1, k, nw, ⟨0, 0⟩, 0, 0⟩, PAll (j + 1) (L ++ [⟨1, k, nw, ⟨0, 0⟩, 0, 0⟩]), PTwo (PErr b1 j), PTwo (PErr b1 j), PAny, (PErr b1 j), PAny, (PErr b1 j)]) := Lib.hid ⟨stay_eq _, stay_nil _, stay_eq _, stay_own _ _ _, stay_eq _, stay_eq _, stay_eq _, stay_lit _, stay_all _ _, stay_two HST1.out, stay_two HST1.out, stay_anyR, HST1.out, stay_anyR, HST1.out, trivial⟩
        have HPEa : Hid (∀ jq, jq < 7 → jq ≠ 1 → jq ≠ 3 → ∀ P, ([PEq x.agg, PNil w4.heap.size, PEq (.slice s j cap), POwn w4.heap.size j L, PEq (.int .i64 k), PEq (.int .i64 nw), PEq ((⟨1, k, nw, ⟨0, 0⟩, 0, 0⟩ : Ev).agg), PLit ⟨1, k, nw, ⟨0, 0⟩, 0, 0⟩, PAll (j + 1) (L ++ [⟨1, k, nw, ⟨0, 0⟩, 0, 0⟩]), PTwo (PErr b1 j), PTwo (PErr b1 j), PAny, (PErr b1 j), PAny, (PErr b1 j)] : List (World → Value → Prop))[jq]? = some P → ∃ c, P = PEq c) := Lib.hid (fun jq h1 h2 h3 P hP => by
          have hj : jq = 0 ∨ jq = 2 ∨ jq = 4 ∨ jq = 5 ∨ jq = 6 := by omega
          rcases hj with rfl | rfl | rfl | rfl | rfl <;> (simp only [List.getElem?_cons_zero, List.getElem?_cons_succ, Option.some.injEq] at hP; exact ⟨_, hP.symm⟩))
        refine wp_region_any (by kernel_rfl) (wpAny_inv (fun l a w' => ∃ v0 v1 v2 v3 v4 v5 v6 v7 v8 v9 v10 v11 v12 v13 v14, a = ⟨#[x.agg, Value.slice s j cap, Value.int IntKind.i64 (k : Int), Value.pointer (some ⟨w.heap.size, 0, none⟩), undef, undef, Value.bool false, Value.bool true, Value.bool true, Value.slice (some ⟨g, 0, none⟩) m c, Value.nilIface, Value.slice (some ⟨g4, 0, none⟩) x.prs.length x.prs.length, Value.int IntKind.i64 (cn : Int), Value.int IntKind.i64 nw, Value.int IntKind.i64 (j : Int), v13, v14, undef, undef, undef, undef, Value.bool true, Value.agg #[Value.slice x.os x.obs.length x.oc, Value.slice x.ps x.prs.length x.pc, Value.slice x.ks x.pis.length x.kc], Value.bool true, Value.bool true, Value.bool false, Value.bool false, Value.slice s j cap, Value.int IntKind.i64 (j : Int), Value.bool (decide (500 < (j : Int))), Value.bool (decide (500 < (j : Int))), Value.bool (decide (500 < (j : Int))), Value.int IntKind.i64 (k : Int), Value.bool (decide ((k : Int) < 0)), Value.bool (decide (500 < (j : Int)) || decide ((k : Int) < 0)), Value.bool (decide (500 < (j : Int)) || decide ((k : Int) < 0)), Value.int IntKind.i64 (k : Int), Value.pointer (some ⟨w.heap.size, 1, none⟩), Value.slice x.ps x.prs.length x.pc, Value.int IntKind.i64 (x.prs.length : Int), Value.bool false, Value.bool (decide (500 < (j : Int)) || decide ((k : Int) < 0)), undef, Value.tuple #[Value.slice (some ⟨g, 0, none⟩) m c, Value.nilIface], Value.agg #[Value.slice x.os x.obs.length x.oc, Value.slice x.ps x.prs.length x.pc, Value.slice x.ks x.pis.length x.kc], Value.slice s j cap, Value.tuple #[Value.slice (some ⟨g, 0, none⟩) m c, Value.nilIface], Value.slice (some ⟨g, 0, none⟩) m c, Value.nilIface, Value.agg #[Value.slice x.os x.obs.length x.oc, Value.slice x.ps x.prs.length x.pc, Value.slice x.ks x.pis.length x.kc], Value.slice s j cap, Value.slice (some ⟨g4, 0, none⟩) x.prs.length x.prs.length, Value.nilIface, Value.bool false, Value.bool false, Value.int IntKind.i64 (k : Int), Value.slice (some ⟨g4, 0, none⟩) x.prs.length x.prs.length, Value.int IntKind.i64 (x.prs.length : Int), Value.bool false, Value.bool false, Value.bool false, Value.slice (some ⟨g4, 0, none⟩) x.prs.length x.prs.length, Value.int IntKind.i64 (k : Int), Value.pointer (some ⟨g4, k, none⟩), Value.int IntKind.i64 (-1), Value.bool false, Value.bool false, undef, Value.int IntKind.i64 (j : Int), Value.slice s j cap, Value.int IntKind.i64 (j : Int), Value.bool false, u72, u73, u74, u75, u76, u77, u78, u79, u80, u81, u82, u83, u84, u85, u86, u87, u88, u89, u90, u91, u92, u93, u94, u95, v10, v0, v1, v2, v3, v4, v5, v6, v7, v8, v9, v11, v12, undef, undef, undef, undef, undef, undef, undef, undef, undef, undef, undef, undef, undef, undef, undef, undef, undef, undef, undef, undef, undef, undef, undef, undef, undef, undef, undef, undef, undef, undef, undef, undef, undef, undef, undef, undef, undef, undef, undef, undef, undef, undef, undef, undef, undef, undef, undef, undef, undef, undef, undef, undef, undef], []⟩ ∧ AG w4 [PEq x.agg, PNil w4.heap.size, PEq (.slice s j cap), POwn w4.heap.size j L, PEq (.int .i64 k), PEq (.int .i64 nw), PEq ((⟨1, k, nw, ⟨0, 0⟩, 0, 0⟩ : Ev).agg), PLit ⟨1, k, nw, ⟨0, 0⟩, 0, 0⟩, PAll (j + 1) (L ++ [⟨1, k, nw, ⟨0, 0⟩, 0, 0⟩]), PTwo (PErr b1 j), PTwo (PErr b1 j), PAny, (PErr b1 j), PAny, (PErr b1 j)] 7 l w' [v0, v1, v2, v3, v4, v5, v6, v7, v8, v9, v10, v11, v12, v13, v14]) ?hstepa ?henda _ _ _ _ (by simp) (by simp) ?hstarta)
        case hstarta =>
          exact ⟨_, _, _, _, _, _, _, _, _, _, _, _, _, _, _, rfl, ⟨(Kept.refl _ _).drew, fun i P v _ hv hf _ => (flag_none hf).elim, fun h => (flag_none h).elim, fun i _ h => (flag_none h).elim⟩⟩
        case hstepa =>
          rintro l a wr i hs ⟨v0, v1, v2, v3, v4, v5, v6, v7, v8, v9, v10, v11, v12, v13, v14, rfl, F⟩ hi
          have hs' : l.size = 15 := hs
          obtain ⟨hlt, hu, hd⟩ := ready_of hi
          have hlt' : i < 15 := hlt
          have hset : ∀ j, (l.setIfInBounds i true).getD j false = if j = i then true else l.getD j false := fun j => getD_set (by omega)
          have hu' := flag_false hu
          have HSET := Lib.hid hset
          clear hi hlt hu hset
          have hi : i = 0 ∨ i = 1 ∨ i = 2 ∨ i = 3 ∨ i = 4 ∨ i = 5 ∨ i = 6 ∨ i = 7 ∨ i = 8 ∨ i = 9 ∨ i = 10 ∨ i = 11 ∨ i = 12 ∨ i = 13 ∨ i = 14 := by omega
          clear hlt'
          obtain ⟨p0, p1, p2⟩ := HBw4.out wr F.kept
          rcases hi with rfl | rfl | rfl | rfl | rfl | rfl | rfl | rfl | rfl | rfl | rfl | rfl | rfl | rfl | rfl
          · refine wpOp_open rfl (fun K hK => ?_)
            go_simp
            exact hK.out _ _ ⟨_, _, _, _, _, _, _, _, _, _, _, _, _, _, _, rfl, F.step HSAa.out 0 HSET.out (Kept.refl _ _) _ rfl _ rfl (fun h => absurd h (by decide)) (fun h => absurd h (by decide))⟩
          · refine wpOp_open rfl (fun K hK => ?_)
            go_simp
            exact hK.out _ _ ⟨_, _, _, _, _, _, _, _, _, _, _, _, _, _, _, rfl, F.step HSAa.out 1 HSET.out (((Kept.refl _ _).alloc _)) _ rfl _ ((nil_new _).le F.kept.size) (fun h => absurd h (by decide)) (fun h => absurd h (by decide))⟩
          · refine wpOp_open rfl (fun K hK => ?_)
            go_simp
            exact hK.out _ _ ⟨_, _, _, _, _, _, _, _, _, _, _, _, _, _, _, rfl, F.step HSAa.out 2 HSET.out (Kept.refl _ _) _ rfl _ rfl (fun h => absurd h (by decide)) (fun h => absurd h (by decide))⟩
          · have d1 : l.getD 1 false = true := by simp [Region.binds] at hd; simp [hd]
            have z1 := F.at_ 1 _ _ rfl rfl d1 hu'
            have d2 : l.getD 2 false = true := by simp [Region.binds] at hd; simp [hd]
            obtain rfl := F.at_ 2 _ _ rfl rfl d2 (flag_out (by rw [hs']; decide))
            refine wpOp_open rfl (fun K hK => ?_)
            refine step_own (w3 := w4) (L := L) (m := j) _ _ F.kept z1 HEw4.out HN.out (by omega) rfl rfl rfl rfl ?_
            intro b v' w' hb hO hk hkb
            exact hK.out _ _ ⟨_, _, _, _, _, _, _, _, _, _, _, _, _, _, _, rfl, F.own HSET.out hk hu' HPEa.out rfl (by decide) hb hkb _ rfl _ hO⟩
          · refine wpOp_open rfl (fun K hK => ?_)
            go_simp
            exact hK.out _ _ ⟨_, _, _, _, _, _, _, _, _, _, _, _, _, _, _, rfl, F.step HSAa.out 4 HSET.out (Kept.refl _ _) _ rfl _ rfl (fun h => absurd h (by decide)) (fun h => absurd h (by decide))⟩
          · refine wpOp_open rfl (fun K hK => ?_)
            go_simp
            exact hK.out _ _ ⟨_, _, _, _, _, _, _, _, _, _, _, _, _, _, _, rfl, F.step HSAa.out 5 HSET.out (Kept.refl _ _) _ rfl _ rfl (fun h => absurd h (by decide)) (fun h => absurd h (by decide))⟩
          · have d4 : l.getD 4 false = true := by simp [Region.binds] at hd; simp [hd]
            obtain rfl := F.at_ 4 _ _ rfl rfl d4 (flag_out (by rw [hs']; decide))
            have d5 : l.getD 5 false = true := by simp [Region.binds] at hd; simp [hd]
            obtain rfl := F.at_ 5 _ _ rfl rfl d5 (flag_out (by rw [hs']; decide))
            refine wpOp_open rfl (fun K hK => ?_)
            go_simp
            exact hK.out _ _ ⟨_, _, _, _, _, _, _, _, _, _, _, _, _, _, _, rfl, F.step HSAa.out 6 HSET.out (Kept.refl _ _) _ rfl _ rfl (fun h => absurd h (by decide)) (fun h => absurd h (by decide))⟩
          · have d6 : l.getD 6 false = true := by simp [Region.binds] at hd; simp [hd]
            obtain rfl := F.at_ 6 _ _ rfl rfl d6 (flag_out (by rw [hs']; decide))
            refine wpOp_open rfl (fun K hK => ?_)
            go_simp
            exact hK.out _ _ ⟨_, _, _, _, _, _, _, _, _, _, _, _, _, _, _, rfl, F.step HSAa.out 7 HSET.out (((Kept.refl _ _).alloc _)) _ rfl _ (lit_new _ ⟨1, k, nw, ⟨0, 0⟩, 0, 0⟩) (fun h => absurd h (by decide)) (fun h => absurd h (by decide))⟩
          · have d3 : l.getD 3 false = true := by simp [Region.binds] at hd; simp [hd]
            have z3 := F.at_ 3 _ _ rfl rfl d3 hu'
            have d7 : l.getD 7 false = true := by simp [Region.binds] at hd; simp [hd]
            have z7 := F.at_ 7 _ _ rfl rfl d7 hu'
            refine wpOp_open rfl (fun K hK => ?_)
            refine step_all (w3 := w4) (L := L) (m := j) (ev := ⟨1, k, nw, ⟨0, 0⟩, 0, 0⟩) _ _ F.kept z3 z7 (by omega) rfl rfl rfl rfl ?_
            intro v' w' hA hk
            exact hK.out _ _ ⟨_, _, _, _, _, _, _, _, _, _, _, _, _, _, _, rfl, F.all HSET.out hk hu' d3 HPEa.out (by decide) _ rfl _ hA⟩
          · have d0 : l.getD 0 false = true := by simp [Region.binds] at hd; simp [hd]
            obtain rfl := F.at_ 0 _ _ rfl rfl d0 (flag_out (by rw [hs']; decide))
            have d8 : l.getD 8 false = true := by simp [Region.binds] at hd; simp [hd]
            have z8 := F.at_ 8 _ _ rfl rfl d8 (flag_out (by rw [hs']; decide))
            obtain ⟨g, c, rfl, hE⟩ := z8
            refine wpOp_open rfl (fun K hK => ?_)
            refine step_call (by rfl) 11 #[x.agg, .slice (some ⟨g, 0, none⟩) (j + 1) c] (by kernel_rfl) (P := fun v w' => PTwo (PErr b1 j) w' v ∧ Kept (fun _ => False) wr w') (HRUN1.out g c wr F.kept hE) (fun e w' hh => by obtain ⟨a, b, he, hr, hk⟩ := hh; exact ⟨_, he, ⟨a, b, rfl, hr⟩, hk⟩) ?_
            rintro v' w' ⟨hv, hk⟩
            exact hK.out _ _ ⟨_, _, _, _, _, _, _, _, _, _, _, _, _, _, _, rfl, F.step HSAa.out 9 HSET.out (hk) _ rfl _ hv (fun h => absurd h (by decide)) (fun _ => d8)⟩
          · have d9 : l.getD 9 false = true := by simp [Region.binds] at hd; simp [hd]
            have z9 := F.at_ 9 _ _ rfl rfl d9 (flag_out (by rw [hs']; decide))
            obtain ⟨ra, rb, rfl, hr⟩ := z9
            refine wpOp_open rfl (fun K hK => ?_)
            go_simp
            have d8 := F.late 9 (by decide) d9
            exact hK.out _ _ ⟨_, _, _, _, _, _, _, _, _, _, _, _, _, _, _, rfl, F.step HSAa.out 10 HSET.out (Kept.refl _ _) _ rfl _ ⟨ra, rb, rfl, hr⟩ (fun h => absurd h (by decide)) (fun _ => d8)⟩
          · have d10 : l.getD 10 false = true := by simp [Region.binds] at hd; simp [hd]
            have z10 := F.at_ 10 _ _ rfl rfl d10 (flag_out (by rw [hs']; decide))
            obtain ⟨ra, rb, rfl, hr⟩ := z10
            refine wpOp_open rfl (fun K hK => ?_)
            go_simp
            have d8 := F.late 10 (by decide) d10
            exact hK.out _ _ ⟨_, _, _, _, _, _, _, _, _, _, _, _, _, _, _, rfl, F.step HSAa.out 11 HSET.out (Kept.refl _ _) _ rfl _ trivial (fun h => absurd h (by decide)) (fun _ => d8)⟩
          · have d10 : l.getD 10 false = true := by simp [Region.binds] at hd; simp [hd]
            have z10 := F.at_ 10 _ _ rfl rfl d10 (flag_out (by rw [hs']; decide))
            obtain ⟨ra, rb, rfl, hr⟩ := z10
            refine wpOp_open rfl (fun K hK => ?_)
            go_simp
            have d8 := F.late 10 (by decide) d10
            exact hK.out _ _ ⟨_, _, _, _, _, _, _, _, _, _, _, _, _, _, _, rfl, F.step HSAa.out 12 HSET.out (Kept.refl _ _) _ rfl _ hr (fun h => absurd h (by decide)) (fun _ => d8)⟩
          · have d11 : l.getD 11 false = true := by simp [Region.binds] at hd; simp [hd]
            have z11 := F.at_ 11 _ _ rfl rfl d11 (flag_out (by rw [hs']; decide))
            refine wpOp_open rfl (fun K hK => ?_)
            go_simp
            have d8 := F.late 11 (by decide) d11
            exact hK.out _ _ ⟨_, _, _, _, _, _, _, _, _, _, _, _, _, _, _, rfl, F.step HSAa.out 13 HSET.out (Kept.refl _ _) _ rfl _ z11 (fun h => absurd h (by decide)) (fun _ => d8)⟩
          · have d12 : l.getD 12 false = true := by simp [Region.binds] at hd; simp [hd]
            have z12 := F.at_ 12 _ _ rfl rfl d12 (flag_out (by rw [hs']; decide))
            refine wpOp_open rfl (fun K hK => ?_)
            go_simp
            have d8 := F.late 12 (by decide) d12
            exact hK.out _ _ ⟨_, _, _, _, _, _, _, _, _, _, _, _, _, _, _, rfl, F.step HSAa.out 14 HSET.out (Kept.refl _ _) _ rfl _ z12 (fun h => absurd h (by decide)) (fun _ => d8)⟩
        case henda =>
          rintro l a wr hs ⟨v0a, v1a, v2a, v3a, v4a, v5a, v6a, v7a, v8a, v9a, v10a, v11a, v12a, v13a, v14a, rfl, F⟩ hr
          have hs' : l.size = 15 := hs
          have HAR := all_ready2 hs (by kernel_rfl) hr
          have hR := F.at_ 14 _ _ rfl rfl (HAR 14 (by decide)) (flag_out (by rw [hs']; decide))
          have hK := F.kept
          clear F hr hs hs' HSAa HPEa HAR
          have HR1 := Lib.hid hR
          have HW5 := Lib.hid hK
          clear hR hK p0 p1 p2
          obtain ⟨p0, p1, p2⟩ := HBw4.out wr HW5.out
          go_wp2_with fail
          obtain ⟨w5, hw5⟩ : ∃ z, z = wr := ⟨_, rfl⟩
          subst hw5
          have HK5 := Lib.hid (HK4.out.tr0 HW5.out)
          have HBw5 : Hid (∀ w', Kept (fun _ => False) w5 w' → w'.cell? ⟨w.heap.size, 0, none⟩ = some (.slice x.os x.obs.length x.oc) ∧ w'.cell? ⟨w.heap.size, 1, none⟩ = some (.slice x.ps x.prs.length x.pc) ∧ w'.cell? ⟨w.heap.size, 2, none⟩ = some (.slice x.ks x.pis.length x.kc)) := Lib.hid (fun w' hk => HP.out w' (HK5.out.tr0 hk))
          have HXw5 : Hid (∀ w', Kept (fun _ => False) w5 w' → Lies w' w'.heap.size x) := Lib.hid (fun w' hk => HX.out w' (HK5.out.tr0 hk))
          have HEw5 : Hid (∀ w', Kept (fun _ => False) w5 w' → Elems w' w'.heap.size s 7 Ev.cells L) := Lib.hid (fun w' hk => HE.out w' (HK5.out.tr0 hk))
          have HRUN2b : Hid (∀ g c w', Kept (fun _ => False) w5 w' → Elems w' w'.heap.size (some ⟨g, 0, none⟩) 7 Ev.cells (L ++ [⟨3, k, nw, ⟨0, 0⟩, 0, 0⟩]) → Calls Tryz.prog 11 #[x.agg, .slice (some ⟨g, 0, none⟩) (j + 1) c] w' fun e w'' => ∃ a b, e = .returned (.tuple #[a, b]) ∧ PErr true j w'' b ∧ Kept (fun _ => False) w' w'') := Lib.hid (fun g c w' hk => HRUN2.out g c w' (HW5.out.tr0 hk))
          clear HST1 HRUN1 HRUN2
          have HSAb : Hid (StayAll [PEq x.agg, PNil w5.heap.size, PEq (.slice s j cap), POwn w5.heap.size j L, PEq (.int .i64 k), PEq (.int .i64 nw), PEq ((⟨3, k, nw, ⟨0, 0⟩, 0, 0⟩ : Ev).agg), PLit ⟨3, k, nw, ⟨0, 0⟩, 0, 0⟩, PAll (j + 1) (L ++ [⟨3, k, nw, ⟨0, 0⟩, 0, 0⟩]), PTwo (PErr true j), PTwo (PErr true j), PAny, (PErr true j), PAny, (PErr true j)]) := Lib.hid ⟨stay_eq _, stay_nil _, stay_eq _, stay_own _ _ _, stay_eq _, stay_eq _, stay_eq _, stay_lit _, stay_all _ _, stay_two HST2.out, stay_two HST2.out, stay_anyR, HST2.out, stay_anyR, HST2.out, trivial⟩
          have HPEb : Hid (∀ jq, jq < 7 → jq ≠ 1 → jq ≠ 3 → ∀ P, ([PEq x.agg, PNil w5.heap.size, PEq (.slice s j cap), POwn w5.heap.size j L, PEq (.int .i64 k), PEq (.int .i64 nw), PEq ((⟨3, k, nw, ⟨0, 0⟩, 0, 0⟩ : Ev).agg), PLit ⟨3, k, nw, ⟨0, 0⟩, 0, 0⟩, PAll (j + 1) (L ++ [⟨3, k, nw, ⟨0, 0⟩, 0, 0⟩]), PTwo (PErr true j), PTwo (PErr true j), PAny, (PErr true j), PAny, (PErr true j)] : List (World → Value → Prop))[jq]? = some P → ∃ c, P = PEq c) := Lib.hid (fun jq h1 h2 h3 P hP => by
            have hj : jq = 0 ∨ jq = 2 ∨ jq = 4 ∨ jq = 5 ∨ jq = 6 := by omega
            rcases hj with rfl | rfl | rfl | rfl | rfl <;> (simp only [List.getElem?_cons_zero, List.getElem?_cons_succ, Option.some.injEq] at hP; exact ⟨_, hP.symm⟩))
          refine wp_region_any (by kernel_rfl) (wpAny_inv (fun l a w' => ∃ v0 v1 v2 v3 v4 v5 v6 v7 v8 v9 v10 v11 v12 v13 v14, a = ⟨#[x.agg, Value.slice s j cap, Value.int IntKind.i64 (k : Int), Value.pointer (some ⟨w.heap.size, 0, none⟩), undef, undef, Value.bool false, Value.bool true, Value.bool true, Value.slice (some ⟨g, 0, none⟩) m c, Value.nilIface, Value.slice (some ⟨g4, 0, none⟩) x.prs.length x.prs.length, Value.int IntKind.i64 (cn : Int), Value.int IntKind.i64 nw, Value.int IntKind.i64 (j : Int), v13a, v14a, v13, v14, undef, undef, Value.bool true, Value.agg #[Value.slice x.os x.obs.length x.oc, Value.slice x.ps x.prs.length x.pc, Value.slice x.ks x.pis.length x.kc], Value.bool true, Value.bool true, Value.bool false, Value.bool false, Value.slice s j cap, Value.int IntKind.i64 (j : Int), Value.bool (decide (500 < (j : Int))), Value.bool (decide (500 < (j : Int))), Value.bool (decide (500 < (j : Int))), Value.int IntKind.i64 (k : Int), Value.bool (decide ((k : Int) < 0)), Value.bool (decide (500 < (j : Int)) || decide ((k : Int) < 0)), Value.bool (decide (500 < (j : Int)) || decide ((k : Int) < 0)), Value.int IntKind.i64 (k : Int), Value.pointer (some ⟨w.heap.size, 1, none⟩), Value.slice x.ps x.prs.length x.pc, Value.int IntKind.i64 (x.prs.length : Int), Value.bool false, Value.bool (decide (500 < (j : Int)) || decide ((k : Int) < 0)), undef, Value.tuple #[Value.slice (some ⟨g, 0, none⟩) m c, Value.nilIface], Value.agg #[Value.slice x.os x.obs.length x.oc, Value.slice x.ps x.prs.length x.pc, Value.slice x.ks x.pis.length x.kc], Value.slice s j cap, Value.tuple #[Value.slice (some ⟨g, 0, none⟩) m c, Value.nilIface], Value.slice (some ⟨g, 0, none⟩) m c, Value.nilIface, Value.agg #[Value.slice x.os x.obs.length x.oc, Value.slice x.ps x.prs.length x.pc, Value.slice x.ks x.pis.length x.kc], Value.slice s j cap, Value.slice (some ⟨g4, 0, none⟩) x.prs.length x.prs.length, Value.nilIface, Value.bool false, Value.bool false, Value.int IntKind.i64 (k : Int), Value.slice (some ⟨g4, 0, none⟩) x.prs.length x.prs.length, Value.int IntKind.i64 (x.prs.length : Int), Value.bool false, Value.bool false, Value.bool false, Value.slice (some ⟨g4, 0, none⟩) x.prs.length x.prs.length, Value.int IntKind.i64 (k : Int), Value.pointer (some ⟨g4, k, none⟩), Value.int IntKind.i64 (-1), Value.bool false, Value.bool false, undef, Value.int IntKind.i64 (j : Int), Value.slice s j cap, Value.int IntKind.i64 (j : Int), Value.bool false, u72, u73, u74, u75, u76, u77, u78, u79, u80, u81, u82, u83, u84, u85, u86, u87, u88, u89, u90, u91, u92, u93, u94, u95, v10a, v0a, v1a, v2a, v3a, v4a, v5a, v6a, v7a, v8a, v9a, v11a, v12a, v10, v0, v1, v2, v3, v4, v5, v6, v7, v8, v9, v11, v12, undef, undef, undef, undef, undef, undef, undef, undef, undef, undef, undef, undef, undef, undef, undef, undef, undef, undef, undef, undef, undef, undef, undef, undef, undef, undef, undef, undef, undef, undef, undef, undef, undef, undef, undef, undef, undef, undef, undef, undef], []⟩ ∧ AG w5 [PEq x.agg, PNil w5.heap.size, PEq (.slice s j cap), POwn w5.heap.size j L, PEq (.int .i64 k), PEq (.int .i64 nw), PEq ((⟨3, k, nw, ⟨0, 0⟩, 0, 0⟩ : Ev).agg), PLit ⟨3, k, nw, ⟨0, 0⟩, 0, 0⟩, PAll (j + 1) (L ++ [⟨3, k, nw, ⟨0, 0⟩, 0, 0⟩]), PTwo (PErr true j), PTwo (PErr true j), PAny, (PErr true j), PAny, (PErr true j)] 7 l w' [v0, v1, v2, v3, v4, v5, v6, v7, v8, v9, v10, v11, v12, v13, v14]) ?hstepb ?hendb _ _ _ _ (by simp) (by simp) ?hstartb)
          case hstartb =>
            exact ⟨_, _, _, _, _, _, _, _, _, _, _, _, _, _, _, rfl, ⟨(Kept.refl _ _).drew, fun i P v _ hv hf _ => (flag_none hf).elim, fun h => (flag_none h).elim, fun i _ h => (flag_none h).elim⟩⟩
          case hstepb =>
            rintro l a wr i hs ⟨v0, v1, v2, v3, v4, v5, v6, v7, v8, v9, v10, v11, v12, v13, v14, rfl, F⟩ hi
            have hs' : l.size = 15 := hs
            obtain ⟨hlt, hu, hd⟩ := ready_of hi
            have hlt' : i < 15 := hlt
            have hset : ∀ j, (l.setIfInBounds i true).getD j false = if j = i then true else l.getD j false := fun j => getD_set (by omega)
            have hu' := flag_false hu
            have HSET := Lib.hid hset
            clear hi hlt hu hset
            have hi : i = 0 ∨ i = 1 ∨ i = 2 ∨ i = 3 ∨ i = 4 ∨ i = 5 ∨ i = 6 ∨ i = 7 ∨ i = 8 ∨ i = 9 ∨ i = 10 ∨ i = 11 ∨ i = 12 ∨ i = 13 ∨ i = 14 := by omega
            clear hlt'
            obtain ⟨p0, p1, p2⟩ := HBw5.out wr F.kept
            rcases hi with rfl | rfl | rfl | rfl | rfl | rfl | rfl | rfl | rfl | rfl | rfl | rfl | rfl | rfl | rfl
            · refine wpOp_open rfl (fun K hK => ?_)
              go_simp
              exact hK.out _ _ ⟨_, _, _, _, _, _, _, _, _, _, _, _, _, _, _, rfl, F.step HSAb.out 0 HSET.out (Kept.refl _ _) _ rfl _ rfl (fun h => absurd h (by decide)) (fun h => absurd h (by decide))⟩
            · refine wpOp_open rfl (fun K hK => ?_)
              go_simp
              exact hK.out _ _ ⟨_, _, _, _, _, _, _, _, _, _, _, _, _, _, _, rfl, F.step HSAb.out 1 HSET.out (((Kept.refl _ _).alloc _)) _ rfl _ ((nil_new _).le F.kept.size) (fun h => absurd h (by decide)) (fun h => absurd h (by decide))⟩
            · refine wpOp_open rfl (fun K hK => ?_)
              go_simp
              exact hK.out _ _ ⟨_, _, _, _, _, _, _, _, _, _, _, _, _, _, _, rfl, F.step HSAb.out 2 HSET.out (Kept.refl _ _) _ rfl _ rfl (fun h => absurd h (by decide)) (fun h => absurd h (by decide))⟩
            · have d1 : l.getD 1 false = true := by simp [Region.binds] at hd; simp [hd]
              have z1 := F.at_ 1 _ _ rfl rfl d1 hu'
              have d2 : l.getD 2 false = true := by simp [Region.binds] at hd; simp [hd]
              obtain rfl := F.at_ 2 _ _ rfl rfl d2 (flag_out (by rw [hs']; decide))
              refine wpOp_open rfl (fun K hK => ?_)
              refine step_own (w3 := w5) (L := L) (m := j) _ _ F.kept z1 HEw5.out HN.out (by omega) rfl rfl rfl rfl ?_
              intro b v' w' hb hO hk hkb
              exact hK.out _ _ ⟨_, _, _, _, _, _, _, _, _, _, _, _, _, _, _, rfl, F.own HSET.out hk hu' HPEb.out rfl (by decide) hb hkb _ rfl _ hO⟩
            · refine wpOp_open rfl (fun K hK => ?_)
              go_simp
              exact hK.out _ _ ⟨_, _, _, _, _, _, _, _, _, _, _, _, _, _, _, rfl, F.step HSAb.out 4 HSET.out (Kept.refl _ _) _ rfl _ rfl (fun h => absurd h (by decide)) (fun h => absurd h (by decide))⟩
            · refine wpOp_open rfl (fun K hK => ?_)
              go_simp
              exact hK.out _ _ ⟨_, _, _, _, _, _, _, _, _, _, _, _, _, _, _, rfl, F.step HSAb.out 5 HSET.out (Kept.refl _ _) _ rfl _ rfl (fun h => absurd h (by decide)) (fun h => absurd h (by decide))⟩
            · have d4 : l.getD 4 false = true := by simp [Region.binds] at hd; simp [hd]
              obtain rfl := F.at_ 4 _ _ rfl rfl d4 (flag_out (by rw [hs']; decide))
              have d5 : l.getD 5 false = true := by simp [Region.binds] at hd; simp [hd]
              obtain rfl := F.at_ 5 _ _ rfl rfl d5 (flag_out (by rw [hs']; decide))
              refine wpOp_open rfl (fun K hK => ?_)
              go_simp
              exact hK.out _ _ ⟨_, _, _, _, _, _, _, _, _, _, _, _, _, _, _, rfl, F.step HSAb.out 6 HSET.out (Kept.refl _ _) _ rfl _ rfl (fun h => absurd h (by decide)) (fun h => absurd h (by decide))⟩
            · have d6 : l.getD 6 false = true := by simp [Region.binds] at hd; simp [hd]
              obtain rfl := F.at_ 6 _ _ rfl rfl d6 (flag_out (by rw [hs']; decide))
              refine wpOp_open rfl (fun K hK => ?_)
              go_simp
              exact hK.out _ _ ⟨_, _, _, _, _, _, _, _, _, _, _, _, _, _, _, rfl, F.step HSAb.out 7 HSET.out (((Kept.refl _ _).alloc _)) _ rfl _ (lit_new _ ⟨3, k, nw, ⟨0, 0⟩, 0, 0⟩) (fun h => absurd h (by decide)) (fun h => absurd h (by decide))⟩
            · have d3 : l.getD 3 false = true := by simp [Region.binds] at hd; simp [hd]
              have z3 := F.at_ 3 _ _ rfl rfl d3 hu'
              have d7 : l.getD 7 false = true := by simp [Region.binds] at hd; simp [hd]
              have z7 := F.at_ 7 _ _ rfl rfl d7 hu'
              refine wpOp_open rfl (fun K hK => ?_)
              refine step_all (w3 := w5) (L := L) (m := j) (ev := ⟨3, k, nw, ⟨0, 0⟩, 0, 0⟩) _ _ F.kept z3 z7 (by omega) rfl rfl rfl rfl ?_
              intro v' w' hA hk
              exact hK.out _ _ ⟨_, _, _, _, _, _, _, _, _, _, _, _, _, _, _, rfl, F.all HSET.out hk hu' d3 HPEb.out (by decide) _ rfl _ hA⟩
            · have d0 : l.getD 0 false = true := by simp [Region.binds] at hd; simp [hd]
              obtain rfl := F.at_ 0 _ _ rfl rfl d0 (flag_out (by rw [hs']; decide))
              have d8 : l.getD 8 false = true := by simp [Region.binds] at hd; simp [hd]
              have z8 := F.at_ 8 _ _ rfl rfl d8 (flag_out (by rw [hs']; decide))
              obtain ⟨g, c, rfl, hE⟩ := z8
              refine wpOp_open rfl (fun K hK => ?_)
              refine step_call (by rfl) 11 #[x.agg, .slice (some ⟨g, 0, none⟩) (j + 1) c] (by kernel_rfl) (P := fun v w' => PTwo (PErr true j) w' v ∧ Kept (fun _ => False) wr w') (HRUN2b.out g c wr F.kept hE) (fun e w' hh => by obtain ⟨a, b, he, hr, hk⟩ := hh; exact ⟨_, he, ⟨a, b, rfl, hr⟩, hk⟩) ?_
              rintro v' w' ⟨hv, hk⟩
              exact hK.out _ _ ⟨_, _, _, _, _, _, _, _, _, _, _, _, _, _, _, rfl, F.step HSAb.out 9 HSET.out (hk) _ rfl _ hv (fun h => absurd h (by decide)) (fun _ => d8)⟩
            · have d9 : l.getD 9 false = true := by simp [Region.binds] at hd; simp [hd]
              have z9 := F.at_ 9 _ _ rfl rfl d9 (flag_out (by rw [hs']; decide))
              obtain ⟨ra, rb, rfl, hr⟩ := z9
              refine wpOp_open rfl (fun K hK => ?_)
              go_simp
              have d8 := F.late 9 (by decide) d9
              exact hK.out _ _ ⟨_, _, _, _, _, _, _, _, _, _, _, _, _, _, _, rfl, F.step HSAb.out 10 HSET.out (Kept.refl _ _) _ rfl _ ⟨ra, rb, rfl, hr⟩ (fun h => absurd h (by decide)) (fun _ => d8)⟩
            · have d10 : l.getD 10 false = true := by simp [Region.binds] at hd; simp [hd]
              have z10 := F.at_ 10 _ _ rfl rfl d10 (flag_out (by rw [hs']; decide))
              obtain ⟨ra, rb, rfl, hr⟩ := z10
              refine wpOp_open rfl (fun K hK => ?_)
              go_simp
              have d8 := F.late 10 (by decide) d10
              exact hK.out _ _ ⟨_, _, _, _, _, _, _, _, _, _, _, _, _, _, _, rfl, F.step HSAb.out 11 HSET.out (Kept.refl _ _) _ rfl _ trivial (fun h => absurd h (by decide)) (fun _ => d8)⟩
            · have d10 : l.getD 10 false = true := by simp [Region.binds] at hd; simp [hd]
              have z10 := F.at_ 10 _ _ rfl rfl d10 (flag_out (by rw [hs']; decide))
              obtain ⟨ra, rb, rfl, hr⟩ := z10
              refine wpOp_open rfl (fun K hK => ?_)
              go_simp
              have d8 := F.late 10 (by decide) d10
              exact hK.out _ _ ⟨_, _, _, _, _, _, _, _, _, _, _, _, _, _, _, rfl, F.step HSAb.out 12 HSET.out (Kept.refl _ _) _ rfl _ hr (fun h => absurd h (by decide)) (fun _ => d8)⟩
            · have d11 : l.getD 11 false = true := by simp [Region.binds] at hd; simp [hd]
              have z11 := F.at_ 11 _ _ rfl rfl d11 (flag_out (by rw [hs']; decide))
              refine wpOp_open rfl (fun K hK => ?_)
              go_simp
              have d8 := F.late 11 (by decide) d11
              exact hK.out _ _ ⟨_, _, _, _, _, _, _, _, _, _, _, _, _, _, _, rfl, F.step HSAb.out 13 HSET.out (Kept.refl _ _) _ rfl _ z11 (fun h => absurd h (by decide)) (fun _ => d8)⟩
            · have d12 : l.getD 12 false = true := by simp [Region.binds] at hd; simp [hd]
              have z12 := F.at_ 12 _ _ rfl rfl d12 (flag_out (by rw [hs']; decide))
              refine wpOp_open rfl (fun K hK => ?_)
              go_simp
              have d8 := F.late 12 (by decide) d12
              exact hK.out _ _ ⟨_, _, _, _, _, _, _, _, _, _, _, _, _, _, _, rfl, F.step HSAb.out 14 HSET.out (Kept.refl _ _) _ rfl _ z12 (fun h => absurd h (by decide)) (fun _ => d8)⟩
          case hendb =>
            rintro l a wr hs ⟨v0b, v1b, v2b, v3b, v4b, v5b, v6b, v7b, v8b, v9b, v10b, v11b, v12b, v13b, v14b, rfl, F⟩ hr
            have hs' : l.size = 15 := hs
            have HAR := all_ready2 hs (by kernel_rfl) hr
            have hR := F.at_ 14 _ _ rfl rfl (HAR 14 (by decide)) (flag_out (by rw [hs']; decide))
            have hK := F.kept
            clear F hr hs hs' HSAb HPEb HAR
            obtain ⟨gg, hgg, hsg⟩ := hR
            subst hgg
            have HSG := Lib.hid hsg
            have HW6 := Lib.hid (HW5.out.tr0 hK)
            have HR1b := Lib.hid (stay_err _ _ _ _ _ hK HR1.out)
            clear hsg hK p0 p1 p2
            obtain ⟨p0, p1, p2⟩ := HBw4.out wr HW6.out
            go_wp2_with fail
            obtain ⟨w6, hw6⟩ : ∃ z, z = wr := ⟨_, rfl⟩
            subst hw6
            have HK6 := Lib.hid (HK4.out.tr0 HW6.out)
            have HBw6 : Hid (∀ w', Kept (fun _ => False) w6 w' → w'.cell? ⟨w.heap.size, 0, none⟩ = some (.slice x.os x.obs.length x.oc) ∧ w'.cell? ⟨w.heap.size, 1, none⟩ = some (.slice x.ps x.prs.length x.pc) ∧ w'.cell? ⟨w.heap.size, 2, none⟩ = some (.slice x.ks x.pis.length x.kc)) := Lib.hid (fun w' hk => HP.out w' (HK6.out.tr0 hk))
            have HXw6 : Hid (∀ w', Kept (fun _ => False) w6 w' → Lies w' w'.heap.size x) := Lib.hid (fun w' hk => HX.out w' (HK6.out.tr0 hk))
            have HEw6 : Hid (∀ w', Kept (fun _ => False) w6 w' → Elems w' w'.heap.size s 7 Ev.cells L) := Lib.hid (fun w' hk => HE.out w' (HK6.out.tr0 hk))
            have HRUN3b : Hid (∀ g c w', Kept (fun _ => False) w6 w' → Elems w' w'.heap.size (some ⟨g, 0, none⟩) 7 Ev.cells (L ++ [⟨2, k, nw, ⟨17, 0⟩, 0, 0⟩]) → Calls Tryz.prog 11 #[x.agg, .slice (some ⟨g, 0, none⟩) (j + 1) c] w' fun e w'' => ∃ a b, e = .returned (.tuple #[a, b]) ∧ PErr true j w'' b ∧ Kept (fun _ => False) w' w'') := Lib.hid (fun g c w' hk => HRUN3.out g c w' (HW6.out.tr0 hk))
            clear HST2 HRUN2b HRUN3
            have HSAc : Hid (StayAll [PEq x.agg, PNil w6.heap.size, PEq (.slice s j cap), POwn w6.heap.size j L, PEq (.int .i64 k), PEq (.int .i64 nw), PEq (.agg #[.int .i64 17, .int .i64 0]), PEq ((⟨2, k, nw, ⟨17, 0⟩, 0, 0⟩ : Ev).agg), PLit ⟨2, k, nw, ⟨17, 0⟩, 0, 0⟩, PAll (j + 1) (L ++ [⟨2, k, nw, ⟨17, 0⟩, 0, 0⟩]), PTwo (PErr true j), PTwo (PErr true j), PAny, (PErr true j), PAny, (PErr true j)]) := Lib.hid ⟨stay_eq _, stay_nil _, stay_eq _, stay_own _ _ _, stay_eq _, stay_eq _, stay_eq _, stay_eq _, stay_lit _, stay_all _ _, stay_two HST3.out, stay_two HST3.out, stay_anyR, HST3.out, stay_anyR, HST3.out, trivial⟩
            have HPEc : Hid (∀ jq, jq < 8 → jq ≠ 1 → jq ≠ 3 → ∀ P, ([PEq x.agg, PNil w6.heap.size, PEq (.slice s j cap), POwn w6.heap.size j L, PEq (.int .i64 k), PEq (.int .i64 nw), PEq (.agg #[.int .i64 17, .int .i64 0]), PEq ((⟨2, k, nw, ⟨17, 0⟩, 0, 0⟩ : Ev).agg), PLit ⟨2, k, nw, ⟨17, 0⟩, 0, 0⟩, PAll (j + 1) (L ++ [⟨2, k, nw, ⟨17, 0⟩, 0, 0⟩]), PTwo (PErr true j), PTwo (PErr true j), PAny, (PErr true j), PAny, (PErr true j)] : List (World → Value → Prop))[jq]? = some P → ∃ c, P = PEq c) := Lib.hid (fun jq h1 h2 h3 P hP => by
              have hj : jq = 0 ∨ jq = 2 ∨ jq = 4 ∨ jq = 5 ∨ jq = 6 ∨ jq = 7 := by omega
              rcases hj with rfl | rfl | rfl | rfl | rfl | rfl <;> (simp only [List.getElem?_cons_zero, List.getElem?_cons_succ, Option.some.injEq] at hP; exact ⟨_, hP.symm⟩))
            refine wp_region_any (by kernel_rfl) (wpAny_inv (fun l a w' => ∃ v0 v1 v2 v3 v4 v5 v6 v7 v8 v9 v10 v11 v12 v13 v14 v15, a = ⟨#[x.agg, Value.slice s j cap, Value.int IntKind.i64 (k : Int), Value.pointer (some ⟨w.heap.size, 0, none⟩), undef, undef, Value.bool false, Value.bool true, Value.bool true, Value.slice (some ⟨g, 0, none⟩) m c, Value.nilIface, Value.slice (some ⟨g4, 0, none⟩) x.prs.length x.prs.length, Value.int IntKind.i64 (cn : Int), Value.int IntKind.i64 nw, Value.int IntKind.i64 (j : Int), v13a, v14a, v13b, Er.spotV gg, v14, v15, Value.bool true, Value.agg #[Value.slice x.os x.obs.length x.oc, Value.slice x.ps x.prs.length x.pc, Value.slice x.ks x.pis.length x.kc], Value.bool true, Value.bool true, Value.bool false, Value.bool false, Value.slice s j cap, Value.int IntKind.i64 (j : Int), Value.bool (decide (500 < (j : Int))), Value.bool (decide (500 < (j : Int))), Value.bool (decide (500 < (j : Int))), Value.int IntKind.i64 (k : Int), Value.bool (decide ((k : Int) < 0)), Value.bool (decide (500 < (j : Int)) || decide ((k : Int) < 0)), Value.bool (decide (500 < (j : Int)) || decide ((k : Int) < 0)), Value.int IntKind.i64 (k : Int), Value.pointer (some ⟨w.heap.size, 1, none⟩), Value.slice x.ps x.prs.length x.pc, Value.int IntKind.i64 (x.prs.length : Int), Value.bool false, Value.bool (decide (500 < (j : Int)) || decide ((k : Int) < 0)), undef, Value.tuple #[Value.slice (some ⟨g, 0, none⟩) m c, Value.nilIface], Value.agg #[Value.slice x.os x.obs.length x.oc, Value.slice x.ps x.prs.length x.pc, Value.slice x.ks x.pis.length x.kc], Value.slice s j cap, Value.tuple #[Value.slice (some ⟨g, 0, none⟩) m c, Value.nilIface], Value.slice (some ⟨g, 0, none⟩) m c, Value.nilIface, Value.agg #[Value.slice x.os x.obs.length x.oc, Value.slice x.ps x.prs.length x.pc, Value.slice x.ks x.pis.length x.kc], Value.slice s j cap, Value.slice (some ⟨g4, 0, none⟩) x.prs.length x.prs.length, Value.nilIface, Value.bool false, Value.bool false, Value.int IntKind.i64 (k : Int), Value.slice (some ⟨g4, 0, none⟩) x.prs.length x.prs.length, Value.int IntKind.i64 (x.prs.length : Int), Value.bool false, Value.bool false, Value.bool false, Value.slice (some ⟨g4, 0, none⟩) x.prs.length x.prs.length, Value.int IntKind.i64 (k : Int), Value.pointer (some ⟨g4, k, none⟩), Value.int IntKind.i64 (-1), Value.bool false, Value.bool false, undef, Value.int IntKind.i64 (j : Int), Value.slice s j cap, Value.int IntKind.i64 (j : Int), Value.bool false, u72, u73, u74, u75, u76, u77, u78, u79, u80, u81, u82, u83, u84, u85, u86, u87, u88, u89, u90, u91, u92, u93, u94, u95, v10a, v0a, v1a, v2a, v3a, v4a, v5a, v6a, v7a, v8a, v9a, v11a, v12a, v10b, v0b, v1b, v2b, v3b, v4b, v5b, v6b, v7b, v8b, v9b, v11b, v12b, v11, v0, v1, v2, v3, v4, v5, v6, v7, v8, v9, v10, v12, v13, undef, undef, undef, undef, undef, undef, undef, undef, undef, undef, undef, undef, undef, undef, undef, undef, undef, undef, undef, undef, undef, undef, undef, undef, undef, undef], []⟩ ∧ AG w6 [PEq x.agg, PNil w6.heap.size, PEq (.slice s j cap), POwn w6.heap.size j L, PEq (.int .i64 k), PEq (.int .i64 nw), PEq (.agg #[.int .i64 17, .int .i64 0]), PEq ((⟨2, k, nw, ⟨17, 0⟩, 0, 0⟩ : Ev).agg), PLit ⟨2, k, nw, ⟨17, 0⟩, 0, 0⟩, PAll (j + 1) (L ++ [⟨2, k, nw, ⟨17, 0⟩, 0, 0⟩]), PTwo (PErr true j), PTwo (PErr true j), PAny, (PErr true j), PAny, (PErr true j)] 8 l w' [v0, v1, v2, v3, v4, v5, v6, v7, v8, v9, v10, v11, v12, v13, v14, v15]) ?hstepc ?hendc _ _ _ _ (by simp) (by simp) ?hstartc)
            case hstartc =>
              exact ⟨_, _, _, _, _, _, _, _, _, _, _, _, _, _, _, _, rfl, ⟨(Kept.refl _ _).drew, fun i P v _ hv hf _ => (flag_none hf).elim, fun h => (flag_none h).elim, fun i _ h => (flag_none h).elim⟩⟩
            case hstepc =>
              rintro l a wr i hs ⟨v0, v1, v2, v3, v4, v5, v6, v7, v8, v9, v10, v11, v12, v13, v14, v15, rfl, F⟩ hi
              have hs' : l.size = 16 := hs
              obtain ⟨hlt, hu, hd⟩ := ready_of hi
              have hlt' : i < 16 := hlt
              have hset : ∀ j, (l.setIfInBounds i true).getD j false = if j = i then true else l.getD j false := fun j => getD_set (by omega)
              have hu' := flag_false hu
              have HSET := Lib.hid hset
              clear hi hlt hu hset
              have hi : i = 0 ∨ i = 1 ∨ i = 2 ∨ i = 3 ∨ i = 4 ∨ i = 5 ∨ i = 6 ∨ i = 7 ∨ i = 8 ∨ i = 9 ∨ i = 10 ∨ i = 11 ∨ i = 12 ∨ i = 13 ∨ i = 14 ∨ i = 15 := by omega
              clear hlt'
              obtain ⟨p0, p1, p2⟩ := HBw6.out wr F.kept
              rcases hi with rfl | rfl | rfl | rfl | rfl | rfl | rfl | rfl | rfl | rfl | rfl | rfl | rfl | rfl | rfl | rfl
              · refine wpOp_open rfl (fun K hK => ?_)
                go_simp
                exact hK.out _ _ ⟨_, _, _, _, _, _, _, _, _, _, _, _, _, _, _, _, rfl, F.step HSAc.out 0 HSET.out (Kept.refl _ _) _ rfl _ rfl (fun h => absurd h (by decide)) (fun h => absurd h (by decide))⟩
              · refine wpOp_open rfl (fun K hK => ?_)
                go_simp
                exact hK.out _ _ ⟨_, _, _, _, _, _, _, _, _, _, _, _, _, _, _, _, rfl, F.step HSAc.out 1 HSET.out (((Kept.refl _ _).alloc _)) _ rfl _ ((nil_new _).le F.kept.size) (fun h => absurd h (by decide)) (fun h => absurd h (by decide))⟩
              · refine wpOp_open rfl (fun K hK => ?_)
                go_simp
                exact hK.out _ _ ⟨_, _, _, _, _, _, _, _, _, _, _, _, _, _, _, _, rfl, F.step HSAc.out 2 HSET.out (Kept.refl _ _) _ rfl _ rfl (fun h => absurd h (by decide)) (fun h => absurd h (by decide))⟩
              · have d1 : l.getD 1 false = true := by simp [Region.binds] at hd; simp [hd]
                have z1 := F.at_ 1 _ _ rfl rfl d1 hu'
                have d2 : l.getD 2 false = true := by simp [Region.binds] at hd; simp [hd]
                obtain rfl := F.at_ 2 _ _ rfl rfl d2 (flag_out (by rw [hs']; decide))
                refine wpOp_open rfl (fun K hK => ?_)
                refine step_own (w3 := w6) (L := L) (m := j) _ _ F.kept z1 HEw6.out HN.out (by omega) rfl rfl rfl rfl ?_
                intro b v' w' hb hO hk hkb
                exact hK.out _ _ ⟨_, _, _, _, _, _, _, _, _, _, _, _, _, _, _, _, rfl, F.own HSET.out hk hu' HPEc.out rfl (by decide) hb hkb _ rfl _ hO⟩
              · refine wpOp_open rfl (fun K hK => ?_)
                go_simp
                exact hK.out _ _ ⟨_, _, _, _, _, _, _, _, _, _, _, _, _, _, _, _, rfl, F.step HSAc.out 4 HSET.out (Kept.refl _ _) _ rfl _ rfl (fun h => absurd h (by decide)) (fun h => absurd h (by decide))⟩
              · refine wpOp_open rfl (fun K hK => ?_)
                go_simp
                exact hK.out _ _ ⟨_, _, _, _, _, _, _, _, _, _, _, _, _, _, _, _, rfl, F.step HSAc.out 5 HSET.out (Kept.refl _ _) _ rfl _ rfl (fun h => absurd h (by decide)) (fun h => absurd h (by decide))⟩
              · refine wpOp_open rfl (fun K hK => ?_)
                go_simp
                exact hK.out _ _ ⟨_, _, _, _, _, _, _, _, _, _, _, _, _, _, _, _, rfl, F.step HSAc.out 6 HSET.out (Kept.refl _ _) _ rfl _ rfl (fun h => absurd h (by decide)) (fun h => absurd h (by decide))⟩
              · have d4 : l.getD 4 false = true := by simp [Region.binds] at hd; simp [hd]
                obtain rfl := F.at_ 4 _ _ rfl rfl d4 (flag_out (by rw [hs']; decide))
                have d5 : l.getD 5 false = true := by simp [Region.binds] at hd; simp [hd]
                obtain rfl := F.at_ 5 _ _ rfl rfl d5 (flag_out (by rw [hs']; decide))
                have d6 : l.getD 6 false = true := by simp [Region.binds] at hd; simp [hd]
                obtain rfl := F.at_ 6 _ _ rfl rfl d6 (flag_out (by rw [hs']; decide))
                refine wpOp_open rfl (fun K hK => ?_)
                go_simp
                exact hK.out _ _ ⟨_, _, _, _, _, _, _, _, _, _, _, _, _, _, _, _, rfl, F.step HSAc.out 7 HSET.out (Kept.refl _ _) _ rfl _ rfl (fun h => absurd h (by decide)) (fun h => absurd h (by decide))⟩
              · have d7 : l.getD 7 false = true := by simp [Region.binds] at hd; simp [hd]
                obtain rfl := F.at_ 7 _ _ rfl rfl d7 (flag_out (by rw [hs']; decide))
                refine wpOp_open rfl (fun K hK => ?_)
                go_simp
                exact hK.out _ _ ⟨_, _, _, _, _, _, _, _, _, _, _, _, _, _, _, _, rfl, F.step HSAc.out 8 HSET.out (((Kept.refl _ _).alloc _)) _ rfl _ (lit_new _ ⟨2, k, nw, ⟨17, 0⟩, 0, 0⟩) (fun h => absurd h (by decide)) (fun h => absurd h (by decide))⟩
              · have d3 : l.getD 3 false = true := by simp [Region.binds] at hd; simp [hd]
                have z3 := F.at_ 3 _ _ rfl rfl d3 hu'
                have d8 : l.getD 8 false = true := by simp [Region.binds] at hd; simp [hd]
                have z8 := F.at_ 8 _ _ rfl rfl d8 hu'
                refine wpOp_open rfl (fun K hK => ?_)
                refine step_all (w3 := w6) (L := L) (m := j) (ev := ⟨2, k, nw, ⟨17, 0⟩, 0, 0⟩) _ _ F.kept z3 z8 (by omega) rfl rfl rfl rfl ?_
                intro v' w' hA hk
                exact hK.out _ _ ⟨_, _, _, _, _, _, _, _, _, _, _, _, _, _, _, _, rfl, F.all HSET.out hk hu' d3 HPEc.out (by decide) _ rfl _ hA⟩
              · have d0 : l.getD 0 false = true := by simp [Region.binds] at hd; simp [hd]
                obtain rfl := F.at_ 0 _ _ rfl rfl d0 (flag_out (by rw [hs']; decide))
                have d9 : l.getD 9 false = true := by simp [Region.binds] at hd; simp [hd]
                have z9 := F.at_ 9 _ _ rfl rfl d9 (flag_out (by rw [hs']; decide))
                obtain ⟨g, c, rfl, hE⟩ := z9
                refine wpOp_open rfl (fun K hK => ?_)
                refine step_call (by rfl) 11 #[x.agg, .slice (some ⟨g, 0, none⟩) (j + 1) c] (by kernel_rfl) (P := fun v w' => PTwo (PErr true j) w' v ∧ Kept (fun _ => False) wr w') (HRUN3b.out g c wr F.kept hE) (fun e w' hh => by obtain ⟨a, b, he, hr, hk⟩ := hh; exact ⟨_, he, ⟨a, b, rfl, hr⟩, hk⟩) ?_
                rintro v' w' ⟨hv, hk⟩
                exact hK.out _ _ ⟨_, _, _, _, _, _, _, _, _, _, _, _, _, _, _, _, rfl, F.step HSAc.out 10 HSET.out (hk) _ rfl _ hv (fun h => absurd h (by decide)) (fun _ => d9)⟩
              · have d10 : l.getD 10 false = true := by simp [Region.binds] at hd; simp [hd]
                have z10 := F.at_ 10 _ _ rfl rfl d10 (flag_out (by rw [hs']; decide))
                obtain ⟨ra, rb, rfl, hr⟩ := z10
                refine wpOp_open rfl (fun K hK => ?_)
                go_simp
                have d9 := F.late 10 (by decide) d10
                exact hK.out _ _ ⟨_, _, _, _, _, _, _, _, _, _, _, _, _, _, _, _, rfl, F.step HSAc.out 11 HSET.out (Kept.refl _ _) _ rfl _ ⟨ra, rb, rfl, hr⟩ (fun h => absurd h (by decide)) (fun _ => d9)⟩
              · have d11 : l.getD 11 false = true := by simp [Region.binds] at hd; simp [hd]
                have z11 := F.at_ 11 _ _ rfl rfl d11 (flag_out (by rw [hs']; decide))
                obtain ⟨ra, rb, rfl, hr⟩ := z11
                refine wpOp_open rfl (fun K hK => ?_)
                go_simp
                have d9 := F.late 11 (by decide) d11
                exact hK.out _ _ ⟨_, _, _, _, _, _, _, _, _, _, _, _, _, _, _, _, rfl, F.step HSAc.out 12 HSET.out (Kept.refl _ _) _ rfl _ trivial (fun h => absurd h (by decide)) (fun _ => d9)⟩
              · have d11 : l.getD 11 false = true := by simp [Region.binds] at hd; simp [hd]
                have z11 := F.at_ 11 _ _ rfl rfl d11 (flag_out (by rw [hs']; decide))
                obtain ⟨ra, rb, rfl, hr⟩ := z11
                refine wpOp_open rfl (fun K hK => ?_)
                go_simp
                have d9 := F.late 11 (by decide) d11
                exact hK.out _ _ ⟨_, _, _, _, _, _, _, _, _, _, _, _, _, _, _, _, rfl, F.step HSAc.out 13 HSET.out (Kept.refl _ _) _ rfl _ hr (fun h => absurd h (by decide)) (fun _ => d9)⟩
              · have d12 : l.getD 12 false = true := by simp [Region.binds] at hd; simp [hd]
                have z12 := F.at_ 12 _ _ rfl rfl d12 (flag_out (by rw [hs']; decide))
                refine wpOp_open rfl (fun K hK => ?_)
                go_simp
                have d9 := F.late 12 (by decide) d12
                exact hK.out _ _ ⟨_, _, _, _, _, _, _, _, _, _, _, _, _, _, _, _, rfl, F.step HSAc.out 14 HSET.out (Kept.refl _ _) _ rfl _ z12 (fun h => absurd h (by decide)) (fun _ => d9)⟩
              · have d13 : l.getD 13 false = true := by simp [Region.binds] at hd; simp [hd]
                have z13 := F.at_ 13 _ _ rfl rfl d13 (flag_out (by rw [hs']; decide))
                refine wpOp_open rfl (fun K hK => ?_)
                go_simp
                have d9 := F.late 13 (by decide) d13
                exact hK.out _ _ ⟨_, _, _, _, _, _, _, _, _, _, _, _, _, _, _, _, rfl, F.step HSAc.out 15 HSET.out (Kept.refl _ _) _ rfl _ z13 (fun h => absurd h (by decide)) (fun _ => d9)⟩
            case hendc =>
              rintro l a wr hs ⟨v0c, v1c, v2c, v3c, v4c, v5c, v6c, v7c, v8c, v9c, v10c, v11c, v12c, v13c, v14c, v15c, rfl, F⟩ hr
              have hs' : l.size = 16 := hs
              have HAR := all_ready2 hs (by kernel_rfl) hr
              have hR := F.at_ 15 _ _ rfl rfl (HAR 15 (by decide)) (flag_out (by rw [hs']; decide))
              have hK := F.kept
              clear F hr hs hs' HSAc HPEc HAR
              obtain ⟨gh, hgh, hsh⟩ := hR
              subst hgh
              have HK7 := Lib.hid (HK6.out.tr0 hK)
              have HSG7 := Lib.hid (HSG.out.kept hK (fun f => f))
              have HSH7 := Lib.hid hsh
              have HR17 := Lib.hid (stay_err _ _ _ _ _ hK HR1b.out)
              obtain ⟨w7, hw7⟩ : ∃ z, z = wr := ⟨_, rfl⟩
              subst hw7
              clear hsh hK p0 p1 p2
              have hpg := pr_at (HX.out w7 HK7.out).prs.row HPR.out
              obtain ⟨gp, offp, hps, hgp, cp⟩ := hpg
              have HCP : Hid (∀ w', Kept (fun _ => False) w7 w' → w'.cell? ⟨gp, offp + k, none⟩ = some (.slice pr.s pr.ops.length pr.cap)) := Lib.hid (fun w' hk => by
                obtain ⟨g2, o2, hps2, _, cp2⟩ := pr_at (HX.out w' (HK7.out.tr0 hk)).prs.row HPR.out
                rw [hps] at hps2
                simp only [Option.some.injEq, Addr.mk.injEq, and_true] at hps2
                obtain ⟨rfl, rfl⟩ := hps2
                exact cp2)
              have hB7 : ∀ w', Kept (fun _ => False) w7 w' → w'.cell? ⟨w.heap.size, 1, none⟩ = some (.slice x.ps x.prs.length x.pc) := fun w' hk => (HP.out w' (HK7.out.tr0 hk)).2.1
              rw [hps] at hB7
              have HB7 : Hid (∀ w', Kept (fun _ => False) w7 w' → w'.cell? ⟨w.heap.size, 1, none⟩ = some (.slice (some ⟨gp, offp, none⟩) x.prs.length x.pc) ∧ w'.cell? ⟨gp, offp + k, none⟩ = some (.slice pr.s pr.ops.length pr.cap)) := Lib.hid (fun w' hk => ⟨hB7 w' hk, HCP.out w' hk⟩)
              clear cp hB7 HCP hgp hps
              have hop := HOPS.out
              have hcall := ev_call (n := nw) HTR.out HCALL.out (by rw [HNW.out.1]; exact Int.le_refl _)
              rw [hop.2, hop.1, HCT.out] at hcall
              have hb1 : b1 = !decide (cn < pr.ops.length) := by
                rw [← HBB1.out, ← hcall]
                cases evM σ ⟨1, k, nw, ⟨0, 0⟩, 0, 0⟩ <;> rfl
              have hkn := HKN.out
              have k0 : (0 : Int) ≤ (k : Int) := by omega
              have k1 : (k : Int) < (x.prs.length : Int) := by omega
              have HI1 : Hid (∀ w', Kept (fun _ => False) w7 w' → Calls Tryz.prog 14 #[Er.spotV gg, .int .i64 j, .int .i64 7] w' fun e w'' => e = .returned (.bool true) ∧ Kept (fun _ => False) w' w'') := Lib.hid (fun w' hk => Er.lawIs_any (HSG7.out.kept hk (fun f => f)) (HHW.out w' (HK7.out.tr0 hk)))
              have HI2 : Hid (∀ w', Kept (fun _ => False) w7 w' → Calls Tryz.prog 14 #[Er.spotV gh, .int .i64 j, .int .i64 7] w' fun e w'' => e = .returned (.bool true) ∧ Kept (fun _ => False) w' w'') := Lib.hid (fun w' hk => Er.lawIs_any (HSH7.out.kept hk (fun f => f)) (HHW.out w' (HK7.out.tr0 hk)))
              clear hop hcall
              by_cases hlt : cn < pr.ops.length
              · rw [decide_eq_true hlt] at hb1
                obtain rfl : b1 = false := hb1
                have hv : v14a = .nilIface := HR17.out
                subst hv
                have hlt2 : (cn : Int) < (pr.ops.length : Int) := by omega
                go_wp2_with fail
                have HSTendsd : Hid (StayAll [PEq (.bool true), PEq (.bool true), PEq (Value.nilIface), PEq (.bool true), PEq (.int .i64 (cn : Int)), PEq (.pointer (some ⟨w.heap.size, 1, none⟩)), PEq (.slice (some ⟨gp, offp, none⟩) x.prs.length x.pc), PEq (.int .i64 (k : Int)), PEq (.pointer (some ⟨gp, offp + k, none⟩)), PEq (.slice pr.s pr.ops.length pr.cap), PEq (.int .i64 (pr.ops.length : Int)), PEq (.bool true), PEq (.bool true), PEq (.bool true), PEq (.bool true), PEq (Er.spotV gg), PEq (.slice s j cap), PEq (.int .i64 (j : Int)), PEq (.bool true), PEq (.bool true), PEq (.bool true), PEq (Er.spotV gh), PEq (.slice s j cap), PEq (.int .i64 (j : Int)), PEq (.bool true), PEq (.bool true), PEq (.bool true)]) := Lib.hid ⟨stay_eq _, stay_eq _, stay_eq _, stay_eq _, stay_eq _, stay_eq _, stay_eq _, stay_eq _, stay_eq _, stay_eq _, stay_eq _, stay_eq _, stay_eq _, stay_eq _, stay_eq _, stay_eq _, stay_eq _, stay_eq _, stay_eq _, stay_eq _, stay_eq _, stay_eq _, stay_eq _, stay_eq _, stay_eq _, stay_eq _, stay_eq _, trivial⟩
                refine wp_region_any (by kernel_rfl) (wpAny_inv (fun l a w' => ∃ v0 v1 v2 v3 v4 v5 v6 v7 v8 v9 v10 v11 v12 v13 v14 v15 v16 v17 v18 v19 v20 v21 v22 v23 v24 v25 v26, a = ⟨#[x.agg, Value.slice s j cap, Value.int IntKind.i64 (k : Int), Value.pointer (some ⟨w.heap.size, 0, none⟩), undef, undef, v26, Value.bool true, Value.bool true, Value.slice (some ⟨g, 0, none⟩) m c, Value.nilIface, Value.slice (some ⟨g4, 0, none⟩) x.prs.length x.prs.length, Value.int IntKind.i64 (cn : Int), Value.int IntKind.i64 nw, Value.int IntKind.i64 (j : Int), v13a, Value.nilIface, v13b, Er.spotV gg, v14c, Er.spotV gh, Value.bool true, Value.agg #[Value.slice x.os x.obs.length x.oc, Value.slice x.ps x.prs.length x.pc, Value.slice x.ks x.pis.length x.kc], Value.bool true, Value.bool true, Value.bool false, Value.bool false, Value.slice s j cap, Value.int IntKind.i64 (j : Int), Value.bool (decide (500 < (j : Int))), Value.bool (decide (500 < (j : Int))), Value.bool (decide (500 < (j : Int))), Value.int IntKind.i64 (k : Int), Value.bool (decide ((k : Int) < 0)), Value.bool (decide (500 < (j : Int)) || decide ((k : Int) < 0)), Value.bool (decide (500 < (j : Int)) || decide ((k : Int) < 0)), Value.int IntKind.i64 (k : Int), Value.pointer (some ⟨w.heap.size, 1, none⟩), Value.slice x.ps x.prs.length x.pc, Value.int IntKind.i64 (x.prs.length : Int), Value.bool false, Value.bool (decide (500 < (j : Int)) || decide ((k : Int) < 0)), undef, Value.tuple #[Value.slice (some ⟨g, 0, none⟩) m c, Value.nilIface], Value.agg #[Value.slice x.os x.obs.length x.oc, Value.slice x.ps x.prs.length x.pc, Value.slice x.ks x.pis.length x.kc], Value.slice s j cap, Value.tuple #[Value.slice (some ⟨g, 0, none⟩) m c, Value.nilIface], Value.slice (some ⟨g, 0, none⟩) m c, Value.nilIface, Value.agg #[Value.slice x.os x.obs.length x.oc, Value.slice x.ps x.prs.length x.pc, Value.slice x.ks x.pis.length x.kc], Value.slice s j cap, Value.slice (some ⟨g4, 0, none⟩) x.prs.length x.prs.length, Value.nilIface, Value.bool false, Value.bool false, Value.int IntKind.i64 (k : Int), Value.slice (some ⟨g4, 0, none⟩) x.prs.length x.prs.length, Value.int IntKind.i64 (x.prs.length : Int), Value.bool false, Value.bool false, Value.bool false, Value.slice (some ⟨g4, 0, none⟩) x.prs.length x.prs.length, Value.int IntKind.i64 (k : Int), Value.pointer (some ⟨g4, k, none⟩), Value.int IntKind.i64 (-1), Value.bool false, Value.bool false, undef, Value.int IntKind.i64 (j : Int), Value.slice s j cap, Value.int IntKind.i64 (j : Int), Value.bool false, u72, u73, u74, u75, u76, u77, u78, u79, u80, u81, u82, u83, u84, u85, u86, u87, u88, u89, u90, u91, u92, u93, u94, u95, v10a, v0a, v1a, v2a, v3a, v4a, v5a, v6a, v7a, v8a, v9a, v11a, v12a, v10b, v0b, v1b, v2b, v3b, v4b, v5b, v6b, v7b, v8b, v9b, v11b, v12b, v11c, v0c, v1c, v2c, v3c, v4c, v5c, v6c, v7c, v8c, v9c, v10c, v12c, v13c, v0, v1, v2, v3, v4, v5, v6, v7, v8, v9, v10, v11, v12, v13, v14, v15, v16, v17, v18, v19, v20, v21, v22, v23, v24, v25], []⟩ ∧ FG w7 [PEq (.bool true), PEq (.bool true), PEq (Value.nilIface), PEq (.bool true), PEq (.int .i64 (cn : Int)), PEq (.pointer (some ⟨w.heap.size, 1, none⟩)), PEq (.slice (some ⟨gp, offp, none⟩) x.prs.length x.pc), PEq (.int .i64 (k : Int)), PEq (.pointer (some ⟨gp, offp + k, none⟩)), PEq (.slice pr.s pr.ops.length pr.cap), PEq (.int .i64 (pr.ops.length : Int)), PEq (.bool true), PEq (.bool true), PEq (.bool true), PEq (.bool true), PEq (Er.spotV gg), PEq (.slice s j cap), PEq (.int .i64 (j : Int)), PEq (.bool true), PEq (.bool true), PEq (.bool true), PEq (Er.spotV gh), PEq (.slice s j cap), PEq (.int .i64 (j : Int)), PEq (.bool true), PEq (.bool true), PEq (.bool true)] l w' [v0, v1, v2, v3, v4, v5, v6, v7, v8, v9, v10, v11, v12, v13, v14, v15, v16, v17, v18, v19, v20, v21, v22, v23, v24, v25, v26]) ?hstependsd ?hendendsd _ _ _ _ (by simp) (by simp) ?hstartendsd)
                case hstartendsd =>
                  exact ⟨_, _, _, _, _, _, _, _, _, _, _, _, _, _, _, _, _, _, _, _, _, _, _, _, _, _, _, rfl, ⟨(Kept.refl _ _).drew, fun i P v _ hv hf => (flag_none hf).elim⟩⟩
                case hstependsd =>
                  intro l a wr i hs hI hi
                  have hs' : l.size = 27 := hs
                  obtain ⟨hlt, hu, hd⟩ := ready_of hi
                  have hsj : ∀ j, j ≠ i → (l.setIfInBounds i true).getD j false = true → l.getD j false = true := fun j hj h => by
                    rw [getD_set (by omega), if_neg hj] at h; exact h
                  have HS := Lib.hid hsj; clear hsj
                  have hlt' : i < 27 := hlt
                  clear hi hlt hu
                  obtain ⟨v0, v1, v2, v3, v4, v5, v6, v7, v8, v9, v10, v11, v12, v13, v14, v15, v16, v17, v18, v19, v20, v21, v22, v23, v24, v25, v26, rfl, F⟩ := hI
                  have hi : i = 0 ∨ i = 1 ∨ i = 2 ∨ i = 3 ∨ i = 4 ∨ i = 5 ∨ i = 6 ∨ i = 7 ∨ i = 8 ∨ i = 9 ∨ i = 10 ∨ i = 11 ∨ i = 12 ∨ i = 13 ∨ i = 14 ∨ i = 15 ∨ i = 16 ∨ i = 17 ∨ i = 18 ∨ i = 19 ∨ i = 20 ∨ i = 21 ∨ i = 22 ∨ i = 23 ∨ i = 24 ∨ i = 25 ∨ i = 26 := by omega
                  clear hlt'
                  obtain ⟨p0, p1⟩ := HB7.out wr F.kept
                  rcases hi with rfl | rfl | rfl | rfl | rfl | rfl | rfl | rfl | rfl | rfl | rfl | rfl | rfl | rfl | rfl | rfl | rfl | rfl | rfl | rfl | rfl | rfl | rfl | rfl | rfl | rfl | rfl
                  · refine wpOp_open rfl (fun K hK => ?_)
                    go_simp
                    exact hK.out _ _ ⟨_, _, _, _, _, _, _, _, _, _, _, _, _, _, _, _, _, _, _, _, _, _, _, _, _, _, _, rfl, F.step HSTendsd.out 0 HS.out (Kept.refl _ _) _ rfl _ rfl⟩
                  · have d0 : l.getD 0 false = true := by simp [Region.binds] at hd; simp [hd]
                    obtain rfl := F.at_ 0 _ _ rfl rfl d0
                    refine wpOp_open rfl (fun K hK => ?_)
                    go_simp
                    exact hK.out _ _ ⟨_, _, _, _, _, _, _, _, _, _, _, _, _, _, _, _, _, _, _, _, _, _, _, _, _, _, _, rfl, F.step HSTendsd.out 1 HS.out (Kept.refl _ _) _ rfl _ rfl⟩
                  · have d1 : l.getD 1 false = true := by simp [Region.binds] at hd; simp [hd]
                    obtain rfl := F.at_ 1 _ _ rfl rfl d1
                    refine wpOp_open rfl (fun K hK => ?_)
                    go_simp
                    exact hK.out _ _ ⟨_, _, _, _, _, _, _, _, _, _, _, _, _, _, _, _, _, _, _, _, _, _, _, _, _, _, _, rfl, F.step HSTendsd.out 2 HS.out (Kept.refl _ _) _ rfl _ rfl⟩
                  · have d1 : l.getD 1 false = true := by simp [Region.binds] at hd; simp [hd]
                    obtain rfl := F.at_ 1 _ _ rfl rfl d1
                    have d2 : l.getD 2 false = true := by simp [Region.binds] at hd; simp [hd]
                    obtain rfl := F.at_ 2 _ _ rfl rfl d2
                    refine wpOp_open rfl (fun K hK => ?_)
                    go_simp
                    exact hK.out _ _ ⟨_, _, _, _, _, _, _, _, _, _, _, _, _, _, _, _, _, _, _, _, _, _, _, _, _, _, _, rfl, F.step HSTendsd.out 3 HS.out (Kept.refl _ _) _ rfl _ rfl⟩
                  · have d1 : l.getD 1 false = true := by simp [Region.binds] at hd; simp [hd]
                    obtain rfl := F.at_ 1 _ _ rfl rfl d1
                    refine wpOp_open rfl (fun K hK => ?_)
                    go_simp
                    exact hK.out _ _ ⟨_, _, _, _, _, _, _, _, _, _, _, _, _, _, _, _, _, _, _, _, _, _, _, _, _, _, _, rfl, F.step HSTendsd.out 4 HS.out (Kept.refl _ _) _ rfl _ rfl⟩
                  · have d1 : l.getD 1 false = true := by simp [Region.binds] at hd; simp [hd]
                    obtain rfl := F.at_ 1 _ _ rfl rfl d1
                    refine wpOp_open rfl (fun K hK => ?_)
                    go_simp
                    exact hK.out _ _ ⟨_, _, _, _, _, _, _, _, _, _, _, _, _, _, _, _, _, _, _, _, _, _, _, _, _, _, _, rfl, F.step HSTendsd.out 5 HS.out (Kept.refl _ _) _ rfl _ rfl⟩
                  · have d1 : l.getD 1 false = true := by simp [Region.binds] at hd; simp [hd]
                    obtain rfl := F.at_ 1 _ _ rfl rfl d1
                    have d5 : l.getD 5 false = true := by simp [Region.binds] at hd; simp [hd]
                    obtain rfl := F.at_ 5 _ _ rfl rfl d5
                    refine wpOp_open rfl (fun K hK => ?_)
                    go_simp
                    exact hK.out _ _ ⟨_, _, _, _, _, _, _, _, _, _, _, _, _, _, _, _, _, _, _, _, _, _, _, _, _, _, _, rfl, F.step HSTendsd.out 6 HS.out (Kept.refl _ _) _ rfl _ rfl⟩
                  · have d1 : l.getD 1 false = true := by simp [Region.binds] at hd; simp [hd]
                    obtain rfl := F.at_ 1 _ _ rfl rfl d1
                    refine wpOp_open rfl (fun K hK => ?_)
                    go_simp
                    exact hK.out _ _ ⟨_, _, _, _, _, _, _, _, _, _, _, _, _, _, _, _, _, _, _, _, _, _, _, _, _, _, _, rfl, F.step HSTendsd.out 7 HS.out (Kept.refl _ _) _ rfl _ rfl⟩
                  · have d1 : l.getD 1 false = true := by simp [Region.binds] at hd; simp [hd]
                    obtain rfl := F.at_ 1 _ _ rfl rfl d1
                    have d6 : l.getD 6 false = true := by simp [Region.binds] at hd; simp [hd]
                    obtain rfl := F.at_ 6 _ _ rfl rfl d6
                    have d7 : l.getD 7 false = true := by simp [Region.binds] at hd; simp [hd]
                    obtain rfl := F.at_ 7 _ _ rfl rfl d7
                    refine wpOp_open rfl (fun K hK => ?_)
                    go_simp
                    exact hK.out _ _ ⟨_, _, _, _, _, _, _, _, _, _, _, _, _, _, _, _, _, _, _, _, _, _, _, _, _, _, _, rfl, F.step HSTendsd.out 8 HS.out (Kept.refl _ _) _ rfl _ rfl⟩
                  · have d1 : l.getD 1 false = true := by simp [Region.binds] at hd; simp [hd]
                    obtain rfl := F.at_ 1 _ _ rfl rfl d1
                    have d8 : l.getD 8 false = true := by simp [Region.binds] at hd; simp [hd]
                    obtain rfl := F.at_ 8 _ _ rfl rfl d8
                    refine wpOp_open rfl (fun K hK => ?_)
                    go_simp
                    exact hK.out _ _ ⟨_, _, _, _, _, _, _, _, _, _, _, _, _, _, _, _, _, _, _, _, _, _, _, _, _, _, _, rfl, F.step HSTendsd.out 9 HS.out (Kept.refl _ _) _ rfl _ rfl⟩
                  · have d1 : l.getD 1 false = true := by simp [Region.binds] at hd; simp [hd]
                    obtain rfl := F.at_ 1 _ _ rfl rfl d1
                    have d9 : l.getD 9 false = true := by simp [Region.binds] at hd; simp [hd]
                    obtain rfl := F.at_ 9 _ _ rfl rfl d9
                    refine wpOp_open rfl (fun K hK => ?_)
                    go_simp
                    exact hK.out _ _ ⟨_, _, _, _, _, _, _, _, _, _, _, _, _, _, _, _, _, _, _, _, _, _, _, _, _, _, _, rfl, F.step HSTendsd.out 10 HS.out (Kept.refl _ _) _ rfl _ rfl⟩
                  · have d1 : l.getD 1 false = true := by simp [Region.binds] at hd; simp [hd]
                    obtain rfl := F.at_ 1 _ _ rfl rfl d1
                    have d4 : l.getD 4 false = true := by simp [Region.binds] at hd; simp [hd]
                    obtain rfl := F.at_ 4 _ _ rfl rfl d4
                    have d10 : l.getD 10 false = true := by simp [Region.binds] at hd; simp [hd]
                    obtain rfl := F.at_ 10 _ _ rfl rfl d10
                    refine wpOp_open rfl (fun K hK => ?_)
                    go_simp
                    exact hK.out _ _ ⟨_, _, _, _, _, _, _, _, _, _, _, _, _, _, _, _, _, _, _, _, _, _, _, _, _, _, _, rfl, F.step HSTendsd.out 11 HS.out (Kept.refl _ _) _ rfl _ rfl⟩
                  · have d1 : l.getD 1 false = true := by simp [Region.binds] at hd; simp [hd]
                    obtain rfl := F.at_ 1 _ _ rfl rfl d1
                    have d3 : l.getD 3 false = true := by simp [Region.binds] at hd; simp [hd]
                    obtain rfl := F.at_ 3 _ _ rfl rfl d3
                    have d11 : l.getD 11 false = true := by simp [Region.binds] at hd; simp [hd]
                    obtain rfl := F.at_ 11 _ _ rfl rfl d11
                    refine wpOp_open rfl (fun K hK => ?_)
                    go_simp
                    exact hK.out _ _ ⟨_, _, _, _, _, _, _, _, _, _, _, _, _, _, _, _, _, _, _, _, _, _, _, _, _, _, _, rfl, F.step HSTendsd.out 12 HS.out (Kept.refl _ _) _ rfl _ rfl⟩
                  · have d1 : l.getD 1 false = true := by simp [Region.binds] at hd; simp [hd]
                    obtain rfl := F.at_ 1 _ _ rfl rfl d1
                    have d12 : l.getD 12 false = true := by simp [Region.binds] at hd; simp [hd]
                    obtain rfl := F.at_ 12 _ _ rfl rfl d12
                    refine wpOp_open rfl (fun K hK => ?_)
                    go_simp
                    exact hK.out _ _ ⟨_, _, _, _, _, _, _, _, _, _, _, _, _, _, _, _, _, _, _, _, _, _, _, _, _, _, _, rfl, F.step HSTendsd.out 13 HS.out (Kept.refl _ _) _ rfl _ rfl⟩
                  · have d13 : l.getD 13 false = true := by simp [Region.binds] at hd; simp [hd]
                    obtain rfl := F.at_ 13 _ _ rfl rfl d13
                    refine wpOp_open rfl (fun K hK => ?_)
                    go_simp
                    exact hK.out _ _ ⟨_, _, _, _, _, _, _, _, _, _, _, _, _, _, _, _, _, _, _, _, _, _, _, _, _, _, _, rfl, F.step HSTendsd.out 14 HS.out (Kept.refl _ _) _ rfl _ rfl⟩
                  · have d14 : l.getD 14 false = true := by simp [Region.binds] at hd; simp [hd]
                    obtain rfl := F.at_ 14 _ _ rfl rfl d14
                    refine wpOp_open rfl (fun K hK => ?_)
                    go_simp
                    exact hK.out _ _ ⟨_, _, _, _, _, _, _, _, _, _, _, _, _, _, _, _, _, _, _, _, _, _, _, _, _, _, _, rfl, F.step HSTendsd.out 15 HS.out (Kept.refl _ _) _ rfl _ rfl⟩
                  · have d14 : l.getD 14 false = true := by simp [Region.binds] at hd; simp [hd]
                    obtain rfl := F.at_ 14 _ _ rfl rfl d14
                    refine wpOp_open rfl (fun K hK => ?_)
                    go_simp
                    exact hK.out _ _ ⟨_, _, _, _, _, _, _, _, _, _, _, _, _, _, _, _, _, _, _, _, _, _, _, _, _, _, _, rfl, F.step HSTendsd.out 16 HS.out (Kept.refl _ _) _ rfl _ rfl⟩
                  · have d14 : l.getD 14 false = true := by simp [Region.binds] at hd; simp [hd]
                    obtain rfl := F.at_ 14 _ _ rfl rfl d14
                    have d16 : l.getD 16 false = true := by simp [Region.binds] at hd; simp [hd]
                    obtain rfl := F.at_ 16 _ _ rfl rfl d16
                    refine wpOp_open rfl (fun K hK => ?_)
                    go_simp
                    exact hK.out _ _ ⟨_, _, _, _, _, _, _, _, _, _, _, _, _, _, _, _, _, _, _, _, _, _, _, _, _, _, _, rfl, F.step HSTendsd.out 17 HS.out (Kept.refl _ _) _ rfl _ rfl⟩
                  · have d14 : l.getD 14 false = true := by simp [Region.binds] at hd; simp [hd]
                    obtain rfl := F.at_ 14 _ _ rfl rfl d14
                    have d15 : l.getD 15 false = true := by simp [Region.binds] at hd; simp [hd]
                    obtain rfl := F.at_ 15 _ _ rfl rfl d15
                    have d17 : l.getD 17 false = true := by simp [Region.binds] at hd; simp [hd]
                    obtain rfl := F.at_ 17 _ _ rfl rfl d17
                    refine wpOp_open rfl (fun K hK => ?_)
                    go_simp
                    refine (HI1.out wr F.kept).mono ?_
                    rintro e w5x ⟨rfl, hk5x⟩
                    exact hK.out _ _ ⟨_, _, _, _, _, _, _, _, _, _, _, _, _, _, _, _, _, _, _, _, _, _, _, _, _, _, _, rfl, F.step HSTendsd.out 18 HS.out (hk5x) _ rfl _ rfl⟩
                  · have d14 : l.getD 14 false = true := by simp [Region.binds] at hd; simp [hd]
                    obtain rfl := F.at_ 14 _ _ rfl rfl d14
                    have d18 : l.getD 18 false = true := by simp [Region.binds] at hd; simp [hd]
                    obtain rfl := F.at_ 18 _ _ rfl rfl d18
                    refine wpOp_open rfl (fun K hK => ?_)
                    go_simp
                    exact hK.out _ _ ⟨_, _, _, _, _, _, _, _, _, _, _, _, _, _, _, _, _, _, _, _, _, _, _, _, _, _, _, rfl, F.step HSTendsd.out 19 HS.out (Kept.refl _ _) _ rfl _ rfl⟩
                  · have d19 : l.getD 19 false = true := by simp [Region.binds] at hd; simp [hd]
                    obtain rfl := F.at_ 19 _ _ rfl rfl d19
                    refine wpOp_open rfl (fun K hK => ?_)
                    go_simp
                    exact hK.out _ _ ⟨_, _, _, _, _, _, _, _, _, _, _, _, _, _, _, _, _, _, _, _, _, _, _, _, _, _, _, rfl, F.step HSTendsd.out 20 HS.out (Kept.refl _ _) _ rfl _ rfl⟩
                  · have d20 : l.getD 20 false = true := by simp [Region.binds] at hd; simp [hd]
                    obtain rfl := F.at_ 20 _ _ rfl rfl d20
                    refine wpOp_open rfl (fun K hK => ?_)
                    go_simp
                    exact hK.out _ _ ⟨_, _, _, _, _, _, _, _, _, _, _, _, _, _, _, _, _, _, _, _, _, _, _, _, _, _, _, rfl, F.step HSTendsd.out 21 HS.out (Kept.refl _ _) _ rfl _ rfl⟩
                  · have d20 : l.getD 20 false = true := by simp [Region.binds] at hd; simp [hd]
                    obtain rfl := F.at_ 20 _ _ rfl rfl d20
                    refine wpOp_open rfl (fun K hK => ?_)
                    go_simp
                    exact hK.out _ _ ⟨_, _, _, _, _, _, _, _, _, _, _, _, _, _, _, _, _, _, _, _, _, _, _, _, _, _, _, rfl, F.step HSTendsd.out 22 HS.out (Kept.refl _ _) _ rfl _ rfl⟩
                  · have d20 : l.getD 20 false = true := by simp [Region.binds] at hd; simp [hd]
                    obtain rfl := F.at_ 20 _ _ rfl rfl d20
                    have d22 : l.getD 22 false = true := by simp [Region.binds] at hd; simp [hd]
                    obtain rfl := F.at_ 22 _ _ rfl rfl d22
                    refine wpOp_open rfl (fun K hK => ?_)
                    go_simp
                    exact hK.out _ _ ⟨_, _, _, _, _, _, _, _, _, _, _, _, _, _, _, _, _, _, _, _, _, _, _, _, _, _, _, rfl, F.step HSTendsd.out 23 HS.out (Kept.refl _ _) _ rfl _ rfl⟩
                  · have d20 : l.getD 20 false = true := by simp [Region.binds] at hd; simp [hd]
                    obtain rfl := F.at_ 20 _ _ rfl rfl d20
                    have d21 : l.getD 21 false = true := by simp [Region.binds] at hd; simp [hd]
                    obtain rfl := F.at_ 21 _ _ rfl rfl d21
                    have d23 : l.getD 23 false = true := by simp [Region.binds] at hd; simp [hd]
                    obtain rfl := F.at_ 23 _ _ rfl rfl d23
                    refine wpOp_open rfl (fun K hK => ?_)
                    go_simp
                    refine (HI2.out wr F.kept).mono ?_
                    rintro e w5x ⟨rfl, hk5x⟩
                    exact hK.out _ _ ⟨_, _, _, _, _, _, _, _, _, _, _, _, _, _, _, _, _, _, _, _, _, _, _, _, _, _, _, rfl, F.step HSTendsd.out 24 HS.out (hk5x) _ rfl _ rfl⟩
                  · have d20 : l.getD 20 false = true := by simp [Region.binds] at hd; simp [hd]
                    obtain rfl := F.at_ 20 _ _ rfl rfl d20
                    have d24 : l.getD 24 false = true := by simp [Region.binds] at hd; simp [hd]
                    obtain rfl := F.at_ 24 _ _ rfl rfl d24
                    refine wpOp_open rfl (fun K hK => ?_)
                    go_simp
                    exact hK.out _ _ ⟨_, _, _, _, _, _, _, _, _, _, _, _, _, _, _, _, _, _, _, _, _, _, _, _, _, _, _, rfl, F.step HSTendsd.out 25 HS.out (Kept.refl _ _) _ rfl _ rfl⟩
                  · have d25 : l.getD 25 false = true := by simp [Region.binds] at hd; simp [hd]
                    obtain rfl := F.at_ 25 _ _ rfl rfl d25
                    refine wpOp_open rfl (fun K hK => ?_)
                    go_simp
                    exact hK.out _ _ ⟨_, _, _, _, _, _, _, _, _, _, _, _, _, _, _, _, _, _, _, _, _, _, _, _, _, _, _, rfl, F.step HSTendsd.out 26 HS.out (Kept.refl _ _) _ rfl _ rfl⟩
                case hendendsd =>
                  intro l a wr hs hI hr
                  have hs' : l.size = 27 := hs
                  obtain ⟨v0, v1, v2, v3, v4, v5, v6, v7, v8, v9, v10, v11, v12, v13, v14, v15, v16, v17, v18, v19, v20, v21, v22, v23, v24, v25, v26, rfl, F⟩ := hI
                  have HAR := all_ready2 hs (by kernel_rfl) hr
                  obtain rfl := F.at_ 0 _ _ rfl rfl (HAR 0 (by decide))
                  obtain rfl := F.at_ 1 _ _ rfl rfl (HAR 1 (by decide))
                  obtain rfl := F.at_ 2 _ _ rfl rfl (HAR 2 (by decide))
                  obtain rfl := F.at_ 3 _ _ rfl rfl (HAR 3 (by decide))
                  obtain rfl := F.at_ 4 _ _ rfl rfl (HAR 4 (by decide))
                  obtain rfl := F.at_ 5 _ _ rfl rfl (HAR 5 (by decide))
                  obtain rfl := F.at_ 6 _ _ rfl rfl (HAR 6 (by decide))
                  obtain rfl := F.at_ 7 _ _ rfl rfl (HAR 7 (by decide))
                  obtain rfl := F.at_ 8 _ _ rfl rfl (HAR 8 (by decide))
                  obtain rfl := F.at_ 9 _ _ rfl rfl (HAR 9 (by decide))
                  obtain rfl := F.at_ 10 _ _ rfl rfl (HAR 10 (by decide))
                  obtain rfl := F.at_ 11 _ _ rfl rfl (HAR 11 (by decide))
                  obtain rfl := F.at_ 12 _ _ rfl rfl (HAR 12 (by decide))
                  obtain rfl := F.at_ 13 _ _ rfl rfl (HAR 13 (by decide))
                  obtain rfl := F.at_ 14 _ _ rfl rfl (HAR 14 (by decide))
                  obtain rfl := F.at_ 15 _ _ rfl rfl (HAR 15 (by decide))
                  obtain rfl := F.at_ 16 _ _ rfl rfl (HAR 16 (by decide))
                  obtain rfl := F.at_ 17 _ _ rfl rfl (HAR 17 (by decide))
                  obtain rfl := F.at_ 18 _ _ rfl rfl (HAR 18 (by decide))
                  obtain rfl := F.at_ 19 _ _ rfl rfl (HAR 19 (by decide))
                  obtain rfl := F.at_ 20 _ _ rfl rfl (HAR 20 (by decide))
                  obtain rfl := F.at_ 21 _ _ rfl rfl (HAR 21 (by decide))
                  obtain rfl := F.at_ 22 _ _ rfl rfl (HAR 22 (by decide))
                  obtain rfl := F.at_ 23 _ _ rfl rfl (HAR 23 (by decide))
                  obtain rfl := F.at_ 24 _ _ rfl rfl (HAR 24 (by decide))
                  obtain rfl := F.at_ 25 _ _ rfl rfl (HAR 25 (by decide))
                  obtain rfl := F.at_ 26 _ _ rfl rfl (HAR 26 (by decide))
                  have hK := F.kept
                  clear F hr HSTendsd HAR
                  have HF := Lib.hid (HFIN.out wr (HK7.out.tr0 hK))
                  clear hK
                  go_wp2_with fail
                  go_ret
                  exact ⟨rfl, HF.out⟩
              · rw [decide_eq_false hlt] at hb1
                obtain rfl : b1 = true := hb1
                obtain ⟨gf, hgf, _⟩ := HR17.out
                subst hgf
                have hlt2 : ¬ (cn : Int) < (pr.ops.length : Int) := by omega
                go_wp2_with fail
                have HSTendse : Hid (StayAll [PEq (.bool true), PEq (.bool true), PEq ((Er.spotV gf)), PEq (.bool false), PEq (.int .i64 (cn : Int)), PEq (.pointer (some ⟨w.heap.size, 1, none⟩)), PEq (.slice (some ⟨gp, offp, none⟩) x.prs.length x.pc), PEq (.int .i64 (k : Int)), PEq (.pointer (some ⟨gp, offp + k, none⟩)), PEq (.slice pr.s pr.ops.length pr.cap), PEq (.int .i64 (pr.ops.length : Int)), PEq (.bool false), PEq (.bool true), PEq (.bool true), PEq (.bool true), PEq (Er.spotV gg), PEq (.slice s j cap), PEq (.int .i64 (j : Int)), PEq (.bool true), PEq (.bool true), PEq (.bool true), PEq (Er.spotV gh), PEq (.slice s j cap), PEq (.int .i64 (j : Int)), PEq (.bool true), PEq (.bool true), PEq (.bool true)]) := Lib.hid ⟨stay_eq _, stay_eq _, stay_eq _, stay_eq _, stay_eq _, stay_eq _, stay_eq _, stay_eq _, stay_eq _, stay_eq _, stay_eq _, stay_eq _, stay_eq _, stay_eq _, stay_eq _, stay_eq _, stay_eq _, stay_eq _, stay_eq _, stay_eq _, stay_eq _, stay_eq _, stay_eq _, stay_eq _, stay_eq _, stay_eq _, stay_eq _, trivial⟩
                refine wp_region_any (by kernel_rfl) (wpAny_inv (fun l a w' => ∃ v0 v1 v2 v3 v4 v5 v6 v7 v8 v9 v10 v11 v12 v13 v14 v15 v16 v17 v18 v19 v20 v21 v22 v23 v24 v25 v26, a = ⟨#[x.agg, Value.slice s j cap, Value.int IntKind.i64 (k : Int), Value.pointer (some ⟨w.heap.size, 0, none⟩), undef, undef, v26, Value.bool true, Value.bool true, Value.slice (some ⟨g, 0, none⟩) m c, Value.nilIface, Value.slice (some ⟨g4, 0, none⟩) x.prs.length x.prs.length, Value.int IntKind.i64 (cn : Int), Value.int IntKind.i64 nw, Value.int IntKind.i64 (j : Int), v13a, Er.spotV gf, v13b, Er.spotV gg, v14c, Er.spotV gh, Value.bool true, Value.agg #[Value.slice x.os x.obs.length x.oc, Value.slice x.ps x.prs.length x.pc, Value.slice x.ks x.pis.length x.kc], Value.bool true, Value.bool true, Value.bool false, Value.bool false, Value.slice s j cap, Value.int IntKind.i64 (j : Int), Value.bool (decide (500 < (j : Int))), Value.bool (decide (500 < (j : Int))), Value.bool (decide (500 < (j : Int))), Value.int IntKind.i64 (k : Int), Value.bool (decide ((k : Int) < 0)), Value.bool (decide (500 < (j : Int)) || decide ((k : Int) < 0)), Value.bool (decide (500 < (j : Int)) || decide ((k : Int) < 0)), Value.int IntKind.i64 (k : Int), Value.pointer (some ⟨w.heap.size, 1, none⟩), Value.slice x.ps x.prs.length x.pc, Value.int IntKind.i64 (x.prs.length : Int), Value.bool false, Value.bool (decide (500 < (j : Int)) || decide ((k : Int) < 0)), undef, Value.tuple #[Value.slice (some ⟨g, 0, none⟩) m c, Value.nilIface], Value.agg #[Value.slice x.os x.obs.length x.oc, Value.slice x.ps x.prs.length x.pc, Value.slice x.ks x.pis.length x.kc], Value.slice s j cap, Value.tuple #[Value.slice (some ⟨g, 0, none⟩) m c, Value.nilIface], Value.slice (some ⟨g, 0, none⟩) m c, Value.nilIface, Value.agg #[Value.slice x.os x.obs.length x.oc, Value.slice x.ps x.prs.length x.pc, Value.slice x.ks x.pis.length x.kc], Value.slice s j cap, Value.slice (some ⟨g4, 0, none⟩) x.prs.length x.prs.length, Value.nilIface, Value.bool false, Value.bool false, Value.int IntKind.i64 (k : Int), Value.slice (some ⟨g4, 0, none⟩) x.prs.length x.prs.length, Value.int IntKind.i64 (x.prs.length : Int), Value.bool false, Value.bool false, Value.bool false, Value.slice (some ⟨g4, 0, none⟩) x.prs.length x.prs.length, Value.int IntKind.i64 (k : Int), Value.pointer (some ⟨g4, k, none⟩), Value.int IntKind.i64 (-1), Value.bool false, Value.bool false, undef, Value.int IntKind.i64 (j : Int), Value.slice s j cap, Value.int IntKind.i64 (j : Int), Value.bool false, u72, u73, u74, u75, u76, u77, u78, u79, u80, u81, u82, u83, u84, u85, u86, u87, u88, u89, u90, u91, u92, u93, u94, u95, v10a, v0a, v1a, v2a, v3a, v4a, v5a, v6a, v7a, v8a, v9a, v11a, v12a, v10b, v0b, v1b, v2b, v3b, v4b, v5b, v6b, v7b, v8b, v9b, v11b, v12b, v11c, v0c, v1c, v2c, v3c, v4c, v5c, v6c, v7c, v8c, v9c, v10c, v12c, v13c, v0, v1, v2, v3, v4, v5, v6, v7, v8, v9, v10, v11, v12, v13, v14, v15, v16, v17, v18, v19, v20, v21, v22, v23, v24, v25], []⟩ ∧ FG w7 [PEq (.bool true), PEq (.bool true), PEq ((Er.spotV gf)), PEq (.bool false), PEq (.int .i64 (cn : Int)), PEq (.pointer (some ⟨w.heap.size, 1, none⟩)), PEq (.slice (some ⟨gp, offp, none⟩) x.prs.length x.pc), PEq (.int .i64 (k : Int)), PEq (.pointer (some ⟨gp, offp + k, none⟩)), PEq (.slice pr.s pr.ops.length pr.cap), PEq (.int .i64 (pr.ops.length : Int)), PEq (.bool false), PEq (.bool true), PEq (.bool true), PEq (.bool true), PEq (Er.spotV gg), PEq (.slice s j cap), PEq (.int .i64 (j : Int)), PEq (.bool true), PEq (.bool true), PEq (.bool true), PEq (Er.spotV gh), PEq (.slice s j cap), PEq (.int .i64 (j : Int)), PEq (.bool true), PEq (.bool true), PEq (.bool true)] l w' [v0, v1, v2, v3, v4, v5, v6, v7, v8, v9, v10, v11, v12, v13, v14, v15, v16, v17, v18, v19, v20, v21, v22, v23, v24, v25, v26]) ?hstependse ?hendendse _ _ _ _ (by simp) (by simp) ?hstartendse)
                case hstartendse =>
                  exact ⟨_, _, _, _, _, _, _, _, _, _, _, _, _, _, _, _, _, _, _, _, _, _, _, _, _, _, _, rfl, ⟨(Kept.refl _ _).drew, fun i P v _ hv hf => (flag_none hf).elim⟩⟩
                case hstependse =>
                  intro l a wr i hs hI hi
                  have hs' : l.size = 27 := hs
                  obtain ⟨hlt, hu, hd⟩ := ready_of hi
                  have hsj : ∀ j, j ≠ i → (l.setIfInBounds i true).getD j false = true → l.getD j false = true := fun j hj h => by
                    rw [getD_set (by omega), if_neg hj] at h; exact h
                  have HS := Lib.hid hsj; clear hsj
                  have hlt' : i < 27 := hlt
                  clear hi hlt hu
                  obtain ⟨v0, v1, v2, v3, v4, v5, v6, v7, v8, v9, v10, v11, v12, v13, v14, v15, v16, v17, v18, v19, v20, v21, v22, v23, v24, v25, v26, rfl, F⟩ := hI
                  have hi : i = 0 ∨ i = 1 ∨ i = 2 ∨ i = 3 ∨ i = 4 ∨ i = 5 ∨ i = 6 ∨ i = 7 ∨ i = 8 ∨ i = 9 ∨ i = 10 ∨ i = 11 ∨ i = 12 ∨ i = 13 ∨ i = 14 ∨ i = 15 ∨ i = 16 ∨ i = 17 ∨ i = 18 ∨ i = 19 ∨ i = 20 ∨ i = 21 ∨ i = 22 ∨ i = 23 ∨ i = 24 ∨ i = 25 ∨ i = 26 := by omega
                  clear hlt'
                  obtain ⟨p0, p1⟩ := HB7.out wr F.kept
                  rcases hi with rfl | rfl | rfl | rfl | rfl | rfl | rfl | rfl | rfl | rfl | rfl | rfl | rfl | rfl | rfl | rfl | rfl | rfl | rfl | rfl | rfl | rfl | rfl | rfl | rfl | rfl | rfl
                  · refine wpOp_open rfl (fun K hK => ?_)
                    go_simp
                    exact hK.out _ _ ⟨_, _, _, _, _, _, _, _, _, _, _, _, _, _, _, _, _, _, _, _, _, _, _, _, _, _, _, rfl, F.step HSTendse.out 0 HS.out (Kept.refl _ _) _ rfl _ rfl⟩
                  · have d0 : l.getD 0 false = true := by simp [Region.binds] at hd; simp [hd]
                    obtain rfl := F.at_ 0 _ _ rfl rfl d0
                    refine wpOp_open rfl (fun K hK => ?_)
                    go_simp
                    exact hK.out _ _ ⟨_, _, _, _, _, _, _, _, _, _, _, _, _, _, _, _, _, _, _, _, _, _, _, _, _, _, _, rfl, F.step HSTendse.out 1 HS.out (Kept.refl _ _) _ rfl _ rfl⟩
                  · have d1 : l.getD 1 false = true := by simp [Region.binds] at hd; simp [hd]
                    obtain rfl := F.at_ 1 _ _ rfl rfl d1
                    refine wpOp_open rfl (fun K hK => ?_)
                    go_simp
                    exact hK.out _ _ ⟨_, _, _, _, _, _, _, _, _, _, _, _, _, _, _, _, _, _, _, _, _, _, _, _, _, _, _, rfl, F.step HSTendse.out 2 HS.out (Kept.refl _ _) _ rfl _ rfl⟩
                  · have d1 : l.getD 1 false = true := by simp [Region.binds] at hd; simp [hd]
                    obtain rfl := F.at_ 1 _ _ rfl rfl d1
                    have d2 : l.getD 2 false = true := by simp [Region.binds] at hd; simp [hd]
                    obtain rfl := F.at_ 2 _ _ rfl rfl d2
                    refine wpOp_open rfl (fun K hK => ?_)
                    go_simp
                    exact hK.out _ _ ⟨_, _, _, _, _, _, _, _, _, _, _, _, _, _, _, _, _, _, _, _, _, _, _, _, _, _, _, rfl, F.step HSTendse.out 3 HS.out (Kept.refl _ _) _ rfl _ rfl⟩
                  · have d1 : l.getD 1 false = true := by simp [Region.binds] at hd; simp [hd]
                    obtain rfl := F.at_ 1 _ _ rfl rfl d1
                    refine wpOp_open rfl (fun K hK => ?_)
                    go_simp
                    exact hK.out _ _ ⟨_, _, _, _, _, _, _, _, _, _, _, _, _, _, _, _, _, _, _, _, _, _, _, _, _, _, _, rfl, F.step HSTendse.out 4 HS.out (Kept.refl _ _) _ rfl _ rfl⟩
                  · have d1 : l.getD 1 false = true := by simp [Region.binds] at hd; simp [hd]
                    obtain rfl := F.at_ 1 _ _ rfl rfl d1
                    refine wpOp_open rfl (fun K hK => ?_)
                    go_simp
                    exact hK.out _ _ ⟨_, _, _, _, _, _, _, _, _, _, _, _, _, _, _, _, _, _, _, _, _, _, _, _, _, _, _, rfl, F.step HSTendse.out 5 HS.out (Kept.refl _ _) _ rfl _ rfl⟩
                  · have d1 : l.getD 1 false = true := by simp [Region.binds] at hd; simp [hd]
                    obtain rfl := F.at_ 1 _ _ rfl rfl d1
                    have d5 : l.getD 5 false = true := by simp [Region.binds] at hd; simp [hd]
                    obtain rfl := F.at_ 5 _ _ rfl rfl d5
                    refine wpOp_open rfl (fun K hK => ?_)
                    go_simp
                    exact hK.out _ _ ⟨_, _, _, _, _, _, _, _, _, _, _, _, _, _, _, _, _, _, _, _, _, _, _, _, _, _, _, rfl, F.step HSTendse.out 6 HS.out (Kept.refl _ _) _ rfl _ rfl⟩
                  · have d1 : l.getD 1 false = true := by simp [Region.binds] at hd; simp [hd]
                    obtain rfl := F.at_ 1 _ _ rfl rfl d1
                    refine wpOp_open rfl (fun K hK => ?_)
                    go_simp
                    exact hK.out _ _ ⟨_, _, _, _, _, _, _, _, _, _, _, _, _, _, _, _, _, _, _, _, _, _, _, _, _, _, _, rfl, F.step HSTendse.out 7 HS.out (Kept.refl _ _) _ rfl _ rfl⟩
                  · have d1 : l.getD 1 false = true := by simp [Region.binds] at hd; simp [hd]
                    obtain rfl := F.at_ 1 _ _ rfl rfl d1
                    have d6 : l.getD 6 false = true := by simp [Region.binds] at hd; simp [hd]
                    obtain rfl := F.at_ 6 _ _ rfl rfl d6
                    have d7 : l.getD 7 false = true := by simp [Region.binds] at hd; simp [hd]
                    obtain rfl := F.at_ 7 _ _ rfl rfl d7
                    refine wpOp_open rfl (fun K hK => ?_)
                    go_simp
                    exact hK.out _ _ ⟨_, _, _, _, _, _, _, _, _, _, _, _, _, _, _, _, _, _, _, _, _, _, _, _, _, _, _, rfl, F.step HSTendse.out 8 HS.out (Kept.refl _ _) _ rfl _ rfl⟩
                  · have d1 : l.getD 1 false = true := by simp [Region.binds] at hd; simp [hd]
                    obtain rfl := F.at_ 1 _ _ rfl rfl d1
                    have d8 : l.getD 8 false = true := by simp [Region.binds] at hd; simp [hd]
                    obtain rfl := F.at_ 8 _ _ rfl rfl d8
                    refine wpOp_open rfl (fun K hK => ?_)
                    go_simp
                    exact hK.out _ _ ⟨_, _, _, _, _, _, _, _, _, _, _, _, _, _, _, _, _, _, _, _, _, _, _, _, _, _, _, rfl, F.step HSTendse.out 9 HS.out (Kept.refl _ _) _ rfl _ rfl⟩
                  · have d1 : l.getD 1 false = true := by simp [Region.binds] at hd; simp [hd]
                    obtain rfl := F.at_ 1 _ _ rfl rfl d1
                    have d9 : l.getD 9 false = true := by simp [Region.binds] at hd; simp [hd]
                    obtain rfl := F.at_ 9 _ _ rfl rfl d9
                    refine wpOp_open rfl (fun K hK => ?_)
                    go_simp
                    exact hK.out _ _ ⟨_, _, _, _, _, _, _, _, _, _, _, _, _, _, _, _, _, _, _, _, _, _, _, _, _, _, _, rfl, F.step HSTendse.out 10 HS.out (Kept.refl _ _) _ rfl _ rfl⟩
                  · have d1 : l.getD 1 false = true := by simp [Region.binds] at hd; simp [hd]
                    obtain rfl := F.at_ 1 _ _ rfl rfl d1
                    have d4 : l.getD 4 false = true := by simp [Region.binds] at hd; simp [hd]
                    obtain rfl := F.at_ 4 _ _ rfl rfl d4
                    have d10 : l.getD 10 false = true := by simp [Region.binds] at hd; simp [hd]
                    obtain rfl := F.at_ 10 _ _ rfl rfl d10
                    refine wpOp_open rfl (fun K hK => ?_)
                    go_simp
                    exact hK.out _ _ ⟨_, _, _, _, _, _, _, _, _, _, _, _, _, _, _, _, _, _, _, _, _, _, _, _, _, _, _, rfl, F.step HSTendse.out 11 HS.out (Kept.refl _ _) _ rfl _ rfl⟩
                  · have d1 : l.getD 1 false = true := by simp [Region.binds] at hd; simp [hd]
                    obtain rfl := F.at_ 1 _ _ rfl rfl d1
                    have d3 : l.getD 3 false = true := by simp [Region.binds] at hd; simp [hd]
                    obtain rfl := F.at_ 3 _ _ rfl rfl d3
                    have d11 : l.getD 11 false = true := by simp [Region.binds] at hd; simp [hd]
                    obtain rfl := F.at_ 11 _ _ rfl rfl d11
                    refine wpOp_open rfl (fun K hK => ?_)
                    go_simp
                    exact hK.out _ _ ⟨_, _, _, _, _, _, _, _, _, _, _, _, _, _, _, _, _, _, _, _, _, _, _, _, _, _, _, rfl, F.step HSTendse.out 12 HS.out (Kept.refl _ _) _ rfl _ rfl⟩
                  · have d1 : l.getD 1 false = true := by simp [Region.binds] at hd; simp [hd]
                    obtain rfl := F.at_ 1 _ _ rfl rfl d1
                    have d12 : l.getD 12 false = true := by simp [Region.binds] at hd; simp [hd]
                    obtain rfl := F.at_ 12 _ _ rfl rfl d12
                    refine wpOp_open rfl (fun K hK => ?_)
                    go_simp
                    exact hK.out _ _ ⟨_, _, _, _, _, _, _, _, _, _, _, _, _, _, _, _, _, _, _, _, _, _, _, _, _, _, _, rfl, F.step HSTendse.out 13 HS.out (Kept.refl _ _) _ rfl _ rfl⟩
                  · have d13 : l.getD 13 false = true := by simp [Region.binds] at hd; simp [hd]
                    obtain rfl := F.at_ 13 _ _ rfl rfl d13
                    refine wpOp_open rfl (fun K hK => ?_)
                    go_simp
                    exact hK.out _ _ ⟨_, _, _, _, _, _, _, _, _, _, _, _, _, _, _, _, _, _, _, _, _, _, _, _, _, _, _, rfl, F.step HSTendse.out 14 HS.out (Kept.refl _ _) _ rfl _ rfl⟩
                  · have d14 : l.getD 14 false = true := by simp [Region.binds] at hd; simp [hd]
                    obtain rfl := F.at_ 14 _ _ rfl rfl d14
                    refine wpOp_open rfl (fun K hK => ?_)
                    go_simp
                    exact hK.out _ _ ⟨_, _, _, _, _, _, _, _, _, _, _, _, _, _, _, _, _, _, _, _, _, _, _, _, _, _, _, rfl, F.step HSTendse.out 15 HS.out (Kept.refl _ _) _ rfl _ rfl⟩
                  · have d14 : l.getD 14 false = true := by simp [Region.binds] at hd; simp [hd]
                    obtain rfl := F.at_ 14 _ _ rfl rfl d14
                    refine wpOp_open rfl (fun K hK => ?_)
                    go_simp
                    exact hK.out _ _ ⟨_, _, _, _, _, _, _, _, _, _, _, _, _, _, _, _, _, _, _, _, _, _, _, _, _, _, _, rfl, F.step HSTendse.out 16 HS.out (Kept.refl _ _) _ rfl _ rfl⟩
                  · have d14 : l.getD 14 false = true := by simp [Region.binds] at hd; simp [hd]
                    obtain rfl := F.at_ 14 _ _ rfl rfl d14
                    have d16 : l.getD 16 false = true := by simp [Region.binds] at hd; simp [hd]
                    obtain rfl := F.at_ 16 _ _ rfl rfl d16
                    refine wpOp_open rfl (fun K hK => ?_)
                    go_simp
                    exact hK.out _ _ ⟨_, _, _, _, _, _, _, _, _, _, _, _, _, _, _, _, _, _, _, _, _, _, _, _, _, _, _, rfl, F.step HSTendse.out 17 HS.out (Kept.refl _ _) _ rfl _ rfl⟩
                  · have d14 : l.getD 14 false = true := by simp [Region.binds] at hd; simp [hd]
                    obtain rfl := F.at_ 14 _ _ rfl rfl d14
                    have d15 : l.getD 15 false = true := by simp [Region.binds] at hd; simp [hd]
                    obtain rfl := F.at_ 15 _ _ rfl rfl d15
                    have d17 : l.getD 17 false = true := by simp [Region.binds] at hd; simp [hd]
                    obtain rfl := F.at_ 17 _ _ rfl rfl d17
                    refine wpOp_open rfl (fun K hK => ?_)
                    go_simp
                    refine (HI1.out wr F.kept).mono ?_
                    rintro e w5x ⟨rfl, hk5x⟩
                    exact hK.out _ _ ⟨_, _, _, _, _, _, _, _, _, _, _, _, _, _, _, _, _, _, _, _, _, _, _, _, _, _, _, rfl, F.step HSTendse.out 18 HS.out (hk5x) _ rfl _ rfl⟩
                  · have d14 : l.getD 14 false = true := by simp [Region.binds] at hd; simp [hd]
                    obtain rfl := F.at_ 14 _ _ rfl rfl d14
                    have d18 : l.getD 18 false = true := by simp [Region.binds] at hd; simp [hd]
                    obtain rfl := F.at_ 18 _ _ rfl rfl d18
                    refine wpOp_open rfl (fun K hK => ?_)
                    go_simp
                    exact hK.out _ _ ⟨_, _, _, _, _, _, _, _, _, _, _, _, _, _, _, _, _, _, _, _, _, _, _, _, _, _, _, rfl, F.step HSTendse.out 19 HS.out (Kept.refl _ _) _ rfl _ rfl⟩
                  · have d19 : l.getD 19 false = true := by simp [Region.binds] at hd; simp [hd]
                    obtain rfl := F.at_ 19 _ _ rfl rfl d19
                    refine wpOp_open rfl (fun K hK => ?_)
                    go_simp
                    exact hK.out _ _ ⟨_, _, _, _, _, _, _, _, _, _, _, _, _, _, _, _, _, _, _, _, _, _, _, _, _, _, _, rfl, F.step HSTendse.out 20 HS.out (Kept.refl _ _) _ rfl _ rfl⟩
                  · have d20 : l.getD 20 false = true := by simp [Region.binds] at hd; simp [hd]
                    obtain rfl := F.at_ 20 _ _ rfl rfl d20
                    refine wpOp_open rfl (fun K hK => ?_)
                    go_simp
                    exact hK.out _ _ ⟨_, _, _, _, _, _, _, _, _, _, _, _, _, _, _, _, _, _, _, _, _, _, _, _, _, _, _, rfl, F.step HSTendse.out 21 HS.out (Kept.refl _ _) _ rfl _ rfl⟩
                  · have d20 : l.getD 20 false = true := by simp [Region.binds] at hd; simp [hd]
                    obtain rfl := F.at_ 20 _ _ rfl rfl d20
                    refine wpOp_open rfl (fun K hK => ?_)
                    go_simp
                    exact hK.out _ _ ⟨_, _, _, _, _, _, _, _, _, _, _, _, _, _, _, _, _, _, _, _, _, _, _, _, _, _, _, rfl, F.step HSTendse.out 22 HS.out (Kept.refl _ _) _ rfl _ rfl⟩
                  · have d20 : l.getD 20 false = true := by simp [Region.binds] at hd; simp [hd]
                    obtain rfl := F.at_ 20 _ _ rfl rfl d20
                    have d22 : l.getD 22 false = true := by simp [Region.binds] at hd; simp [hd]
                    obtain rfl := F.at_ 22 _ _ rfl rfl d22
                    refine wpOp_open rfl (fun K hK => ?_)
                    go_simp
                    exact hK.out _ _ ⟨_, _, _, _, _, _, _, _, _, _, _, _, _, _, _, _, _, _, _, _, _, _, _, _, _, _, _, rfl, F.step HSTendse.out 23 HS.out (Kept.refl _ _) _ rfl _ rfl⟩
                  · have d20 : l.getD 20 false = true := by simp [Region.binds] at hd; simp [hd]
                    obtain rfl := F.at_ 20 _ _ rfl rfl d20
                    have d21 : l.getD 21 false = true := by simp [Region.binds] at hd; simp [hd]
                    obtain rfl := F.at_ 21 _ _ rfl rfl d21
                    have d23 : l.getD 23 false = true := by simp [Region.binds] at hd; simp [hd]
                    obtain rfl := F.at_ 23 _ _ rfl rfl d23
                    refine wpOp_open rfl (fun K hK => ?_)
                    go_simp
                    refine (HI2.out wr F.kept).mono ?_
                    rintro e w5x ⟨rfl, hk5x⟩
                    exact hK.out _ _ ⟨_, _, _, _, _, _, _, _, _, _, _, _, _, _, _, _, _, _, _, _, _, _, _, _, _, _, _, rfl, F.step HSTendse.out 24 HS.out (hk5x) _ rfl _ rfl⟩
                  · have d20 : l.getD 20 false = true := by simp [Region.binds] at hd; simp [hd]
                    obtain rfl := F.at_ 20 _ _ rfl rfl d20
                    have d24 : l.getD 24 false = true := by simp [Region.binds] at hd; simp [hd]
                    obtain rfl := F.at_ 24 _ _ rfl rfl d24
                    refine wpOp_open rfl (fun K hK => ?_)
                    go_simp
                    exact hK.out _ _ ⟨_, _, _, _, _, _, _, _, _, _, _, _, _, _, _, _, _, _, _, _, _, _, _, _, _, _, _, rfl, F.step HSTendse.out 25 HS.out (Kept.refl _ _) _ rfl _ rfl⟩
                  · have d25 : l.getD 25 false = true := by simp [Region.binds] at hd; simp [hd]
                    obtain rfl := F.at_ 25 _ _ rfl rfl d25
                    refine wpOp_open rfl (fun K hK => ?_)
                    go_simp
                    exact hK.out _ _ ⟨_, _, _, _, _, _, _, _, _, _, _, _, _, _, _, _, _, _, _, _, _, _, _, _, _, _, _, rfl, F.step HSTendse.out 26 HS.out (Kept.refl _ _) _ rfl _ rfl⟩
                case hendendse =>
                  intro l a wr hs hI hr
                  have hs' : l.size = 27 := hs
                  obtain ⟨v0, v1, v2, v3, v4, v5, v6, v7, v8, v9, v10, v11, v12, v13, v14, v15, v16, v17, v18, v19, v20, v21, v22, v23, v24, v25, v26, rfl, F⟩ := hI
                  have HAR := all_ready2 hs (by kernel_rfl) hr
                  obtain rfl := F.at_ 0 _ _ rfl rfl (HAR 0 (by decide))
                  obtain rfl := F.at_ 1 _ _ rfl rfl (HAR 1 (by decide))
                  obtain rfl := F.at_ 2 _ _ rfl rfl (HAR 2 (by decide))
                  obtain rfl := F.at_ 3 _ _ rfl rfl (HAR 3 (by decide))
                  obtain rfl := F.at_ 4 _ _ rfl rfl (HAR 4 (by decide))
                  obtain rfl := F.at_ 5 _ _ rfl rfl (HAR 5 (by decide))
                  obtain rfl := F.at_ 6 _ _ rfl rfl (HAR 6 (by decide))
                  obtain rfl := F.at_ 7 _ _ rfl rfl (HAR 7 (by decide))
                  obtain rfl := F.at_ 8 _ _ rfl rfl (HAR 8 (by decide))
                  obtain rfl := F.at_ 9 _ _ rfl rfl (HAR 9 (by decide))
                  obtain rfl := F.at_ 10 _ _ rfl rfl (HAR 10 (by decide))
                  obtain rfl := F.at_ 11 _ _ rfl rfl (HAR 11 (by decide))
                  obtain rfl := F.at_ 12 _ _ rfl rfl (HAR 12 (by decide))
                  obtain rfl := F.at_ 13 _ _ rfl rfl (HAR 13 (by decide))
                  obtain rfl := F.at_ 14 _ _ rfl rfl (HAR 14 (by decide))
                  obtain rfl := F.at_ 15 _ _ rfl rfl (HAR 15 (by decide))
                  obtain rfl := F.at_ 16 _ _ rfl rfl (HAR 16 (by decide))
                  obtain rfl := F.at_ 17 _ _ rfl rfl (HAR 17 (by decide))
                  obtain rfl := F.at_ 18 _ _ rfl rfl (HAR 18 (by decide))
                  obtain rfl := F.at_ 19 _ _ rfl rfl (HAR 19 (by decide))
                  obtain rfl := F.at_ 20 _ _ rfl rfl (HAR 20 (by decide))
                  obtain rfl := F.at_ 21 _ _ rfl rfl (HAR 21 (by decide))
                  obtain rfl := F.at_ 22 _ _ rfl rfl (HAR 22 (by decide))
                  obtain rfl := F.at_ 23 _ _ rfl rfl (HAR 23 (by decide))
                  obtain rfl := F.at_ 24 _ _ rfl rfl (HAR 24 (by decide))
                  obtain rfl := F.at_ 25 _ _ rfl rfl (HAR 25 (by decide))
                  obtain rfl := F.at_ 26 _ _ rfl rfl (HAR 26 (by decide))
                  have hK := F.kept
                  clear F hr HSTendse HAR
                  have HF := Lib.hid (HFIN.out wr (HK7.out.tr0 hK))
                  clear hK
                  go_wp2_with fail
                  go_ret
                  exact ⟨rfl, HF.out⟩

end Go.Proofs.YtbodlaiakcoabaaGreatDoor
