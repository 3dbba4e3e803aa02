/-
  ReplayLast: the walk.
  Conditions: none.
-/
import Derived.Test.YtbodlaiakcoabaaGreatDoorRepUp
import Derived.Test.YtbodlaiakcoabaaGreatDoorRepEvs
import Derived.Test.YtbodlaiakcoabaaGreatDoorFew
namespace Go.Proofs.YtbodlaiakcoabaaGreatDoor
open Go.RowKit
set_option linter.unusedSimpArgs false
set_option linter.unusedVariables false
set_option maxRecDepth 100000

set_option maxHeartbeats 8000000 in
theorem last_any (x : Sc) (L : List Ev) (s : Option Addr) (cap n : Nat) (t : Int) (w : World) (hx : Lies w w.heap.size x) (hE : Elems w w.heap.size s 7 Ev.cells L) (hn : L.length = n) (h64 : ∀ ev ∈ L, Ev64 ev) (hH : Er.HndAt w) :
    Calls Tryz.prog 4 #[x.agg, .slice s n cap, .int .i64 t] w fun e w' => e = .returned (.bool true) ∧ Below w.heap.size w w' := by
  obtain ⟨W0, hW0⟩ : ∃ W0, w.alloc (.cells #[.slice x.os x.obs.length x.oc, .slice x.ps x.prs.length x.pc, .slice x.ks x.pis.length x.kc] 26) = W0 := ⟨_, rfl⟩
  have hk0 : Kept (fun _ => False) w W0 := by rw [← hW0]; exact (Kept.refl _ w).alloc _
  have hs0 : W0.heap.size = w.heap.size + 1 := by rw [← hW0]; simp
  have hb0 : W0.heap[w.heap.size]? = some (.cells #[.slice x.os x.obs.length x.oc, .slice x.ps x.prs.length x.pc, .slice x.ks x.pis.length x.kc] 26 (0, 0)) := by rw [← hW0]; exact heap_alloc_new w _
  have HX := Lib.hid (fun (w' : World) (hk : Kept (fun _ => False) W0 w') => (hx.kept (hk0.trans hk (fun _ _ f => f)) (Nat.le_refl _) (fun _ _ f => f)).more (Nat.le_trans hk0.size hk.size))
  have HE := Lib.hid (fun (w' : World) (hk : Kept (fun _ => False) W0 w') => (hE.kept (hk0.trans hk (fun _ _ f => f)) (Nat.le_refl _) (fun _ _ f => f)).more (Nat.le_trans hk0.size hk.size))
  have HP := Lib.hid (fun (w' : World) (hk : Kept (fun _ => False) W0 w') => box3_cells ((hk.block w.heap.size (by omega) (fun f => f)).trans hb0))
  have HFIN := Lib.hid (fun (w' : World) (hk : Kept (fun _ => False) W0 w') => (hk0.trans hk (fun _ _ f => f)).below (Nat.le_refl _) (fun _ f => f.elim))
  have HH := Lib.hid (hH.on0 hk0)
  have HHW := Lib.hid (fun (w' : World) (hk : Kept (fun _ => False) W0 w') => (hH.on0 hk0).on0 hk)
  have HW0 := Lib.hid hW0
  have HS0 := Lib.hid hs0
  have H64 := Lib.hid h64
  have HN := Lib.hid hn
  have hmax : n ≤ 9223372036854775807 := by have := hE.1; unfold maxLen at this; rw [hn] at this; exact this
  clear hx hE hk0 hs0 hb0 hW0 h64 hH hn
  go_enter Tryz.func4, Tryz.ntmps4
  go_wp2_with fail
  rw [HW0.out]
  clear HW0
  refine (up11_any _ HH.out).mono ?_
  rintro e w1 ⟨rfl, hk1⟩
  obtain ⟨p0, p1, p2⟩ := HP.out w1 hk1
  have HK1 := Lib.hid hk1
  clear hk1
  have HFEW : Hid (Calls Tryz.prog 10 #[x.agg] w1 fun e w' => e = .returned (.bool (Er.fewF x)) ∧ Kept (fun _ => False) w1 w') := Lib.hid (Er.few_any (HX.out w1 HK1.out) (Nat.le_refl _) _ rfl)
  cases hfx : Er.fewF x
  · rw [hfx] at HFEW
    go_wp2_with fail
    refine HFEW.out.mono ?_
    rintro e w2 ⟨rfl, hk2⟩
    have HF := Lib.hid (HFIN.out w2 (HK1.out.trans hk2 (fun _ _ f => f)))
    clear hk2
    go_wp2_with fail
    go_ret
    exact ⟨rfl, HF.out⟩
  rw [hfx] at HFEW
  go_wp2_with fail
  refine HFEW.out.mono ?_
  rintro e w2 ⟨rfl, hk2⟩
  have HK2 := Lib.hid (HK1.out.trans hk2 (fun _ _ f => f))
  clear hk2 p0 p1 p2 hfx
  by_cases h4 : (5000 : Int) < (n : Int)
  · have HF := Lib.hid (HFIN.out w2 HK2.out)
    go_wp2_with fail
    go_ret
    exact ⟨rfl, HF.out⟩
  have hl20 : n ≤ 5000 := by omega
  obtain ⟨p0, p1, p2⟩ := HP.out w2 HK2.out
  by_cases hlg : largeF x = false ∧ goodF x = true
  case neg =>
    have HPN := Lib.hid (pend_bad x n s cap w2 (HX.out w2 HK2.out) (fun h => hlg h))
    clear hlg
    go_wp2_with fail
    refine HPN.out.mono ?_
    rintro e w3 ⟨rfl, hk3⟩
    have HF := Lib.hid (HFIN.out w3 (HK2.out.tr0 hk3))
    clear hk3 p0 p1 p2
    by_cases ht0 : t < 0
    · go_wp2_with fail
      go_ret
      exact ⟨rfl, HF.out⟩
    · have ht1 : (0 : Int) ≤ t := by omega
      go_wp2_with fail
      go_ret
      exact ⟨rfl, HF.out⟩
  have hpn := pend_any x L s cap w2 (HX.out w2 HK2.out) (HE.out w2 HK2.out) H64.out (by rw [HN.out]; omega) hlg.1 hlg.2
  rw [HN.out] at hpn
  have HPN := Lib.hid hpn
  have HLG := Lib.hid hlg
  clear hlg hpn
  go_wp2_with fail
  refine HPN.out.mono ?_
  rintro e w3 ⟨hk3, hP⟩
  have HK3 := Lib.hid (HK2.out.tr0 hk3)
  clear hk3 p0 p1 p2
  rcases hP with ⟨k, hg, rfl⟩ | ⟨σ, hg, hG, g, hgw, rfl, hrow⟩
  · have HF := Lib.hid (HFIN.out w3 HK3.out)
    clear hg
    by_cases ht0 : t < 0
    · go_wp2_with fail
      go_ret
      exact ⟨rfl, HF.out⟩
    · have ht1 : (0 : Int) ≤ t := by omega
      go_wp2_with fail
      go_ret
      exact ⟨rfl, HF.out⟩
  have hg8 : σ.threads.length ≤ 8 := hG.nthr
  have HG := Lib.hid hg
  have HGOOD := Lib.hid hG
  have HROW := Lib.hid hrow
  obtain ⟨nt, hnt⟩ : ∃ nt, σ.threads.length = nt := ⟨_, rfl⟩
  have HNT := Lib.hid hnt
  rw [hnt]
  rw [hnt] at hg8
  clear hg hG hrow hnt
  by_cases ht0 : t < 0
  · have HF := Lib.hid (HFIN.out w3 HK3.out)
    go_wp2_with fail
    go_ret
    exact ⟨rfl, HF.out⟩
  by_cases ht1 : (nt : Int) ≤ t
  · have HF := Lib.hid (HFIN.out w3 HK3.out)
    have ht2 : 0 ≤ t := by omega
    go_wp2_with fail
    go_ret
    exact ⟨rfl, HF.out⟩
  obtain ⟨k, rfl⟩ : ∃ k : Nat, t = k := ⟨t.toNat, by omega⟩
  have hkl : k < nt := by omega
  obtain ⟨tr, htr⟩ : ∃ tr, σ.threads[k]? = some tr := ⟨_, List.getElem?_eq_getElem (by rw [HNT.out]; exact hkl)⟩
  have HTR := Lib.hid htr
  clear htr
  obtain ⟨p0, p1, p2⟩ := HP.out w3 HK3.out
  by_cases hL : 0 < n
  · obtain ⟨n, rfl⟩ : ∃ n', n = n' + 1 := ⟨n - 1, by omega⟩
    obtain ⟨ev, hev⟩ : ∃ ev, L[n]? = some ev := ⟨_, List.getElem?_eq_getElem (by rw [HN.out]; omega)⟩
    obtain ⟨ga, off, rfl, hga, hc⟩ := (HE.out w3 HK3.out).2 n ev hev
    have cN : w3.cell? ⟨ga, off + n * 7 + 2, none⟩ = some (.int .i64 ev.now) := hc 2 _ rfl
    have h64' : Ev64 ev := H64.out ev (List.mem_of_getElem? hev)
    obtain ⟨nw, hnw⟩ : ∃ nw, ev.now = nw := ⟨_, rfl⟩
    rw [hnw] at cN
    have HNW : Hid (nw ≤ 9223372036854775807) := Lib.hid (by rw [← hnw]; exact h64'.n1)
    clear hev hc h64' hnw hga
    go_wp2_with fail
    have HKN := Lib.hid hkl
    clear hkl ht0 ht1
    try (rename 0 ≤ (k : Int) ∧ ¬ nt ≤ k => hz; clear hz)
    have HBw3 : Hid (∀ w', Kept (fun _ => False) w3 w' → w'.cell? ⟨w.heap.size, 0, none⟩ = some (.slice x.os x.obs.length x.oc) ∧ w'.cell? ⟨w.heap.size, 1, none⟩ = some (.slice x.ps x.prs.length x.pc) ∧ w'.cell? ⟨w.heap.size, 2, none⟩ = some (.slice x.ks x.pis.length x.kc)) := Lib.hid (fun w' hk => HP.out w' (HK3.out.tr0 hk))
    have HXw3 : Hid (∀ w', Kept (fun _ => False) w3 w' → Lies w' w'.heap.size x) := Lib.hid (fun w' hk => HX.out w' (HK3.out.tr0 hk))
    have HEw3 : Hid (∀ w', Kept (fun _ => False) w3 w' → Elems w' w'.heap.size (some ⟨ga, off, none⟩) 7 Ev.cells L) := Lib.hid (fun w' hk => HE.out w' (HK3.out.tr0 hk))
    obtain ⟨b1, hb1⟩ : ∃ b, (evM σ ⟨3, k, nw, ⟨0, 0⟩, 0, 0⟩).isNone = b := ⟨_, rfl⟩
    have HBB1 := Lib.hid hb1
    clear hb1
    have HST1 : Hid (Stay (PErr b1 (n + 1))) := Lib.hid (stay_err _ _)
    have HRUN1 : Hid (∀ g c w', Kept (fun _ => False) w3 w' → Elems w' w'.heap.size (some ⟨g, 0, none⟩) 7 Ev.cells (L ++ [⟨3, k, nw, ⟨0, 0⟩, 0, 0⟩]) → Calls Tryz.prog 11 #[x.agg, .slice (some ⟨g, 0, none⟩) ((n + 1) + 1) c] w' fun e w'' => ∃ a b, e = .returned (.tuple #[a, b]) ∧ PErr b1 (n + 1) w'' b ∧ Kept (fun _ => False) w' w'') := Lib.hid (fun g c w' hk hE => run_more x L ⟨3, k, nw, ⟨0, 0⟩, 0, 0⟩ _ HN.out (by omega) H64.out ⟨HNW.out, (by show (-9223372036854775808 : Int) ≤ 0; decide), (by show (0 : Int) ≤ 9223372036854775807; decide)⟩ HLG.out.1 HLG.out.2 HG.out _ HBB1.out w' _ c (HXw3.out w' hk) hE)
    obtain ⟨b2, hb2⟩ : ∃ b, (evM σ ⟨1, k, nw, ⟨0, 0⟩, 0, 0⟩).isNone = b := ⟨_, rfl⟩
    have HBB2 := Lib.hid hb2
    clear hb2
    have HST2 : Hid (Stay (PErr b2 (n + 1))) := Lib.hid (stay_err _ _)
    have HRUN2 : Hid (∀ g c w', Kept (fun _ => False) w3 w' → Elems w' w'.heap.size (some ⟨g, 0, none⟩) 7 Ev.cells (L ++ [⟨1, k, nw, ⟨0, 0⟩, 0, 0⟩]) → Calls Tryz.prog 11 #[x.agg, .slice (some ⟨g, 0, none⟩) ((n + 1) + 1) c] w' fun e w'' => ∃ a b, e = .returned (.tuple #[a, b]) ∧ PErr b2 (n + 1) w'' b ∧ Kept (fun _ => False) w' w'') := Lib.hid (fun g c w' hk hE => run_more x L ⟨1, k, nw, ⟨0, 0⟩, 0, 0⟩ _ HN.out (by omega) H64.out ⟨HNW.out, (by show (-9223372036854775808 : Int) ≤ 0; decide), (by show (0 : Int) ≤ 9223372036854775807; decide)⟩ HLG.out.1 HLG.out.2 HG.out _ HBB2.out w' _ c (HXw3.out w' hk) hE)
    have HSAa : Hid (StayAll [PEq x.agg, PNil w3.heap.size, PEq (.slice (some ⟨ga, off, none⟩) (n + 1) cap), POwn w3.heap.size (n + 1) L, PEq (.int .i64 k), PEq (.int .i64 nw), PEq ((⟨3, k, nw, ⟨0, 0⟩, 0, 0⟩ : Ev).agg), PLit ⟨3, k, nw, ⟨0, 0⟩, 0, 0⟩, PAll ((n + 1) + 1) (L ++ [⟨3, k, nw, ⟨0, 0⟩, 0, 0⟩]), PTwo (PErr b1 (n + 1)), PTwo (PErr b1 (n + 1)), PAny, (PErr b1 (n + 1)), PAny, (PErr b1 (n + 1))]) := Lib.hid ⟨stay_eq _, stay_nil _, stay_eq _, stay_own _ _ _, stay_eq _, stay_eq _, stay_eq _, stay_lit _, stay_all _ _, stay_two HST1.out, stay_two HST1.out, stay_anyR, HST1.out, stay_anyR, HST1.out, trivial⟩
    have HPEa : Hid (∀ jq, jq < 7 → jq ≠ 1 → jq ≠ 3 → ∀ P, ([PEq x.agg, PNil w3.heap.size, PEq (.slice (some ⟨ga, off, none⟩) (n + 1) cap), POwn w3.heap.size (n + 1) L, PEq (.int .i64 k), PEq (.int .i64 nw), PEq ((⟨3, k, nw, ⟨0, 0⟩, 0, 0⟩ : Ev).agg), PLit ⟨3, k, nw, ⟨0, 0⟩, 0, 0⟩, PAll ((n + 1) + 1) (L ++ [⟨3, k, nw, ⟨0, 0⟩, 0, 0⟩]), PTwo (PErr b1 (n + 1)), PTwo (PErr b1 (n + 1)), PAny, (PErr b1 (n + 1)), PAny, (PErr b1 (n + 1))] : List (World → Value → Prop))[jq]? = some P → ∃ c, P = PEq c) := Lib.hid (fun jq h1 h2 h3 P hP => by
      have hj : jq = 0 ∨ jq = 2 ∨ jq = 4 ∨ jq = 5 ∨ jq = 6 := by omega
      rcases hj with rfl | rfl | rfl | rfl | rfl <;> (simp only [List.getElem?_cons_zero, List.getElem?_cons_succ, Option.some.injEq] at hP; exact ⟨_, hP.symm⟩))
    refine wp_region_any (by kernel_rfl) (wpAny_inv (fun l a w' => ∃ v0 v1 v2 v3 v4 v5 v6 v7 v8 v9 v10 v11 v12 v13 v14, a = ⟨#[x.agg, Value.slice (some ⟨ga, off, none⟩) (n + 1) cap, Value.int IntKind.i64 (k : Int), Value.pointer (some ⟨w.heap.size, 0, none⟩), undef, undef, Value.bool false, Value.bool true, Value.bool true, Value.slice (some ⟨g, 0, none⟩) nt nt, Value.int IntKind.i64 nw, v13, v14, undef, undef, Value.bool true, Value.agg #[Value.slice x.os x.obs.length x.oc, Value.slice x.ps x.prs.length x.pc, Value.slice x.ks x.pis.length x.kc], Value.bool true, Value.bool true, Value.bool false, Value.bool false, Value.slice (some ⟨ga, off, none⟩) (n + 1) cap, Value.int IntKind.i64 ((n : Int) + 1), Value.bool (decide (5000 < (n : Int) + 1)), Value.bool (decide (5000 < (n : Int) + 1)), undef, Value.agg #[Value.slice x.os x.obs.length x.oc, Value.slice x.ps x.prs.length x.pc, Value.slice x.ks x.pis.length x.kc], Value.slice (some ⟨ga, off, none⟩) (n + 1) cap, Value.slice (some ⟨g, 0, none⟩) nt nt, Value.int IntKind.i64 (k : Int), Value.bool (decide ((k : Int) < 0)), Value.bool (decide ((k : Int) < 0)), Value.int IntKind.i64 (k : Int), Value.slice (some ⟨g, 0, none⟩) nt nt, Value.int IntKind.i64 (nt : Int), Value.bool (decide (nt ≤ k)), Value.bool (decide ((k : Int) < 0) || decide (nt ≤ k)), undef, Value.slice (some ⟨ga, off, none⟩) (n + 1) cap, Value.int IntKind.i64 ((n : Int) + 1), Value.bool true, Value.slice (some ⟨ga, off, none⟩) (n + 1) cap, Value.slice (some ⟨ga, off, none⟩) (n + 1) cap, Value.int IntKind.i64 ((n : Int) + 1), Value.int IntKind.i64 (n : Int), Value.pointer (some ⟨ga, off + n * 7, none⟩), Value.pointer (some ⟨ga, off + n * 7 + 2, none⟩), Value.int IntKind.i64 nw, v10, v0, v1, v2, v3, v4, v5, v6, v7, v8, v9, v11, v12, undef, undef, undef, undef, undef, undef, undef, undef, undef, undef, undef, undef, undef, undef, undef, undef, undef, undef, undef, undef, undef, undef, undef, undef, undef, undef, undef, undef], []⟩ ∧ AG w3 [PEq x.agg, PNil w3.heap.size, PEq (.slice (some ⟨ga, off, none⟩) (n + 1) cap), POwn w3.heap.size (n + 1) L, PEq (.int .i64 k), PEq (.int .i64 nw), PEq ((⟨3, k, nw, ⟨0, 0⟩, 0, 0⟩ : Ev).agg), PLit ⟨3, k, nw, ⟨0, 0⟩, 0, 0⟩, PAll ((n + 1) + 1) (L ++ [⟨3, k, nw, ⟨0, 0⟩, 0, 0⟩]), PTwo (PErr b1 (n + 1)), PTwo (PErr b1 (n + 1)), PAny, (PErr b1 (n + 1)), PAny, (PErr b1 (n + 1))] 7 l w' [v0, v1, v2, v3, v4, v5, v6, v7, v8, v9, v10, v11, v12, v13, v14]) ?hstepa ?henda _ _ _ _ (by simp) (by simp) ?hstarta)
    case hstarta =>
      exact ⟨_, _, _, _, _, _, _, _, _, _, _, _, _, _, _, rfl, ⟨(Kept.refl _ _).drew, fun i P v _ hv hf _ => (flag_none hf).elim, fun h => (flag_none h).elim, fun i _ h => (flag_none h).elim⟩⟩
    case hstepa =>
      rintro l a wr i hs ⟨v0, v1, v2, v3, v4, v5, v6, v7, v8, v9, v10, v11, v12, v13, v14, rfl, F⟩ hi
      have hs' : l.size = 15 := hs
      obtain ⟨hlt, hu, hd⟩ := ready_of hi
      have hlt' : i < 15 := hlt
      have hset : ∀ j, (l.setIfInBounds i true).getD j false = if j = i then true else l.getD j false := fun j => getD_set (by omega)
      have hu' := flag_false hu
      have HSET := Lib.hid hset
      clear hi hlt hu hset
      have hi : i = 0 ∨ i = 1 ∨ i = 2 ∨ i = 3 ∨ i = 4 ∨ i = 5 ∨ i = 6 ∨ i = 7 ∨ i = 8 ∨ i = 9 ∨ i = 10 ∨ i = 11 ∨ i = 12 ∨ i = 13 ∨ i = 14 := by omega
      clear hlt'
      obtain ⟨p0, p1, p2⟩ := HBw3.out wr F.kept
      rcases hi with rfl | rfl | rfl | rfl | rfl | rfl | rfl | rfl | rfl | rfl | rfl | rfl | rfl | rfl | rfl
      · refine wpOp_open rfl (fun K hK => ?_)
        go_simp
        exact hK.out _ _ ⟨_, _, _, _, _, _, _, _, _, _, _, _, _, _, _, rfl, F.step HSAa.out 0 HSET.out (Kept.refl _ _) _ rfl _ rfl (fun h => absurd h (by decide)) (fun h => absurd h (by decide))⟩
      · refine wpOp_open rfl (fun K hK => ?_)
        go_simp
        exact hK.out _ _ ⟨_, _, _, _, _, _, _, _, _, _, _, _, _, _, _, rfl, F.step HSAa.out 1 HSET.out (((Kept.refl _ _).alloc _)) _ rfl _ ((nil_new _).le F.kept.size) (fun h => absurd h (by decide)) (fun h => absurd h (by decide))⟩
      · refine wpOp_open rfl (fun K hK => ?_)
        go_simp
        exact hK.out _ _ ⟨_, _, _, _, _, _, _, _, _, _, _, _, _, _, _, rfl, F.step HSAa.out 2 HSET.out (Kept.refl _ _) _ rfl _ rfl (fun h => absurd h (by decide)) (fun h => absurd h (by decide))⟩
      · have d1 : l.getD 1 false = true := by simp [Region.binds] at hd; simp [hd]
        have z1 := F.at_ 1 _ _ rfl rfl d1 hu'
        have d2 : l.getD 2 false = true := by simp [Region.binds] at hd; simp [hd]
        obtain rfl := F.at_ 2 _ _ rfl rfl d2 (flag_out (by rw [hs']; decide))
        refine wpOp_open rfl (fun K hK => ?_)
        refine step_own (w3 := w3) (L := L) (m := (n + 1)) _ _ F.kept z1 HEw3.out HN.out (by omega) rfl rfl rfl rfl ?_
        intro b v' w' hb hO hk hkb
        exact hK.out _ _ ⟨_, _, _, _, _, _, _, _, _, _, _, _, _, _, _, rfl, F.own HSET.out hk hu' HPEa.out rfl (by decide) hb hkb _ rfl _ hO⟩
      · refine wpOp_open rfl (fun K hK => ?_)
        go_simp
        exact hK.out _ _ ⟨_, _, _, _, _, _, _, _, _, _, _, _, _, _, _, rfl, F.step HSAa.out 4 HSET.out (Kept.refl _ _) _ rfl _ rfl (fun h => absurd h (by decide)) (fun h => absurd h (by decide))⟩
      · refine wpOp_open rfl (fun K hK => ?_)
        go_simp
        exact hK.out _ _ ⟨_, _, _, _, _, _, _, _, _, _, _, _, _, _, _, rfl, F.step HSAa.out 5 HSET.out (Kept.refl _ _) _ rfl _ rfl (fun h => absurd h (by decide)) (fun h => absurd h (by decide))⟩
      · have d4 : l.getD 4 false = true := by simp [Region.binds] at hd; simp [hd]
        obtain rfl := F.at_ 4 _ _ rfl rfl d4 (flag_out (by rw [hs']; decide))
        have d5 : l.getD 5 false = true := by simp [Region.binds] at hd; simp [hd]
        obtain rfl := F.at_ 5 _ _ rfl rfl d5 (flag_out (by rw [hs']; decide))
        refine wpOp_open rfl (fun K hK => ?_)
        go_simp
        exact hK.out _ _ ⟨_, _, _, _, _, _, _, _, _, _, _, _, _, _, _, rfl, F.step HSAa.out 6 HSET.out (Kept.refl _ _) _ rfl _ rfl (fun h => absurd h (by decide)) (fun h => absurd h (by decide))⟩
      · have d6 : l.getD 6 false = true := by simp [Region.binds] at hd; simp [hd]
        obtain rfl := F.at_ 6 _ _ rfl rfl d6 (flag_out (by rw [hs']; decide))
        refine wpOp_open rfl (fun K hK => ?_)
        go_simp
        exact hK.out _ _ ⟨_, _, _, _, _, _, _, _, _, _, _, _, _, _, _, rfl, F.step HSAa.out 7 HSET.out (((Kept.refl _ _).alloc _)) _ rfl _ (lit_new _ ⟨3, k, nw, ⟨0, 0⟩, 0, 0⟩) (fun h => absurd h (by decide)) (fun h => absurd h (by decide))⟩
      · have d3 : l.getD 3 false = true := by simp [Region.binds] at hd; simp [hd]
        have z3 := F.at_ 3 _ _ rfl rfl d3 hu'
        have d7 : l.getD 7 false = true := by simp [Region.binds] at hd; simp [hd]
        have z7 := F.at_ 7 _ _ rfl rfl d7 hu'
        refine wpOp_open rfl (fun K hK => ?_)
        refine step_all (w3 := w3) (L := L) (m := (n + 1)) (ev := ⟨3, k, nw, ⟨0, 0⟩, 0, 0⟩) _ _ F.kept z3 z7 (by omega) rfl rfl rfl rfl ?_
        intro v' w' hA hk
        exact hK.out _ _ ⟨_, _, _, _, _, _, _, _, _, _, _, _, _, _, _, rfl, F.all HSET.out hk hu' d3 HPEa.out (by decide) _ rfl _ hA⟩
      · have d0 : l.getD 0 false = true := by simp [Region.binds] at hd; simp [hd]
        obtain rfl := F.at_ 0 _ _ rfl rfl d0 (flag_out (by rw [hs']; decide))
        have d8 : l.getD 8 false = true := by simp [Region.binds] at hd; simp [hd]
        have z8 := F.at_ 8 _ _ rfl rfl d8 (flag_out (by rw [hs']; decide))
        obtain ⟨g, c, rfl, hE⟩ := z8
        refine wpOp_open rfl (fun K hK => ?_)
        refine step_call (by rfl) 11 #[x.agg, .slice (some ⟨g, 0, none⟩) ((n + 1) + 1) c] (by kernel_rfl) (P := fun v w' => PTwo (PErr b1 (n + 1)) w' v ∧ Kept (fun _ => False) wr w') (HRUN1.out g c wr F.kept hE) (fun e w' hh => by obtain ⟨a, b, he, hr, hk⟩ := hh; exact ⟨_, he, ⟨a, b, rfl, hr⟩, hk⟩) ?_
        rintro v' w' ⟨hv, hk⟩
        exact hK.out _ _ ⟨_, _, _, _, _, _, _, _, _, _, _, _, _, _, _, rfl, F.step HSAa.out 9 HSET.out (hk) _ rfl _ hv (fun h => absurd h (by decide)) (fun _ => d8)⟩
      · have d9 : l.getD 9 false = true := by simp [Region.binds] at hd; simp [hd]
        have z9 := F.at_ 9 _ _ rfl rfl d9 (flag_out (by rw [hs']; decide))
        obtain ⟨ra, rb, rfl, hr⟩ := z9
        refine wpOp_open rfl (fun K hK => ?_)
        go_simp
        have d8 := F.late 9 (by decide) d9
        exact hK.out _ _ ⟨_, _, _, _, _, _, _, _, _, _, _, _, _, _, _, rfl, F.step HSAa.out 10 HSET.out (Kept.refl _ _) _ rfl _ ⟨ra, rb, rfl, hr⟩ (fun h => absurd h (by decide)) (fun _ => d8)⟩
      · have d10 : l.getD 10 false = true := by simp [Region.binds] at hd; simp [hd]
        have z10 := F.at_ 10 _ _ rfl rfl d10 (flag_out (by rw [hs']; decide))
        obtain ⟨ra, rb, rfl, hr⟩ := z10
        refine wpOp_open rfl (fun K hK => ?_)
        go_simp
        have d8 := F.late 10 (by decide) d10
        exact hK.out _ _ ⟨_, _, _, _, _, _, _, _, _, _, _, _, _, _, _, rfl, F.step HSAa.out 11 HSET.out (Kept.refl _ _) _ rfl _ trivial (fun h => absurd h (by decide)) (fun _ => d8)⟩
      · have d10 : l.getD 10 false = true := by simp [Region.binds] at hd; simp [hd]
        have z10 := F.at_ 10 _ _ rfl rfl d10 (flag_out (by rw [hs']; decide))
        obtain ⟨ra, rb, rfl, hr⟩ := z10
        refine wpOp_open rfl (fun K hK => ?_)
        go_simp
        have d8 := F.late 10 (by decide) d10
        exact hK.out _ _ ⟨_, _, _, _, _, _, _, _, _, _, _, _, _, _, _, rfl, F.step HSAa.out 12 HSET.out (Kept.refl _ _) _ rfl _ hr (fun h => absurd h (by decide)) (fun _ => d8)⟩
      · have d11 : l.getD 11 false = true := by simp [Region.binds] at hd; simp [hd]
        have z11 := F.at_ 11 _ _ rfl rfl d11 (flag_out (by rw [hs']; decide))
        refine wpOp_open rfl (fun K hK => ?_)
        go_simp
        have d8 := F.late 11 (by decide) d11
        exact hK.out _ _ ⟨_, _, _, _, _, _, _, _, _, _, _, _, _, _, _, rfl, F.step HSAa.out 13 HSET.out (Kept.refl _ _) _ rfl _ z11 (fun h => absurd h (by decide)) (fun _ => d8)⟩
      · have d12 : l.getD 12 false = true := by simp [Region.binds] at hd; simp [hd]
        have z12 := F.at_ 12 _ _ rfl rfl d12 (flag_out (by rw [hs']; decide))
        refine wpOp_open rfl (fun K hK => ?_)
        go_simp
        have d8 := F.late 12 (by decide) d12
        exact hK.out _ _ ⟨_, _, _, _, _, _, _, _, _, _, _, _, _, _, _, rfl, F.step HSAa.out 14 HSET.out (Kept.refl _ _) _ rfl _ z12 (fun h => absurd h (by decide)) (fun _ => d8)⟩
    case henda =>
      rintro l a wr hs ⟨v0a, v1a, v2a, v3a, v4a, v5a, v6a, v7a, v8a, v9a, v10a, v11a, v12a, v13a, v14a, rfl, F⟩ hr
      have hs' : l.size = 15 := hs
      have HAR := all_ready2 hs (by kernel_rfl) hr
      have hR := F.at_ 14 _ _ rfl rfl (HAR 14 (by decide)) (flag_out (by rw [hs']; decide))
      have hK := F.kept
      clear F hr hs hs' HSAa HPEa HAR
      have HR1 := Lib.hid hR
      have HW4 := Lib.hid hK
      clear hR hK p0 p1 p2
      obtain ⟨p0, p1, p2⟩ := HBw3.out wr HW4.out
      go_wp2_with fail
      obtain ⟨w4, hw4⟩ : ∃ z, z = wr := ⟨_, rfl⟩
      subst hw4
      have HK4 := Lib.hid (HK3.out.tr0 HW4.out)
      have HBw4 : Hid (∀ w', Kept (fun _ => False) w4 w' → w'.cell? ⟨w.heap.size, 0, none⟩ = some (.slice x.os x.obs.length x.oc) ∧ w'.cell? ⟨w.heap.size, 1, none⟩ = some (.slice x.ps x.prs.length x.pc) ∧ w'.cell? ⟨w.heap.size, 2, none⟩ = some (.slice x.ks x.pis.length x.kc)) := Lib.hid (fun w' hk => HP.out w' (HK4.out.tr0 hk))
      have HXw4 : Hid (∀ w', Kept (fun _ => False) w4 w' → Lies w' w'.heap.size x) := Lib.hid (fun w' hk => HX.out w' (HK4.out.tr0 hk))
      have HEw4 : Hid (∀ w', Kept (fun _ => False) w4 w' → Elems w' w'.heap.size (some ⟨ga, off, none⟩) 7 Ev.cells L) := Lib.hid (fun w' hk => HE.out w' (HK4.out.tr0 hk))
      have HRUN4 : Hid (∀ g c w', Kept (fun _ => False) w4 w' → Elems w' w'.heap.size (some ⟨g, 0, none⟩) 7 Ev.cells (L ++ [⟨1, k, nw, ⟨0, 0⟩, 0, 0⟩]) → Calls Tryz.prog 11 #[x.agg, .slice (some ⟨g, 0, none⟩) ((n + 1) + 1) c] w' fun e w'' => ∃ a b, e = .returned (.tuple #[a, b]) ∧ PErr b2 (n + 1) w'' b ∧ Kept (fun _ => False) w' w'') := Lib.hid (fun g c w' hk => HRUN2.out g c w' (HW4.out.tr0 hk))
      clear HST1 HRUN1 HRUN2
      have HSAb : Hid (StayAll [PEq x.agg, PNil w4.heap.size, PEq (.slice (some ⟨ga, off, none⟩) (n + 1) cap), POwn w4.heap.size (n + 1) L, PEq (.int .i64 k), PEq (.int .i64 nw), PEq ((⟨1, k, nw, ⟨0, 0⟩, 0, 0⟩ : Ev).agg), PLit ⟨1, k, nw, ⟨0, 0⟩, 0, 0⟩, PAll ((n + 1) + 1) (L ++ [⟨1, k, nw, ⟨0, 0⟩, 0, 0⟩]), PTwo (PErr b2 (n + 1)), PTwo (PErr b2 (n + 1)), PAny, (PErr b2 (n + 1)), PAny, (PErr b2 (n + 1))]) := Lib.hid ⟨stay_eq _, stay_nil _, stay_eq _, stay_own _ _ _, stay_eq _, stay_eq _, stay_eq _, stay_lit _, stay_all _ _, stay_two HST2.out, stay_two HST2.out, stay_anyR, HST2.out, stay_anyR, HST2.out, trivial⟩
      have HPEb : Hid (∀ jq, jq < 7 → jq ≠ 1 → jq ≠ 3 → ∀ P, ([PEq x.agg, PNil w4.heap.size, PEq (.slice (some ⟨ga, off, none⟩) (n + 1) cap), POwn w4.heap.size (n + 1) L, PEq (.int .i64 k), PEq (.int .i64 nw), PEq ((⟨1, k, nw, ⟨0, 0⟩, 0, 0⟩ : Ev).agg), PLit ⟨1, k, nw, ⟨0, 0⟩, 0, 0⟩, PAll ((n + 1) + 1) (L ++ [⟨1, k, nw, ⟨0, 0⟩, 0, 0⟩]), PTwo (PErr b2 (n + 1)), PTwo (PErr b2 (n + 1)), PAny, (PErr b2 (n + 1)), PAny, (PErr b2 (n + 1))] : List (World → Value → Prop))[jq]? = some P → ∃ c, P = PEq c) := Lib.hid (fun jq h1 h2 h3 P hP => by
        have hj : jq = 0 ∨ jq = 2 ∨ jq = 4 ∨ jq = 5 ∨ jq = 6 := by omega
        rcases hj with rfl | rfl | rfl | rfl | rfl <;> (simp only [List.getElem?_cons_zero, List.getElem?_cons_succ, Option.some.injEq] at hP; exact ⟨_, hP.symm⟩))
      refine wp_region_any (by kernel_rfl) (wpAny_inv (fun l a w' => ∃ v0 v1 v2 v3 v4 v5 v6 v7 v8 v9 v10 v11 v12 v13 v14, a = ⟨#[x.agg, Value.slice (some ⟨ga, off, none⟩) (n + 1) cap, Value.int IntKind.i64 (k : Int), Value.pointer (some ⟨w.heap.size, 0, none⟩), undef, undef, Value.bool false, Value.bool true, Value.bool true, Value.slice (some ⟨g, 0, none⟩) nt nt, Value.int IntKind.i64 nw, v13a, v14a, v13, v14, Value.bool true, Value.agg #[Value.slice x.os x.obs.length x.oc, Value.slice x.ps x.prs.length x.pc, Value.slice x.ks x.pis.length x.kc], Value.bool true, Value.bool true, Value.bool false, Value.bool false, Value.slice (some ⟨ga, off, none⟩) (n + 1) cap, Value.int IntKind.i64 ((n : Int) + 1), Value.bool (decide (5000 < (n : Int) + 1)), Value.bool (decide (5000 < (n : Int) + 1)), undef, Value.agg #[Value.slice x.os x.obs.length x.oc, Value.slice x.ps x.prs.length x.pc, Value.slice x.ks x.pis.length x.kc], Value.slice (some ⟨ga, off, none⟩) (n + 1) cap, Value.slice (some ⟨g, 0, none⟩) nt nt, Value.int IntKind.i64 (k : Int), Value.bool (decide ((k : Int) < 0)), Value.bool (decide ((k : Int) < 0)), Value.int IntKind.i64 (k : Int), Value.slice (some ⟨g, 0, none⟩) nt nt, Value.int IntKind.i64 (nt : Int), Value.bool (decide (nt ≤ k)), Value.bool (decide ((k : Int) < 0) || decide (nt ≤ k)), undef, Value.slice (some ⟨ga, off, none⟩) (n + 1) cap, Value.int IntKind.i64 ((n : Int) + 1), Value.bool true, Value.slice (some ⟨ga, off, none⟩) (n + 1) cap, Value.slice (some ⟨ga, off, none⟩) (n + 1) cap, Value.int IntKind.i64 ((n : Int) + 1), Value.int IntKind.i64 (n : Int), Value.pointer (some ⟨ga, off + n * 7, none⟩), Value.pointer (some ⟨ga, off + n * 7 + 2, none⟩), Value.int IntKind.i64 nw, v10a, v0a, v1a, v2a, v3a, v4a, v5a, v6a, v7a, v8a, v9a, v11a, v12a, v10, v0, v1, v2, v3, v4, v5, v6, v7, v8, v9, v11, v12, undef, undef, undef, undef, undef, undef, undef, undef, undef, undef, undef, undef, undef, undef, undef], []⟩ ∧ AG w4 [PEq x.agg, PNil w4.heap.size, PEq (.slice (some ⟨ga, off, none⟩) (n + 1) cap), POwn w4.heap.size (n + 1) L, PEq (.int .i64 k), PEq (.int .i64 nw), PEq ((⟨1, k, nw, ⟨0, 0⟩, 0, 0⟩ : Ev).agg), PLit ⟨1, k, nw, ⟨0, 0⟩, 0, 0⟩, PAll ((n + 1) + 1) (L ++ [⟨1, k, nw, ⟨0, 0⟩, 0, 0⟩]), PTwo (PErr b2 (n + 1)), PTwo (PErr b2 (n + 1)), PAny, (PErr b2 (n + 1)), PAny, (PErr b2 (n + 1))] 7 l w' [v0, v1, v2, v3, v4, v5, v6, v7, v8, v9, v10, v11, v12, v13, v14]) ?hstepb ?hendb _ _ _ _ (by simp) (by simp) ?hstartb)
      case hstartb =>
        exact ⟨_, _, _, _, _, _, _, _, _, _, _, _, _, _, _, rfl, ⟨(Kept.refl _ _).drew, fun i P v _ hv hf _ => (flag_none hf).elim, fun h => (flag_none h).elim, fun i _ h => (flag_none h).elim⟩⟩
      case hstepb =>
        rintro l a wr i hs ⟨v0, v1, v2, v3, v4, v5, v6, v7, v8, v9, v10, v11, v12, v13, v14, rfl, F⟩ hi
        have hs' : l.size = 15 := hs
        obtain ⟨hlt, hu, hd⟩ := ready_of hi
        have hlt' : i < 15 := hlt
        have hset : ∀ j, (l.setIfInBounds i true).getD j false = if j = i then true else l.getD j false := fun j => getD_set (by omega)
        have hu' := flag_false hu
        have HSET := Lib.hid hset
        clear hi hlt hu hset
        have hi : i = 0 ∨ i = 1 ∨ i = 2 ∨ i = 3 ∨ i = 4 ∨ i = 5 ∨ i = 6 ∨ i = 7 ∨ i = 8 ∨ i = 9 ∨ i = 10 ∨ i = 11 ∨ i = 12 ∨ i = 13 ∨ i = 14 := by omega
        clear hlt'
        obtain ⟨p0, p1, p2⟩ := HBw4.out wr F.kept
        rcases hi with rfl | rfl | rfl | rfl | rfl | rfl | rfl | rfl | rfl | rfl | rfl | rfl | rfl | rfl | rfl
        · refine wpOp_open rfl (fun K hK => ?_)
          go_simp
          exact hK.out _ _ ⟨_, _, _, _, _, _, _, _, _, _, _, _, _, _, _, rfl, F.step HSAb.out 0 HSET.out (Kept.refl _ _) _ rfl _ rfl (fun h => absurd h (by decide)) (fun h => absurd h (by decide))⟩
        · refine wpOp_open rfl (fun K hK => ?_)
          go_simp
          exact hK.out _ _ ⟨_, _, _, _, _, _, _, _, _, _, _, _, _, _, _, rfl, F.step HSAb.out 1 HSET.out (((Kept.refl _ _).alloc _)) _ rfl _ ((nil_new _).le F.kept.size) (fun h => absurd h (by decide)) (fun h => absurd h (by decide))⟩
        · refine wpOp_open rfl (fun K hK => ?_)
          go_simp
          exact hK.out _ _ ⟨_, _, _, _, _, _, _, _, _, _, _, _, _, _, _, rfl, F.step HSAb.out 2 HSET.out (Kept.refl _ _) _ rfl _ rfl (fun h => absurd h (by decide)) (fun h => absurd h (by decide))⟩
        · have d1 : l.getD 1 false = true := by simp [Region.binds] at hd; simp [hd]
          have z1 := F.at_ 1 _ _ rfl rfl d1 hu'
          have d2 : l.getD 2 false = true := by simp [Region.binds] at hd; simp [hd]
          obtain rfl := F.at_ 2 _ _ rfl rfl d2 (flag_out (by rw [hs']; decide))
          refine wpOp_open rfl (fun K hK => ?_)
          refine step_own (w3 := w4) (L := L) (m := (n + 1)) _ _ F.kept z1 HEw4.out HN.out (by omega) rfl rfl rfl rfl ?_
          intro b v' w' hb hO hk hkb
          exact hK.out _ _ ⟨_, _, _, _, _, _, _, _, _, _, _, _, _, _, _, rfl, F.own HSET.out hk hu' HPEb.out rfl (by decide) hb hkb _ rfl _ hO⟩
        · refine wpOp_open rfl (fun K hK => ?_)
          go_simp
          exact hK.out _ _ ⟨_, _, _, _, _, _, _, _, _, _, _, _, _, _, _, rfl, F.step HSAb.out 4 HSET.out (Kept.refl _ _) _ rfl _ rfl (fun h => absurd h (by decide)) (fun h => absurd h (by decide))⟩
        · refine wpOp_open rfl (fun K hK => ?_)
          go_simp
          exact hK.out _ _ ⟨_, _, _, _, _, _, _, _, _, _, _, _, _, _, _, rfl, F.step HSAb.out 5 HSET.out (Kept.refl _ _) _ rfl _ rfl (fun h => absurd h (by decide)) (fun h => absurd h (by decide))⟩
        · have d4 : l.getD 4 false = true := by simp [Region.binds] at hd; simp [hd]
          obtain rfl := F.at_ 4 _ _ rfl rfl d4 (flag_out (by rw [hs']; decide))
          have d5 : l.getD 5 false = true := by simp [Region.binds] at hd; simp [hd]
          obtain rfl := F.at_ 5 _ _ rfl rfl d5 (flag_out (by rw [hs']; decide))
          refine wpOp_open rfl (fun K hK => ?_)
          go_simp
          exact hK.out _ _ ⟨_, _, _, _, _, _, _, _, _, _, _, _, _, _, _, rfl, F.step HSAb.out 6 HSET.out (Kept.refl _ _) _ rfl _ rfl (fun h => absurd h (by decide)) (fun h => absurd h (by decide))⟩
        · have d6 : l.getD 6 false = true := by simp [Region.binds] at hd; simp [hd]
          obtain rfl := F.at_ 6 _ _ rfl rfl d6 (flag_out (by rw [hs']; decide))
          refine wpOp_open rfl (fun K hK => ?_)
          go_simp
          exact hK.out _ _ ⟨_, _, _, _, _, _, _, _, _, _, _, _, _, _, _, rfl, F.step HSAb.out 7 HSET.out (((Kept.refl _ _).alloc _)) _ rfl _ (lit_new _ ⟨1, k, nw, ⟨0, 0⟩, 0, 0⟩) (fun h => absurd h (by decide)) (fun h => absurd h (by decide))⟩
        · have d3 : l.getD 3 false = true := by simp [Region.binds] at hd; simp [hd]
          have z3 := F.at_ 3 _ _ rfl rfl d3 hu'
          have d7 : l.getD 7 false = true := by simp [Region.binds] at hd; simp [hd]
          have z7 := F.at_ 7 _ _ rfl rfl d7 hu'
          refine wpOp_open rfl (fun K hK => ?_)
          refine step_all (w3 := w4) (L := L) (m := (n + 1)) (ev := ⟨1, k, nw, ⟨0, 0⟩, 0, 0⟩) _ _ F.kept z3 z7 (by omega) rfl rfl rfl rfl ?_
          intro v' w' hA hk
          exact hK.out _ _ ⟨_, _, _, _, _, _, _, _, _, _, _, _, _, _, _, rfl, F.all HSET.out hk hu' d3 HPEb.out (by decide) _ rfl _ hA⟩
        · have d0 : l.getD 0 false = true := by simp [Region.binds] at hd; simp [hd]
          obtain rfl := F.at_ 0 _ _ rfl rfl d0 (flag_out (by rw [hs']; decide))
          have d8 : l.getD 8 false = true := by simp [Region.binds] at hd; simp [hd]
          have z8 := F.at_ 8 _ _ rfl rfl d8 (flag_out (by rw [hs']; decide))
          obtain ⟨g, c, rfl, hE⟩ := z8
          refine wpOp_open rfl (fun K hK => ?_)
          refine step_call (by rfl) 11 #[x.agg, .slice (some ⟨g, 0, none⟩) ((n + 1) + 1) c] (by kernel_rfl) (P := fun v w' => PTwo (PErr b2 (n + 1)) w' v ∧ Kept (fun _ => False) wr w') (HRUN4.out g c wr F.kept hE) (fun e w' hh => by obtain ⟨a, b, he, hr, hk⟩ := hh; exact ⟨_, he, ⟨a, b, rfl, hr⟩, hk⟩) ?_
          rintro v' w' ⟨hv, hk⟩
          exact hK.out _ _ ⟨_, _, _, _, _, _, _, _, _, _, _, _, _, _, _, rfl, F.step HSAb.out 9 HSET.out (hk) _ rfl _ hv (fun h => absurd h (by decide)) (fun _ => d8)⟩
        · have d9 : l.getD 9 false = true := by simp [Region.binds] at hd; simp [hd]
          have z9 := F.at_ 9 _ _ rfl rfl d9 (flag_out (by rw [hs']; decide))
          obtain ⟨ra, rb, rfl, hr⟩ := z9
          refine wpOp_open rfl (fun K hK => ?_)
          go_simp
          have d8 := F.late 9 (by decide) d9
          exact hK.out _ _ ⟨_, _, _, _, _, _, _, _, _, _, _, _, _, _, _, rfl, F.step HSAb.out 10 HSET.out (Kept.refl _ _) _ rfl _ ⟨ra, rb, rfl, hr⟩ (fun h => absurd h (by decide)) (fun _ => d8)⟩
        · have d10 : l.getD 10 false = true := by simp [Region.binds] at hd; simp [hd]
          have z10 := F.at_ 10 _ _ rfl rfl d10 (flag_out (by rw [hs']; decide))
          obtain ⟨ra, rb, rfl, hr⟩ := z10
          refine wpOp_open rfl (fun K hK => ?_)
          go_simp
          have d8 := F.late 10 (by decide) d10
          exact hK.out _ _ ⟨_, _, _, _, _, _, _, _, _, _, _, _, _, _, _, rfl, F.step HSAb.out 11 HSET.out (Kept.refl _ _) _ rfl _ trivial (fun h => absurd h (by decide)) (fun _ => d8)⟩
        · have d10 : l.getD 10 false = true := by simp [Region.binds] at hd; simp [hd]
          have z10 := F.at_ 10 _ _ rfl rfl d10 (flag_out (by rw [hs']; decide))
          obtain ⟨ra, rb, rfl, hr⟩ := z10
          refine wpOp_open rfl (fun K hK => ?_)
          go_simp
          have d8 := F.late 10 (by decide) d10
          exact hK.out _ _ ⟨_, _, _, _, _, _, _, _, _, _, _, _, _, _, _, rfl, F.step HSAb.out 12 HSET.out (Kept.refl _ _) _ rfl _ hr (fun h => absurd h (by decide)) (fun _ => d8)⟩
        · have d11 : l.getD 11 false = true := by simp [Region.binds] at hd; simp [hd]
          have z11 := F.at_ 11 _ _ rfl rfl d11 (flag_out (by rw [hs']; decide))
          refine wpOp_open rfl (fun K hK => ?_)
          go_simp
          have d8 := F.late 11 (by decide) d11
          exact hK.out _ _ ⟨_, _, _, _, _, _, _, _, _, _, _, _, _, _, _, rfl, F.step HSAb.out 13 HSET.out (Kept.refl _ _) _ rfl _ z11 (fun h => absurd h (by decide)) (fun _ => d8)⟩
        · have d12 : l.getD 12 false = true := by simp [Region.binds] at hd; simp [hd]
          have z12 := F.at_ 12 _ _ rfl rfl d12 (flag_out (by rw [hs']; decide))
          refine wpOp_open rfl (fun K hK => ?_)
          go_simp
          have d8 := F.late 12 (by decide) d12
          exact hK.out _ _ ⟨_, _, _, _, _, _, _, _, _, _, _, _, _, _, _, rfl, F.step HSAb.out 14 HSET.out (Kept.refl _ _) _ rfl _ z12 (fun h => absurd h (by decide)) (fun _ => d8)⟩
      case hendb =>
        rintro l a wr hs ⟨v0b, v1b, v2b, v3b, v4b, v5b, v6b, v7b, v8b, v9b, v10b, v11b, v12b, v13b, v14b, rfl, F⟩ hr
        have hs' : l.size = 15 := hs
        have HAR := all_ready2 hs (by kernel_rfl) hr
        have hR := F.at_ 14 _ _ rfl rfl (HAR 14 (by decide)) (flag_out (by rw [hs']; decide))
        have hK := F.kept
        clear F hr hs hs' HSAb HPEb HAR
        have HR2 := Lib.hid hR
        have HF := Lib.hid (HFIN.out wr (HK4.out.tr0 hK))
        have hrow := HROW.out.kept (HW4.out.tr0 hK) (fun f => f)
        have hcell := hrow.cell intC_one (i := k) (j := 0) (by rw [List.getElem?_map, HTR.out]; rfl) rfl
        rw [Nat.mul_one, Nat.add_zero] at hcell
        clear hR hK p0 p1 p2 hrow
        have hkl := HKN.out
        have k0 : (0 : Int) ≤ (k : Int) := by omega
        have k1 : (k : Int) < (nt : Int) := by omega
        obtain ⟨pd, hpd⟩ : ∃ pd, pendM tr = pd := ⟨_, rfl⟩
        rw [hpd] at hcell
        cases hcall : tr.call with
        | none =>
          have hpm : pd = -1 := by rw [← hpd]; unfold pendM; rw [hcall]
          subst hpm
          have hnone : (evM σ ⟨3, k, nw, ⟨0, 0⟩, 0, 0⟩).isNone = true := by rw [ev_idle (t := tr) (by simpa using HTR.out) hcall (.inr rfl)]; rfl
          have hr := HR1.out
          rw [← HBB1.out, hnone] at hr
          obtain ⟨ge, hge, _⟩ := hr
          subst hge
          clear hpd hcall hnone
          go_wp2_with fail
          go_ret
          exact ⟨rfl, HF.out⟩
        | some ca =>
          have hpm : 0 ≤ pd := by
            have hpos := ((HGOOD.out.th tr (List.mem_of_getElem? HTR.out)).call ca hcall).pos
            rw [← hpd]; unfold pendM; rw [hcall]
            simp only
            omega
          have hpm' : ¬ pd < 0 := by omega
          have hnone : (evM σ ⟨1, k, nw, ⟨0, 0⟩, 0, 0⟩).isNone = true := by rw [ev_busy (t := tr) (by simpa using HTR.out) hcall rfl]; rfl
          have hr := HR2.out
          rw [← HBB2.out, hnone] at hr
          obtain ⟨ge, hge, _⟩ := hr
          subst hge
          clear hpd hcall hnone hpm
          go_wp2_with fail
          go_ret
          exact ⟨rfl, HF.out⟩
  · obtain rfl : n = 0 := by omega
    have HNW : Hid ((0 : Int) ≤ 9223372036854775807) := Lib.hid (by decide)
    go_wp2_with fail
    have HKN := Lib.hid hkl
    clear hkl ht0 ht1
    try (rename 0 ≤ (k : Int) ∧ ¬ nt ≤ k => hz; clear hz)
    have HBw3 : Hid (∀ w', Kept (fun _ => False) w3 w' → w'.cell? ⟨w.heap.size, 0, none⟩ = some (.slice x.os x.obs.length x.oc) ∧ w'.cell? ⟨w.heap.size, 1, none⟩ = some (.slice x.ps x.prs.length x.pc) ∧ w'.cell? ⟨w.heap.size, 2, none⟩ = some (.slice x.ks x.pis.length x.kc)) := Lib.hid (fun w' hk => HP.out w' (HK3.out.tr0 hk))
    have HXw3 : Hid (∀ w', Kept (fun _ => False) w3 w' → Lies w' w'.heap.size x) := Lib.hid (fun w' hk => HX.out w' (HK3.out.tr0 hk))
    have HEw3 : Hid (∀ w', Kept (fun _ => False) w3 w' → Elems w' w'.heap.size s 7 Ev.cells L) := Lib.hid (fun w' hk => HE.out w' (HK3.out.tr0 hk))
    obtain ⟨b1, hb1⟩ : ∃ b, (evM σ ⟨3, k, 0, ⟨0, 0⟩, 0, 0⟩).isNone = b := ⟨_, rfl⟩
    have HBB1 := Lib.hid hb1
    clear hb1
    have HST1 : Hid (Stay (PErr b1 0)) := Lib.hid (stay_err _ _)
    have HRUN1 : Hid (∀ g c w', Kept (fun _ => False) w3 w' → Elems w' w'.heap.size (some ⟨g, 0, none⟩) 7 Ev.cells (L ++ [⟨3, k, 0, ⟨0, 0⟩, 0, 0⟩]) → Calls Tryz.prog 11 #[x.agg, .slice (some ⟨g, 0, none⟩) (0 + 1) c] w' fun e w'' => ∃ a b, e = .returned (.tuple #[a, b]) ∧ PErr b1 0 w'' b ∧ Kept (fun _ => False) w' w'') := Lib.hid (fun g c w' hk hE => run_more x L ⟨3, k, 0, ⟨0, 0⟩, 0, 0⟩ _ HN.out (by omega) H64.out ⟨HNW.out, (by show (-9223372036854775808 : Int) ≤ 0; decide), (by show (0 : Int) ≤ 9223372036854775807; decide)⟩ HLG.out.1 HLG.out.2 HG.out _ HBB1.out w' _ c (HXw3.out w' hk) hE)
    obtain ⟨b2, hb2⟩ : ∃ b, (evM σ ⟨1, k, 0, ⟨0, 0⟩, 0, 0⟩).isNone = b := ⟨_, rfl⟩
    have HBB2 := Lib.hid hb2
    clear hb2
    have HST2 : Hid (Stay (PErr b2 0)) := Lib.hid (stay_err _ _)
    have HRUN2 : Hid (∀ g c w', Kept (fun _ => False) w3 w' → Elems w' w'.heap.size (some ⟨g, 0, none⟩) 7 Ev.cells (L ++ [⟨1, k, 0, ⟨0, 0⟩, 0, 0⟩]) → Calls Tryz.prog 11 #[x.agg, .slice (some ⟨g, 0, none⟩) (0 + 1) c] w' fun e w'' => ∃ a b, e = .returned (.tuple #[a, b]) ∧ PErr b2 0 w'' b ∧ Kept (fun _ => False) w' w'') := Lib.hid (fun g c w' hk hE => run_more x L ⟨1, k, 0, ⟨0, 0⟩, 0, 0⟩ _ HN.out (by omega) H64.out ⟨HNW.out, (by show (-9223372036854775808 : Int) ≤ 0; decide), (by show (0 : Int) ≤ 9223372036854775807; decide)⟩ HLG.out.1 HLG.out.2 HG.out _ HBB2.out w' _ c (HXw3.out w' hk) hE)
    have HSAa : Hid (StayAll [PEq x.agg, PNil w3.heap.size, PEq (.slice s 0 cap), POwn w3.heap.size 0 L, PEq (.int .i64 k), PEq (.int .i64 0), PEq ((⟨3, k, 0, ⟨0, 0⟩, 0, 0⟩ : Ev).agg), PLit ⟨3, k, 0, ⟨0, 0⟩, 0, 0⟩, PAll (0 + 1) (L ++ [⟨3, k, 0, ⟨0, 0⟩, 0, 0⟩]), PTwo (PErr b1 0), PTwo (PErr b1 0), PAny, (PErr b1 0), PAny, (PErr b1 0)]) := Lib.hid ⟨stay_eq _, stay_nil _, stay_eq _, stay_own _ _ _, stay_eq _, stay_eq _, stay_eq _, stay_lit _, stay_all _ _, stay_two HST1.out, stay_two HST1.out, stay_anyR, HST1.out, stay_anyR, HST1.out, trivial⟩
    have HPEa : Hid (∀ jq, jq < 7 → jq ≠ 1 → jq ≠ 3 → ∀ P, ([PEq x.agg, PNil w3.heap.size, PEq (.slice s 0 cap), POwn w3.heap.size 0 L, PEq (.int .i64 k), PEq (.int .i64 0), PEq ((⟨3, k, 0, ⟨0, 0⟩, 0, 0⟩ : Ev).agg), PLit ⟨3, k, 0, ⟨0, 0⟩, 0, 0⟩, PAll (0 + 1) (L ++ [⟨3, k, 0, ⟨0, 0⟩, 0, 0⟩]), PTwo (PErr b1 0), PTwo (PErr b1 0), PAny, (PErr b1 0), PAny, (PErr b1 0)] : List (World → Value → Prop))[jq]? = some P → ∃ c, P = PEq c) := Lib.hid (fun jq h1 h2 h3 P hP => by
      have hj : jq = 0 ∨ jq = 2 ∨ jq = 4 ∨ jq = 5 ∨ jq = 6 := by omega
      rcases hj with rfl | rfl | rfl | rfl | rfl <;> (simp only [List.getElem?_cons_zero, List.getElem?_cons_succ, Option.some.injEq] at hP; exact ⟨_, hP.symm⟩))
    refine wp_region_any (by kernel_rfl) (wpAny_inv (fun l a w' => ∃ v0 v1 v2 v3 v4 v5 v6 v7 v8 v9 v10 v11 v12 v13 v14, a = ⟨#[x.agg, Value.slice s 0 cap, Value.int IntKind.i64 (k : Int), Value.pointer (some ⟨w.heap.size, 0, none⟩), undef, undef, Value.bool false, Value.bool true, Value.bool true, Value.slice (some ⟨g, 0, none⟩) nt nt, Value.int IntKind.i64 0, v13, v14, undef, undef, Value.bool true, Value.agg #[Value.slice x.os x.obs.length x.oc, Value.slice x.ps x.prs.length x.pc, Value.slice x.ks x.pis.length x.kc], Value.bool true, Value.bool true, Value.bool false, Value.bool false, Value.slice s 0 cap, Value.int IntKind.i64 0, Value.bool false, Value.bool false, undef, Value.agg #[Value.slice x.os x.obs.length x.oc, Value.slice x.ps x.prs.length x.pc, Value.slice x.ks x.pis.length x.kc], Value.slice s 0 cap, Value.slice (some ⟨g, 0, none⟩) nt nt, Value.int IntKind.i64 (k : Int), Value.bool (decide ((k : Int) < 0)), Value.bool (decide ((k : Int) < 0)), Value.int IntKind.i64 (k : Int), Value.slice (some ⟨g, 0, none⟩) nt nt, Value.int IntKind.i64 (nt : Int), Value.bool (decide (nt ≤ k)), Value.bool (decide ((k : Int) < 0) || decide (nt ≤ k)), undef, Value.slice s 0 cap, Value.int IntKind.i64 0, Value.bool false, undef, undef, undef, undef, undef, undef, undef, v10, v0, v1, v2, v3, v4, v5, v6, v7, v8, v9, v11, v12, undef, undef, undef, undef, undef, undef, undef, undef, undef, undef, undef, undef, undef, undef, undef, undef, undef, undef, undef, undef, undef, undef, undef, undef, undef, undef, undef, undef], []⟩ ∧ AG w3 [PEq x.agg, PNil w3.heap.size, PEq (.slice s 0 cap), POwn w3.heap.size 0 L, PEq (.int .i64 k), PEq (.int .i64 0), PEq ((⟨3, k, 0, ⟨0, 0⟩, 0, 0⟩ : Ev).agg), PLit ⟨3, k, 0, ⟨0, 0⟩, 0, 0⟩, PAll (0 + 1) (L ++ [⟨3, k, 0, ⟨0, 0⟩, 0, 0⟩]), PTwo (PErr b1 0), PTwo (PErr b1 0), PAny, (PErr b1 0), PAny, (PErr b1 0)] 7 l w' [v0, v1, v2, v3, v4, v5, v6, v7, v8, v9, v10, v11, v12, v13, v14]) ?hstepa ?henda _ _ _ _ (by simp) (by simp) ?hstarta)
    case hstarta =>
      exact ⟨_, _, _, _, _, _, _, _, _, _, _, _, _, _, _, rfl, ⟨(Kept.refl _ _).drew, fun i P v _ hv hf _ => (flag_none hf).elim, fun h => (flag_none h).elim, fun i _ h => (flag_none h).elim⟩⟩
    case hstepa =>
      rintro l a wr i hs ⟨v0, v1, v2, v3, v4, v5, v6, v7, v8, v9, v10, v11, v12, v13, v14, rfl, F⟩ hi
      have hs' : l.size = 15 := hs
      obtain ⟨hlt, hu, hd⟩ := ready_of hi
      have hlt' : i < 15 := hlt
      have hset : ∀ j, (l.setIfInBounds i true).getD j false = if j = i then true else l.getD j false := fun j => getD_set (by omega)
      have hu' := flag_false hu
      have HSET := Lib.hid hset
      clear hi hlt hu hset
      have hi : i = 0 ∨ i = 1 ∨ i = 2 ∨ i = 3 ∨ i = 4 ∨ i = 5 ∨ i = 6 ∨ i = 7 ∨ i = 8 ∨ i = 9 ∨ i = 10 ∨ i = 11 ∨ i = 12 ∨ i = 13 ∨ i = 14 := by omega
      clear hlt'
      obtain ⟨p0, p1, p2⟩ := HBw3.out wr F.kept
      rcases hi with rfl | rfl | rfl | rfl | rfl | rfl | rfl | rfl | rfl | rfl | rfl | rfl | rfl | rfl | rfl
      · refine wpOp_open rfl (fun K hK => ?_)
        go_simp
        exact hK.out _ _ ⟨_, _, _, _, _, _, _, _, _, _, _, _, _, _, _, rfl, F.step HSAa.out 0 HSET.out (Kept.refl _ _) _ rfl _ rfl (fun h => absurd h (by decide)) (fun h => absurd h (by decide))⟩
      · refine wpOp_open rfl (fun K hK => ?_)
        go_simp
        exact hK.out _ _ ⟨_, _, _, _, _, _, _, _, _, _, _, _, _, _, _, rfl, F.step HSAa.out 1 HSET.out (((Kept.refl _ _).alloc _)) _ rfl _ ((nil_new _).le F.kept.size) (fun h => absurd h (by decide)) (fun h => absurd h (by decide))⟩
      · refine wpOp_open rfl (fun K hK => ?_)
        go_simp
        exact hK.out _ _ ⟨_, _, _, _, _, _, _, _, _, _, _, _, _, _, _, rfl, F.step HSAa.out 2 HSET.out (Kept.refl _ _) _ rfl _ rfl (fun h => absurd h (by decide)) (fun h => absurd h (by decide))⟩
      · have d1 : l.getD 1 false = true := by simp [Region.binds] at hd; simp [hd]
        have z1 := F.at_ 1 _ _ rfl rfl d1 hu'
        have d2 : l.getD 2 false = true := by simp [Region.binds] at hd; simp [hd]
        obtain rfl := F.at_ 2 _ _ rfl rfl d2 (flag_out (by rw [hs']; decide))
        refine wpOp_open rfl (fun K hK => ?_)
        refine step_own (w3 := w3) (L := L) (m := 0) _ _ F.kept z1 HEw3.out HN.out (by omega) rfl rfl rfl rfl ?_
        intro b v' w' hb hO hk hkb
        exact hK.out _ _ ⟨_, _, _, _, _, _, _, _, _, _, _, _, _, _, _, rfl, F.own HSET.out hk hu' HPEa.out rfl (by decide) hb hkb _ rfl _ hO⟩
      · refine wpOp_open rfl (fun K hK => ?_)
        go_simp
        exact hK.out _ _ ⟨_, _, _, _, _, _, _, _, _, _, _, _, _, _, _, rfl, F.step HSAa.out 4 HSET.out (Kept.refl _ _) _ rfl _ rfl (fun h => absurd h (by decide)) (fun h => absurd h (by decide))⟩
      · refine wpOp_open rfl (fun K hK => ?_)
        go_simp
        exact hK.out _ _ ⟨_, _, _, _, _, _, _, _, _, _, _, _, _, _, _, rfl, F.step HSAa.out 5 HSET.out (Kept.refl _ _) _ rfl _ rfl (fun h => absurd h (by decide)) (fun h => absurd h (by decide))⟩
      · have d4 : l.getD 4 false = true := by simp [Region.binds] at hd; simp [hd]
        obtain rfl := F.at_ 4 _ _ rfl rfl d4 (flag_out (by rw [hs']; decide))
        have d5 : l.getD 5 false = true := by simp [Region.binds] at hd; simp [hd]
        obtain rfl := F.at_ 5 _ _ rfl rfl d5 (flag_out (by rw [hs']; decide))
        refine wpOp_open rfl (fun K hK => ?_)
        go_simp
        exact hK.out _ _ ⟨_, _, _, _, _, _, _, _, _, _, _, _, _, _, _, rfl, F.step HSAa.out 6 HSET.out (Kept.refl _ _) _ rfl _ rfl (fun h => absurd h (by decide)) (fun h => absurd h (by decide))⟩
      · have d6 : l.getD 6 false = true := by simp [Region.binds] at hd; simp [hd]
        obtain rfl := F.at_ 6 _ _ rfl rfl d6 (flag_out (by rw [hs']; decide))
        refine wpOp_open rfl (fun K hK => ?_)
        go_simp
        exact hK.out _ _ ⟨_, _, _, _, _, _, _, _, _, _, _, _, _, _, _, rfl, F.step HSAa.out 7 HSET.out (((Kept.refl _ _).alloc _)) _ rfl _ (lit_new _ ⟨3, k, 0, ⟨0, 0⟩, 0, 0⟩) (fun h => absurd h (by decide)) (fun h => absurd h (by decide))⟩
      · have d3 : l.getD 3 false = true := by simp [Region.binds] at hd; simp [hd]
        have z3 := F.at_ 3 _ _ rfl rfl d3 hu'
        have d7 : l.getD 7 false = true := by simp [Region.binds] at hd; simp [hd]
        have z7 := F.at_ 7 _ _ rfl rfl d7 hu'
        refine wpOp_open rfl (fun K hK => ?_)
        refine step_all (w3 := w3) (L := L) (m := 0) (ev := ⟨3, k, 0, ⟨0, 0⟩, 0, 0⟩) _ _ F.kept z3 z7 (by omega) rfl rfl rfl rfl ?_
        intro v' w' hA hk
        exact hK.out _ _ ⟨_, _, _, _, _, _, _, _, _, _, _, _, _, _, _, rfl, F.all HSET.out hk hu' d3 HPEa.out (by decide) _ rfl _ hA⟩
      · have d0 : l.getD 0 false = true := by simp [Region.binds] at hd; simp [hd]
        obtain rfl := F.at_ 0 _ _ rfl rfl d0 (flag_out (by rw [hs']; decide))
        have d8 : l.getD 8 false = true := by simp [Region.binds] at hd; simp [hd]
        have z8 := F.at_ 8 _ _ rfl rfl d8 (flag_out (by rw [hs']; decide))
        obtain ⟨g, c, rfl, hE⟩ := z8
        refine wpOp_open rfl (fun K hK => ?_)
        refine step_call (by rfl) 11 #[x.agg, .slice (some ⟨g, 0, none⟩) (0 + 1) c] (by kernel_rfl) (P := fun v w' => PTwo (PErr b1 0) w' v ∧ Kept (fun _ => False) wr w') (HRUN1.out g c wr F.kept hE) (fun e w' hh => by obtain ⟨a, b, he, hr, hk⟩ := hh; exact ⟨_, he, ⟨a, b, rfl, hr⟩, hk⟩) ?_
        rintro v' w' ⟨hv, hk⟩
        exact hK.out _ _ ⟨_, _, _, _, _, _, _, _, _, _, _, _, _, _, _, rfl, F.step HSAa.out 9 HSET.out (hk) _ rfl _ hv (fun h => absurd h (by decide)) (fun _ => d8)⟩
      · have d9 : l.getD 9 false = true := by simp [Region.binds] at hd; simp [hd]
        have z9 := F.at_ 9 _ _ rfl rfl d9 (flag_out (by rw [hs']; decide))
        obtain ⟨ra, rb, rfl, hr⟩ := z9
        refine wpOp_open rfl (fun K hK => ?_)
        go_simp
        have d8 := F.late 9 (by decide) d9
        exact hK.out _ _ ⟨_, _, _, _, _, _, _, _, _, _, _, _, _, _, _, rfl, F.step HSAa.out 10 HSET.out (Kept.refl _ _) _ rfl _ ⟨ra, rb, rfl, hr⟩ (fun h => absurd h (by decide)) (fun _ => d8)⟩
      · have d10 : l.getD 10 false = true := by simp [Region.binds] at hd; simp [hd]
        have z10 := F.at_ 10 _ _ rfl rfl d10 (flag_out (by rw [hs']; decide))
        obtain ⟨ra, rb, rfl, hr⟩ := z10
        refine wpOp_open rfl (fun K hK => ?_)
        go_simp
        have d8 := F.late 10 (by decide) d10
        exact hK.out _ _ ⟨_, _, _, _, _, _, _, _, _, _, _, _, _, _, _, rfl, F.step HSAa.out 11 HSET.out (Kept.refl _ _) _ rfl _ trivial (fun h => absurd h (by decide)) (fun _ => d8)⟩
      · have d10 : l.getD 10 false = true := by simp [Region.binds] at hd; simp [hd]
        have z10 := F.at_ 10 _ _ rfl rfl d10 (flag_out (by rw [hs']; decide))
        obtain ⟨ra, rb, rfl, hr⟩ := z10
        refine wpOp_open rfl (fun K hK => ?_)
        go_simp
        have d8 := F.late 10 (by decide) d10
        exact hK.out _ _ ⟨_, _, _, _, _, _, _, _, _, _, _, _, _, _, _, rfl, F.step HSAa.out 12 HSET.out (Kept.refl _ _) _ rfl _ hr (fun h => absurd h (by decide)) (fun _ => d8)⟩
      · have d11 : l.getD 11 false = true := by simp [Region.binds] at hd; simp [hd]
        have z11 := F.at_ 11 _ _ rfl rfl d11 (flag_out (by rw [hs']; decide))
        refine wpOp_open rfl (fun K hK => ?_)
        go_simp
        have d8 := F.late 11 (by decide) d11
        exact hK.out _ _ ⟨_, _, _, _, _, _, _, _, _, _, _, _, _, _, _, rfl, F.step HSAa.out 13 HSET.out (Kept.refl _ _) _ rfl _ z11 (fun h => absurd h (by decide)) (fun _ => d8)⟩
      · have d12 : l.getD 12 false = true := by simp [Region.binds] at hd; simp [hd]
        have z12 := F.at_ 12 _ _ rfl rfl d12 (flag_out (by rw [hs']; decide))
        refine wpOp_open rfl (fun K hK => ?_)
        go_simp
        have d8 := F.late 12 (by decide) d12
        exact hK.out _ _ ⟨_, _, _, _, _, _, _, _, _, _, _, _, _, _, _, rfl, F.step HSAa.out 14 HSET.out (Kept.refl _ _) _ rfl _ z12 (fun h => absurd h (by decide)) (fun _ => d8)⟩
    case henda =>
      rintro l a wr hs ⟨v0a, v1a, v2a, v3a, v4a, v5a, v6a, v7a, v8a, v9a, v10a, v11a, v12a, v13a, v14a, rfl, F⟩ hr
      have hs' : l.size = 15 := hs
      have HAR := all_ready2 hs (by kernel_rfl) hr
      have hR := F.at_ 14 _ _ rfl rfl (HAR 14 (by decide)) (flag_out (by rw [hs']; decide))
      have hK := F.kept
      clear F hr hs hs' HSAa HPEa HAR
      have HR1 := Lib.hid hR
      have HW4 := Lib.hid hK
      clear hR hK p0 p1 p2
      obtain ⟨p0, p1, p2⟩ := HBw3.out wr HW4.out
      go_wp2_with fail
      obtain ⟨w4, hw4⟩ : ∃ z, z = wr := ⟨_, rfl⟩
      subst hw4
      have HK4 := Lib.hid (HK3.out.tr0 HW4.out)
      have HBw4 : Hid (∀ w', Kept (fun _ => False) w4 w' → w'.cell? ⟨w.heap.size, 0, none⟩ = some (.slice x.os x.obs.length x.oc) ∧ w'.cell? ⟨w.heap.size, 1, none⟩ = some (.slice x.ps x.prs.length x.pc) ∧ w'.cell? ⟨w.heap.size, 2, none⟩ = some (.slice x.ks x.pis.length x.kc)) := Lib.hid (fun w' hk => HP.out w' (HK4.out.tr0 hk))
      have HXw4 : Hid (∀ w', Kept (fun _ => False) w4 w' → Lies w' w'.heap.size x) := Lib.hid (fun w' hk => HX.out w' (HK4.out.tr0 hk))
      have HEw4 : Hid (∀ w', Kept (fun _ => False) w4 w' → Elems w' w'.heap.size s 7 Ev.cells L) := Lib.hid (fun w' hk => HE.out w' (HK4.out.tr0 hk))
      have HRUN4 : Hid (∀ g c w', Kept (fun _ => False) w4 w' → Elems w' w'.heap.size (some ⟨g, 0, none⟩) 7 Ev.cells (L ++ [⟨1, k, 0, ⟨0, 0⟩, 0, 0⟩]) → Calls Tryz.prog 11 #[x.agg, .slice (some ⟨g, 0, none⟩) (0 + 1) c] w' fun e w'' => ∃ a b, e = .returned (.tuple #[a, b]) ∧ PErr b2 0 w'' b ∧ Kept (fun _ => False) w' w'') := Lib.hid (fun g c w' hk => HRUN2.out g c w' (HW4.out.tr0 hk))
      clear HST1 HRUN1 HRUN2
      have HSAb : Hid (StayAll [PEq x.agg, PNil w4.heap.size, PEq (.slice s 0 cap), POwn w4.heap.size 0 L, PEq (.int .i64 k), PEq (.int .i64 0), PEq ((⟨1, k, 0, ⟨0, 0⟩, 0, 0⟩ : Ev).agg), PLit ⟨1, k, 0, ⟨0, 0⟩, 0, 0⟩, PAll (0 + 1) (L ++ [⟨1, k, 0, ⟨0, 0⟩, 0, 0⟩]), PTwo (PErr b2 0), PTwo (PErr b2 0), PAny, (PErr b2 0), PAny, (PErr b2 0)]) := Lib.hid ⟨stay_eq _, stay_nil _, stay_eq _, stay_own _ _ _, stay_eq _, stay_eq _, stay_eq _, stay_lit _, stay_all _ _, stay_two HST2.out, stay_two HST2.out, stay_anyR, HST2.out, stay_anyR, HST2.out, trivial⟩
      have HPEb : Hid (∀ jq, jq < 7 → jq ≠ 1 → jq ≠ 3 → ∀ P, ([PEq x.agg, PNil w4.heap.size, PEq (.slice s 0 cap), POwn w4.heap.size 0 L, PEq (.int .i64 k), PEq (.int .i64 0), PEq ((⟨1, k, 0, ⟨0, 0⟩, 0, 0⟩ : Ev).agg), PLit ⟨1, k, 0, ⟨0, 0⟩, 0, 0⟩, PAll (0 + 1) (L ++ [⟨1, k, 0, ⟨0, 0⟩, 0, 0⟩]), PTwo (PErr b2 0), PTwo (PErr b2 0), PAny, (PErr b2 0), PAny, (PErr b2 0)] : List (World → Value → Prop))[jq]? = some P → ∃ c, P = PEq c) := Lib.hid (fun jq h1 h2 h3 P hP => by
        have hj : jq = 0 ∨ jq = 2 ∨ jq = 4 ∨ jq = 5 ∨ jq = 6 := by omega
        rcases hj with rfl | rfl | rfl | rfl | rfl <;> (simp only [List.getElem?_cons_zero, List.getElem?_cons_succ, Option.some.injEq] at hP; exact ⟨_, hP.symm⟩))
      refine wp_region_any (by kernel_rfl) (wpAny_inv (fun l a w' => ∃ v0 v1 v2 v3 v4 v5 v6 v7 v8 v9 v10 v11 v12 v13 v14, a = ⟨#[x.agg, Value.slice s 0 cap, Value.int IntKind.i64 (k : Int), Value.pointer (some ⟨w.heap.size, 0, none⟩), undef, undef, Value.bool false, Value.bool true, Value.bool true, Value.slice (some ⟨g, 0, none⟩) nt nt, Value.int IntKind.i64 0, v13a, v14a, v13, v14, Value.bool true, Value.agg #[Value.slice x.os x.obs.length x.oc, Value.slice x.ps x.prs.length x.pc, Value.slice x.ks x.pis.length x.kc], Value.bool true, Value.bool true, Value.bool false, Value.bool false, Value.slice s 0 cap, Value.int IntKind.i64 0, Value.bool false, Value.bool false, undef, Value.agg #[Value.slice x.os x.obs.length x.oc, Value.slice x.ps x.prs.length x.pc, Value.slice x.ks x.pis.length x.kc], Value.slice s 0 cap, Value.slice (some ⟨g, 0, none⟩) nt nt, Value.int IntKind.i64 (k : Int), Value.bool (decide ((k : Int) < 0)), Value.bool (decide ((k : Int) < 0)), Value.int IntKind.i64 (k : Int), Value.slice (some ⟨g, 0, none⟩) nt nt, Value.int IntKind.i64 (nt : Int), Value.bool (decide (nt ≤ k)), Value.bool (decide ((k : Int) < 0) || decide (nt ≤ k)), undef, Value.slice s 0 cap, Value.int IntKind.i64 0, Value.bool false, undef, undef, undef, undef, undef, undef, undef, v10a, v0a, v1a, v2a, v3a, v4a, v5a, v6a, v7a, v8a, v9a, v11a, v12a, v10, v0, v1, v2, v3, v4, v5, v6, v7, v8, v9, v11, v12, undef, undef, undef, undef, undef, undef, undef, undef, undef, undef, undef, undef, undef, undef, undef], []⟩ ∧ AG w4 [PEq x.agg, PNil w4.heap.size, PEq (.slice s 0 cap), POwn w4.heap.size 0 L, PEq (.int .i64 k), PEq (.int .i64 0), PEq ((⟨1, k, 0, ⟨0, 0⟩, 0, 0⟩ : Ev).agg), PLit ⟨1, k, 0, ⟨0, 0⟩, 0, 0⟩, PAll (0 + 1) (L ++ [⟨1, k, 0, ⟨0, 0⟩, 0, 0⟩]), PTwo (PErr b2 0), PTwo (PErr b2 0), PAny, (PErr b2 0), PAny, (PErr b2 0)] 7 l w' [v0, v1, v2, v3, v4, v5, v6, v7, v8, v9, v10, v11, v12, v13, v14]) ?hstepb ?hendb _ _ _ _ (by simp) (by simp) ?hstartb)
      case hstartb =>
        exact ⟨_, _, _, _, _, _, _, _, _, _, _, _, _, _, _, rfl, ⟨(Kept.refl _ _).drew, fun i P v _ hv hf _ => (flag_none hf).elim, fun h => (flag_none h).elim, fun i _ h => (flag_none h).elim⟩⟩
      case hstepb =>
        rintro l a wr i hs ⟨v0, v1, v2, v3, v4, v5, v6, v7, v8, v9, v10, v11, v12, v13, v14, rfl, F⟩ hi
        have hs' : l.size = 15 := hs
        obtain ⟨hlt, hu, hd⟩ := ready_of hi
        have hlt' : i < 15 := hlt
        have hset : ∀ j, (l.setIfInBounds i true).getD j false = if j = i then true else l.getD j false := fun j => getD_set (by omega)
        have hu' := flag_false hu
        have HSET := Lib.hid hset
        clear hi hlt hu hset
        have hi : i = 0 ∨ i = 1 ∨ i = 2 ∨ i = 3 ∨ i = 4 ∨ i = 5 ∨ i = 6 ∨ i = 7 ∨ i = 8 ∨ i = 9 ∨ i = 10 ∨ i = 11 ∨ i = 12 ∨ i = 13 ∨ i = 14 := by omega
        clear hlt'
        obtain ⟨p0, p1, p2⟩ := HBw4.out wr F.kept
        rcases hi with rfl | rfl | rfl | rfl | rfl | rfl | rfl | rfl | rfl | rfl | rfl | rfl | rfl | rfl | rfl
        · refine wpOp_open rfl (fun K hK => ?_)
          go_simp
          exact hK.out _ _ ⟨_, _, _, _, _, _, _, _, _, _, _, _, _, _, _, rfl, F.step HSAb.out 0 HSET.out (Kept.refl _ _) _ rfl _ rfl (fun h => absurd h (by decide)) (fun h => absurd h (by decide))⟩
        · refine wpOp_open rfl (fun K hK => ?_)
          go_simp
          exact hK.out _ _ ⟨_, _, _, _, _, _, _, _, _, _, _, _, _, _, _, rfl, F.step HSAb.out 1 HSET.out (((Kept.refl _ _).alloc _)) _ rfl _ ((nil_new _).le F.kept.size) (fun h => absurd h (by decide)) (fun h => absurd h (by decide))⟩
        · refine wpOp_open rfl (fun K hK => ?_)
          go_simp
          exact hK.out _ _ ⟨_, _, _, _, _, _, _, _, _, _, _, _, _, _, _, rfl, F.step HSAb.out 2 HSET.out (Kept.refl _ _) _ rfl _ rfl (fun h => absurd h (by decide)) (fun h => absurd h (by decide))⟩
        · have d1 : l.getD 1 false = true := by simp [Region.binds] at hd; simp [hd]
          have z1 := F.at_ 1 _ _ rfl rfl d1 hu'
          have d2 : l.getD 2 false = true := by simp [Region.binds] at hd; simp [hd]
          obtain rfl := F.at_ 2 _ _ rfl rfl d2 (flag_out (by rw [hs']; decide))
          refine wpOp_open rfl (fun K hK => ?_)
          refine step_own (w3 := w4) (L := L) (m := 0) _ _ F.kept z1 HEw4.out HN.out (by omega) rfl rfl rfl rfl ?_
          intro b v' w' hb hO hk hkb
          exact hK.out _ _ ⟨_, _, _, _, _, _, _, _, _, _, _, _, _, _, _, rfl, F.own HSET.out hk hu' HPEb.out rfl (by decide) hb hkb _ rfl _ hO⟩
        · refine wpOp_open rfl (fun K hK => ?_)
          go_simp
          exact hK.out _ _ ⟨_, _, _, _, _, _, _, _, _, _, _, _, _, _, _, rfl, F.step HSAb.out 4 HSET.out (Kept.refl _ _) _ rfl _ rfl (fun h => absurd h (by decide)) (fun h => absurd h (by decide))⟩
        · refine wpOp_open rfl (fun K hK => ?_)
          go_simp
          exact hK.out _ _ ⟨_, _, _, _, _, _, _, _, _, _, _, _, _, _, _, rfl, F.step HSAb.out 5 HSET.out (Kept.refl _ _) _ rfl _ rfl (fun h => absurd h (by decide)) (fun h => absurd h (by decide))⟩
        · have d4 : l.getD 4 false = true := by simp [Region.binds] at hd; simp [hd]
          obtain rfl := F.at_ 4 _ _ rfl rfl d4 (flag_out (by rw [hs']; decide))
          have d5 : l.getD 5 false = true := by simp [Region.binds] at hd; simp [hd]
          obtain rfl := F.at_ 5 _ _ rfl rfl d5 (flag_out (by rw [hs']; decide))
          refine wpOp_open rfl (fun K hK => ?_)
          go_simp
          exact hK.out _ _ ⟨_, _, _, _, _, _, _, _, _, _, _, _, _, _, _, rfl, F.step HSAb.out 6 HSET.out (Kept.refl _ _) _ rfl _ rfl (fun h => absurd h (by decide)) (fun h => absurd h (by decide))⟩
        · have d6 : l.getD 6 false = true := by simp [Region.binds] at hd; simp [hd]
          obtain rfl := F.at_ 6 _ _ rfl rfl d6 (flag_out (by rw [hs']; decide))
          refine wpOp_open rfl (fun K hK => ?_)
          go_simp
          exact hK.out _ _ ⟨_, _, _, _, _, _, _, _, _, _, _, _, _, _, _, rfl, F.step HSAb.out 7 HSET.out (((Kept.refl _ _).alloc _)) _ rfl _ (lit_new _ ⟨1, k, 0, ⟨0, 0⟩, 0, 0⟩) (fun h => absurd h (by decide)) (fun h => absurd h (by decide))⟩
        · have d3 : l.getD 3 false = true := by simp [Region.binds] at hd; simp [hd]
          have z3 := F.at_ 3 _ _ rfl rfl d3 hu'
          have d7 : l.getD 7 false = true := by simp [Region.binds] at hd; simp [hd]
          have z7 := F.at_ 7 _ _ rfl rfl d7 hu'
          refine wpOp_open rfl (fun K hK => ?_)
          refine step_all (w3 := w4) (L := L) (m := 0) (ev := ⟨1, k, 0, ⟨0, 0⟩, 0, 0⟩) _ _ F.kept z3 z7 (by omega) rfl rfl rfl rfl ?_
          intro v' w' hA hk
          exact hK.out _ _ ⟨_, _, _, _, _, _, _, _, _, _, _, _, _, _, _, rfl, F.all HSET.out hk hu' d3 HPEb.out (by decide) _ rfl _ hA⟩
        · have d0 : l.getD 0 false = true := by simp [Region.binds] at hd; simp [hd]
          obtain rfl := F.at_ 0 _ _ rfl rfl d0 (flag_out (by rw [hs']; decide))
          have d8 : l.getD 8 false = true := by simp [Region.binds] at hd; simp [hd]
          have z8 := F.at_ 8 _ _ rfl rfl d8 (flag_out (by rw [hs']; decide))
          obtain ⟨g, c, rfl, hE⟩ := z8
          refine wpOp_open rfl (fun K hK => ?_)
          refine step_call (by rfl) 11 #[x.agg, .slice (some ⟨g, 0, none⟩) (0 + 1) c] (by kernel_rfl) (P := fun v w' => PTwo (PErr b2 0) w' v ∧ Kept (fun _ => False) wr w') (HRUN4.out g c wr F.kept hE) (fun e w' hh => by obtain ⟨a, b, he, hr, hk⟩ := hh; exact ⟨_, he, ⟨a, b, rfl, hr⟩, hk⟩) ?_
          rintro v' w' ⟨hv, hk⟩
          exact hK.out _ _ ⟨_, _, _, _, _, _, _, _, _, _, _, _, _, _, _, rfl, F.step HSAb.out 9 HSET.out (hk) _ rfl _ hv (fun h => absurd h (by decide)) (fun _ => d8)⟩
        · have d9 : l.getD 9 false = true := by simp [Region.binds] at hd; simp [hd]
          have z9 := F.at_ 9 _ _ rfl rfl d9 (flag_out (by rw [hs']; decide))
          obtain ⟨ra, rb, rfl, hr⟩ := z9
          refine wpOp_open rfl (fun K hK => ?_)
          go_simp
          have d8 := F.late 9 (by decide) d9
          exact hK.out _ _ ⟨_, _, _, _, _, _, _, _, _, _, _, _, _, _, _, rfl, F.step HSAb.out 10 HSET.out (Kept.refl _ _) _ rfl _ ⟨ra, rb, rfl, hr⟩ (fun h => absurd h (by decide)) (fun _ => d8)⟩
        · have d10 : l.getD 10 false = true := by simp [Region.binds] at hd; simp [hd]
          have z10 := F.at_ 10 _ _ rfl rfl d10 (flag_out (by rw [hs']; decide))
          obtain ⟨ra, rb, rfl, hr⟩ := z10
          refine wpOp_open rfl (fun K hK => ?_)
          go_simp
          have d8 := F.late 10 (by decide) d10
          exact hK.out _ _ ⟨_, _, _, _, _, _, _, _, _, _, _, _, _, _, _, rfl, F.step HSAb.out 11 HSET.out (Kept.refl _ _) _ rfl _ trivial (fun h => absurd h (by decide)) (fun _ => d8)⟩
        · have d10 : l.getD 10 false = true := by simp [Region.binds] at hd; simp [hd]
          have z10 := F.at_ 10 _ _ rfl rfl d10 (flag_out (by rw [hs']; decide))
          obtain ⟨ra, rb, rfl, hr⟩ := z10
          refine wpOp_open rfl (fun K hK => ?_)
          go_simp
          have d8 := F.late 10 (by decide) d10
          exact hK.out _ _ ⟨_, _, _, _, _, _, _, _, _, _, _, _, _, _, _, rfl, F.step HSAb.out 12 HSET.out (Kept.refl _ _) _ rfl _ hr (fun h => absurd h (by decide)) (fun _ => d8)⟩
        · have d11 : l.getD 11 false = true := by simp [Region.binds] at hd; simp [hd]
          have z11 := F.at_ 11 _ _ rfl rfl d11 (flag_out (by rw [hs']; decide))
          refine wpOp_open rfl (fun K hK => ?_)
          go_simp
          have d8 := F.late 11 (by decide) d11
          exact hK.out _ _ ⟨_, _, _, _, _, _, _, _, _, _, _, _, _, _, _, rfl, F.step HSAb.out 13 HSET.out (Kept.refl _ _) _ rfl _ z11 (fun h => absurd h (by decide)) (fun _ => d8)⟩
        · have d12 : l.getD 12 false = true := by simp [Region.binds] at hd; simp [hd]
          have z12 := F.at_ 12 _ _ rfl rfl d12 (flag_out (by rw [hs']; decide))
          refine wpOp_open rfl (fun K hK => ?_)
          go_simp
          have d8 := F.late 12 (by decide) d12
          exact hK.out _ _ ⟨_, _, _, _, _, _, _, _, _, _, _, _, _, _, _, rfl, F.step HSAb.out 14 HSET.out (Kept.refl _ _) _ rfl _ z12 (fun h => absurd h (by decide)) (fun _ => d8)⟩
      case hendb =>
        rintro l a wr hs ⟨v0b, v1b, v2b, v3b, v4b, v5b, v6b, v7b, v8b, v9b, v10b, v11b, v12b, v13b, v14b, rfl, F⟩ hr
        have hs' : l.size = 15 := hs
        have HAR := all_ready2 hs (by kernel_rfl) hr
        have hR := F.at_ 14 _ _ rfl rfl (HAR 14 (by decide)) (flag_out (by rw [hs']; decide))
        have hK := F.kept
        clear F hr hs hs' HSAb HPEb HAR
        have HR2 := Lib.hid hR
        have HF := Lib.hid (HFIN.out wr (HK4.out.tr0 hK))
        have hrow := HROW.out.kept (HW4.out.tr0 hK) (fun f => f)
        have hcell := hrow.cell intC_one (i := k) (j := 0) (by rw [List.getElem?_map, HTR.out]; rfl) rfl
        rw [Nat.mul_one, Nat.add_zero] at hcell
        clear hR hK p0 p1 p2 hrow
        have hkl := HKN.out
        have k0 : (0 : Int) ≤ (k : Int) := by omega
        have k1 : (k : Int) < (nt : Int) := by omega
        obtain ⟨pd, hpd⟩ : ∃ pd, pendM tr = pd := ⟨_, rfl⟩
        rw [hpd] at hcell
        cases hcall : tr.call with
        | none =>
          have hpm : pd = -1 := by rw [← hpd]; unfold pendM; rw [hcall]
          subst hpm
          have hnone : (evM σ ⟨3, k, 0, ⟨0, 0⟩, 0, 0⟩).isNone = true := by rw [ev_idle (t := tr) (by simpa using HTR.out) hcall (.inr rfl)]; rfl
          have hr := HR1.out
          rw [← HBB1.out, hnone] at hr
          obtain ⟨ge, hge, _⟩ := hr
          subst hge
          clear hpd hcall hnone
          go_wp2_with fail
          go_ret
          exact ⟨rfl, HF.out⟩
        | some ca =>
          have hpm : 0 ≤ pd := by
            have hpos := ((HGOOD.out.th tr (List.mem_of_getElem? HTR.out)).call ca hcall).pos
            rw [← hpd]; unfold pendM; rw [hcall]
            simp only
            omega
          have hpm' : ¬ pd < 0 := by omega
          have hnone : (evM σ ⟨1, k, 0, ⟨0, 0⟩, 0, 0⟩).isNone = true := by rw [ev_busy (t := tr) (by simpa using HTR.out) hcall rfl]; rfl
          have hr := HR2.out
          rw [← HBB2.out, hnone] at hr
          obtain ⟨ge, hge, _⟩ := hr
          subst hge
          clear hpd hcall hnone hpm
          go_wp2_with fail
          go_ret
          exact ⟨rfl, HF.out⟩

end Go.Proofs.YtbodlaiakcoabaaGreatDoor
