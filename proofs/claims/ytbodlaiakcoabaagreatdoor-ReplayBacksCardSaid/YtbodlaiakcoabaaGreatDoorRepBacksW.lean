/-
  ReplayBacks: the walk.
  Conditions: none.
-/
import Derived.Test.YtbodlaiakcoabaaGreatDoorRepUp
import Derived.Test.YtbodlaiakcoabaaGreatDoorRepEvs
import Derived.Test.YtbodlaiakcoabaaGreatDoorFew
namespace Go.Proofs.YtbodlaiakcoabaaGreatDoor
open Go.RowKit
set_option linter.unusedSimpArgs false
set_option linter.unusedVariables false
set_option maxRecDepth 100000

set_option maxHeartbeats 8000000 in
theorem backs_any (x : Sc) (L : List Ev) (s : Option Addr) (cap n : Nat) (t : Int) (w : World) (hx : Lies w w.heap.size x) (hE : Elems w w.heap.size s 7 Ev.cells L) (hn : L.length = n) (h64 : ∀ ev ∈ L, Ev64 ev) (hH : Er.HndAt w) :
    Calls Tryz.prog 6 #[x.agg, .slice s n cap, .int .i64 t] w fun e w' => e = .returned (.bool true) ∧ Below w.heap.size w w' := by
  obtain ⟨W0, hW0⟩ : ∃ W0, w.alloc (.cells #[.slice x.os x.obs.length x.oc, .slice x.ps x.prs.length x.pc, .slice x.ks x.pis.length x.kc] 26) = W0 := ⟨_, rfl⟩
  have hk0 : Kept (fun _ => False) w W0 := by rw [← hW0]; exact (Kept.refl _ w).alloc _
  have hs0 : W0.heap.size = w.heap.size + 1 := by rw [← hW0]; simp
  have hb0 : W0.heap[w.heap.size]? = some (.cells #[.slice x.os x.obs.length x.oc, .slice x.ps x.prs.length x.pc, .slice x.ks x.pis.length x.kc] 26 (0, 0)) := by rw [← hW0]; exact heap_alloc_new w _
  have HX := Lib.hid (fun (w' : World) (hk : Kept (fun _ => False) W0 w') => (hx.kept (hk0.trans hk (fun _ _ f => f)) (Nat.le_refl _) (fun _ _ f => f)).more (Nat.le_trans hk0.size hk.size))
  have HE := Lib.hid (fun (w' : World) (hk : Kept (fun _ => False) W0 w') => (hE.kept (hk0.trans hk (fun _ _ f => f)) (Nat.le_refl _) (fun _ _ f => f)).more (Nat.le_trans hk0.size hk.size))
  have HP := Lib.hid (fun (w' : World) (hk : Kept (fun _ => False) W0 w') => box3_cells ((hk.block w.heap.size (by omega) (fun f => f)).trans hb0))
  have HFIN := Lib.hid (fun (w' : World) (hk : Kept (fun _ => False) W0 w') => (hk0.trans hk (fun _ _ f => f)).below (Nat.le_refl _) (fun _ f => f.elim))
  have HH := Lib.hid (hH.on0 hk0)
  have HHW := Lib.hid (fun (w' : World) (hk : Kept (fun _ => False) W0 w') => (hH.on0 hk0).on0 hk)
  have HW0 := Lib.hid hW0
  have HS0 := Lib.hid hs0
  have H64 := Lib.hid h64
  have HN := Lib.hid hn
  have hmax : n ≤ 9223372036854775807 := by have := hE.1; unfold maxLen at this; rw [hn] at this; exact this
  clear hx hE hk0 hs0 hb0 hW0 h64 hH hn
  go_enter Tryz.func6, Tryz.ntmps6
  go_wp2_with fail
  rw [HW0.out]
  clear HW0
  refine (up11_any _ HH.out).mono ?_
  rintro e w1 ⟨rfl, hk1⟩
  obtain ⟨p0, p1, p2⟩ := HP.out w1 hk1
  have HK1 := Lib.hid hk1
  clear hk1
  have HFEW : Hid (Calls Tryz.prog 10 #[x.agg] w1 fun e w' => e = .returned (.bool (Er.fewF x)) ∧ Kept (fun _ => False) w1 w') := Lib.hid (Er.few_any (HX.out w1 HK1.out) (Nat.le_refl _) _ rfl)
  cases hfx : Er.fewF x
  · rw [hfx] at HFEW
    go_wp2_with fail
    refine HFEW.out.mono ?_
    rintro e w2 ⟨rfl, hk2⟩
    have HF := Lib.hid (HFIN.out w2 (HK1.out.trans hk2 (fun _ _ f => f)))
    clear hk2
    go_wp2_with fail
    go_ret
    exact ⟨rfl, HF.out⟩
  rw [hfx] at HFEW
  go_wp2_with fail
  refine HFEW.out.mono ?_
  rintro e w2 ⟨rfl, hk2⟩
  have HK2 := Lib.hid (HK1.out.trans hk2 (fun _ _ f => f))
  clear hk2 p0 p1 p2 hfx
  by_cases h4 : (500 : Int) < (n : Int)
  · have HF := Lib.hid (HFIN.out w2 HK2.out)
    go_wp2_with fail
    go_ret
    exact ⟨rfl, HF.out⟩
  have hl20 : n ≤ 500 := by omega
  obtain ⟨p0, p1, p2⟩ := HP.out w2 HK2.out
  have HRUN := Lib.hid (run_said x L n HN.out s cap w2 (HX.out w2 HK2.out) (HE.out w2 HK2.out) H64.out (by omega))
  go_wp2_with fail
  refine HRUN.out.mono ?_
  rintro e w3 ⟨hk3, hR⟩
  have HK3 := Lib.hid (HK2.out.trans hk3 (fun _ _ f => f))
  clear hk3 HRUN p0 p1 p2
  rcases hR with ⟨T, u, rfl, -⟩ | ⟨σ, hg, hlg, hG, g, c, m, tts, rfl, hT⟩
  · have HF := Lib.hid (HFIN.out w3 HK3.out)
    go_wp2_with fail
    go_ret
    exact ⟨rfl, HF.out⟩
  have HG := Lib.hid hg
  have HLG := Lib.hid hlg
  have HGOOD := Lib.hid hG
  have HT := Lib.hid hT
  clear hg hlg hG hT
  by_cases hL : 0 < n
  case neg =>
    obtain rfl : n = 0 := by omega
    have HF := Lib.hid (HFIN.out w3 HK3.out)
    go_wp2_with fail
    go_ret
    exact ⟨rfl, HF.out⟩
  obtain ⟨n, rfl⟩ : ∃ n', n = n' + 1 := ⟨n - 1, by omega⟩
  obtain ⟨ev, hev⟩ : ∃ ev, L[n]? = some ev := ⟨_, List.getElem?_eq_getElem (by rw [HN.out]; omega)⟩
  obtain ⟨ga, off, rfl, hga, hc⟩ := (HE.out w3 HK3.out).2 n ev hev
  have cN : w3.cell? ⟨ga, off + n * 7 + 2, none⟩ = some (.int .i64 ev.now) := hc 2 _ rfl
  have h64' : Ev64 ev := H64.out ev (List.mem_of_getElem? hev)
  obtain ⟨nw, hnw⟩ : ∃ nw, ev.now = nw := ⟨_, rfl⟩
  rw [hnw] at cN
  have hnow : σ.now = nw := by
    rw [(go_frame L HG.out).2.1, ← hnw]
    unfold lastM
    rw [List.getLast?_eq_getElem?, HN.out, show n + 1 - 1 = n from rfl, hev]
  have hthr : σ.threads.length = x.prs.length := by
    rw [(go_frame L HG.out).1]
    simp [startM]
  have hlo : 0 ≤ nw := by rw [← hnow]; exact HGOOD.out.now0
  have hhi : nw ≤ 9223372036854775807 := by rw [← hnw]; exact h64'.n1
  have HNOW := Lib.hid hnow
  have HTHR := Lib.hid hthr
  have HNW : Hid (0 ≤ nw ∧ nw ≤ 9223372036854775807) := Lib.hid ⟨hlo, hhi⟩
  have hpl : x.prs.length ≤ 8 := by rw [← hthr]; exact HGOOD.out.nthr
  clear hev hc h64' hnw hga hnow hthr
  obtain ⟨p0, p1, p2⟩ := HP.out w3 HK3.out
  by_cases hb1 : t < 1
  · have hwr : wrap64 (nw - wrap64 (nw + 1)) = -1 := by unfold wrap64; omega
    go_wp2_with fail
    have HLT : Hid ((-1) < nw ∧ (-1) ≤ 9223372036854775807) := Lib.hid ⟨by omega, by omega⟩
    clear hlo hhi hb1
    have HBw3 : Hid (∀ w', Kept (fun _ => False) w3 w' → w'.cell? ⟨w.heap.size, 0, none⟩ = some (.slice x.os x.obs.length x.oc) ∧ w'.cell? ⟨w.heap.size, 1, none⟩ = some (.slice x.ps x.prs.length x.pc) ∧ w'.cell? ⟨w.heap.size, 2, none⟩ = some (.slice x.ks x.pis.length x.kc)) := Lib.hid (fun w' hk => HP.out w' (HK3.out.tr0 hk))
    have HXw3 : Hid (∀ w', Kept (fun _ => False) w3 w' → Lies w' w'.heap.size x) := Lib.hid (fun w' hk => HX.out w' (HK3.out.tr0 hk))
    have HEw3 : Hid (∀ w', Kept (fun _ => False) w3 w' → Elems w' w'.heap.size (some ⟨ga, off, none⟩) 7 Ev.cells L) := Lib.hid (fun w' hk => HE.out w' (HK3.out.tr0 hk))
    have HST1 : Hid (Stay (PErr true (n + 1))) := Lib.hid (stay_err _ _)
    have HRUN1 : Hid (∀ g c w', Kept (fun _ => False) w3 w' → Elems w' w'.heap.size (some ⟨g, 0, none⟩) 7 Ev.cells (L ++ [⟨4, 0, (-1), ⟨0, 0⟩, 0, 0⟩]) → Calls Tryz.prog 11 #[x.agg, .slice (some ⟨g, 0, none⟩) ((n + 1) + 1) c] w' fun e w'' => ∃ a b, e = .returned (.tuple #[a, b]) ∧ PErr true (n + 1) w'' b ∧ Kept (fun _ => False) w' w'') := Lib.hid (fun g c w' hk hE => run_more x L ⟨4, 0, (-1), ⟨0, 0⟩, 0, 0⟩ _ HN.out (by omega) H64.out ⟨HLT.out.2, (by show (-9223372036854775808 : Int) ≤ 0; decide), (by show (0 : Int) ≤ 9223372036854775807; decide)⟩ HLG.out.1 HLG.out.2 HG.out _ (by rw [ev_back (by rw [HNOW.out]; exact HLT.out.1)]; rfl) w' _ c (HXw3.out w' hk) hE)
    have HST2 : Hid (Stay (PErr true (n + 1))) := Lib.hid (stay_err _ _)
    have HRUN2 : Hid (∀ g c w', Kept (fun _ => False) w3 w' → Elems w' w'.heap.size (some ⟨g, 0, none⟩) 7 Ev.cells (L ++ [⟨4, x.prs.length, nw, ⟨0, 0⟩, 0, 0⟩]) → Calls Tryz.prog 11 #[x.agg, .slice (some ⟨g, 0, none⟩) ((n + 1) + 1) c] w' fun e w'' => ∃ a b, e = .returned (.tuple #[a, b]) ∧ PErr true (n + 1) w'' b ∧ Kept (fun _ => False) w' w'') := Lib.hid (fun g c w' hk hE => run_more x L ⟨4, x.prs.length, nw, ⟨0, 0⟩, 0, 0⟩ _ HN.out (by omega) H64.out ⟨HNW.out.2, (by show (-9223372036854775808 : Int) ≤ 0; decide), (by show (0 : Int) ≤ 9223372036854775807; decide)⟩ HLG.out.1 HLG.out.2 HG.out _ (by rw [ev_nobody (by rw [HTHR.out]; exact Int.le_refl _)]; rfl) w' _ c (HXw3.out w' hk) hE)
    have HSAa : Hid (StayAll [PEq x.agg, PNil w3.heap.size, PEq (.slice (some ⟨ga, off, none⟩) (n + 1) cap), POwn w3.heap.size (n + 1) L, PEq (.int .i64 nw), PEq (.int .i64 (wrap64 (nw + 1))), PEq (.int .i64 (-1)), PEq ((⟨4, 0, (-1), ⟨0, 0⟩, 0, 0⟩ : Ev).agg), PLit ⟨4, 0, (-1), ⟨0, 0⟩, 0, 0⟩, PAll ((n + 1) + 1) (L ++ [⟨4, 0, (-1), ⟨0, 0⟩, 0, 0⟩]), PTwo (PErr true (n + 1)), PTwo (PErr true (n + 1)), PAny, (PErr true (n + 1)), PAny, (PErr true (n + 1))]) := Lib.hid ⟨stay_eq _, stay_nil _, stay_eq _, stay_own _ _ _, stay_eq _, stay_eq _, stay_eq _, stay_eq _, stay_lit _, stay_all _ _, stay_two HST1.out, stay_two HST1.out, stay_anyR, HST1.out, stay_anyR, HST1.out, trivial⟩
    have HPEa : Hid (∀ jq, jq < 8 → jq ≠ 1 → jq ≠ 3 → ∀ P, ([PEq x.agg, PNil w3.heap.size, PEq (.slice (some ⟨ga, off, none⟩) (n + 1) cap), POwn w3.heap.size (n + 1) L, PEq (.int .i64 nw), PEq (.int .i64 (wrap64 (nw + 1))), PEq (.int .i64 (-1)), PEq ((⟨4, 0, (-1), ⟨0, 0⟩, 0, 0⟩ : Ev).agg), PLit ⟨4, 0, (-1), ⟨0, 0⟩, 0, 0⟩, PAll ((n + 1) + 1) (L ++ [⟨4, 0, (-1), ⟨0, 0⟩, 0, 0⟩]), PTwo (PErr true (n + 1)), PTwo (PErr true (n + 1)), PAny, (PErr true (n + 1)), PAny, (PErr true (n + 1))] : List (World → Value → Prop))[jq]? = some P → ∃ c, P = PEq c) := Lib.hid (fun jq h1 h2 h3 P hP => by
      have hj : jq = 0 ∨ jq = 2 ∨ jq = 4 ∨ jq = 5 ∨ jq = 6 ∨ jq = 7 := by omega
      rcases hj with rfl | rfl | rfl | rfl | rfl | rfl <;> (simp only [List.getElem?_cons_zero, List.getElem?_cons_succ, Option.some.injEq] at hP; exact ⟨_, hP.symm⟩))
    refine wp_region_any (by kernel_rfl) (wpAny_inv (fun l a w' => ∃ v0 v1 v2 v3 v4 v5 v6 v7 v8 v9 v10 v11 v12 v13 v14 v15, a = ⟨#[x.agg, Value.slice (some ⟨ga, off, none⟩) (n + 1) cap, Value.int IntKind.i64 (wrap64 (nw + 1)), Value.pointer (some ⟨w.heap.size, 0, none⟩), undef, undef, Value.bool false, Value.bool true, Value.bool true, Value.slice (some ⟨g, 0, none⟩) m c, Value.nilIface, Value.int IntKind.i64 nw, v14, v15, undef, undef, Value.bool true, Value.agg #[Value.slice x.os x.obs.length x.oc, Value.slice x.ps x.prs.length x.pc, Value.slice x.ks x.pis.length x.kc], Value.bool true, Value.bool true, Value.bool false, Value.bool false, Value.slice (some ⟨ga, off, none⟩) (n + 1) cap, Value.int IntKind.i64 ((n : Int) + 1), Value.bool (decide (500 < (n : Int) + 1)), Value.bool (decide (500 < (n : Int) + 1)), undef, Value.tuple #[Value.slice (some ⟨g, 0, none⟩) m c, Value.nilIface], Value.agg #[Value.slice x.os x.obs.length x.oc, Value.slice x.ps x.prs.length x.pc, Value.slice x.ks x.pis.length x.kc], Value.slice (some ⟨ga, off, none⟩) (n + 1) cap, Value.tuple #[Value.slice (some ⟨g, 0, none⟩) m c, Value.nilIface], Value.slice (some ⟨g, 0, none⟩) m c, Value.nilIface, Value.nilIface, Value.bool false, Value.bool false, Value.slice (some ⟨ga, off, none⟩) (n + 1) cap, Value.int IntKind.i64 ((n : Int) + 1), Value.bool ((n : Int) + 1 == 0), Value.bool ((n : Int) + 1 == 0), undef, Value.slice (some ⟨ga, off, none⟩) (n + 1) cap, Value.slice (some ⟨ga, off, none⟩) (n + 1) cap, Value.int IntKind.i64 ((n : Int) + 1), Value.int IntKind.i64 (n : Int), Value.pointer (some ⟨ga, off + n * 7, none⟩), Value.pointer (some ⟨ga, off + n * 7 + 2, none⟩), Value.int IntKind.i64 nw, Value.int IntKind.i64 t, Value.bool true, Value.bool true, undef, undef, undef, Value.bool true, Value.int IntKind.i64 nw, Value.int IntKind.i64 (wrap64 (nw + 1)), v11, v0, v1, v2, v3, v4, v5, v6, v7, v8, v9, v10, v12, v13, undef, undef, undef, undef, undef, undef, undef, undef, undef, undef, undef, undef, undef, undef, undef, undef, undef, undef, undef, undef, undef, undef, undef, undef, undef, undef, undef, undef], []⟩ ∧ AG w3 [PEq x.agg, PNil w3.heap.size, PEq (.slice (some ⟨ga, off, none⟩) (n + 1) cap), POwn w3.heap.size (n + 1) L, PEq (.int .i64 nw), PEq (.int .i64 (wrap64 (nw + 1))), PEq (.int .i64 (-1)), PEq ((⟨4, 0, (-1), ⟨0, 0⟩, 0, 0⟩ : Ev).agg), PLit ⟨4, 0, (-1), ⟨0, 0⟩, 0, 0⟩, PAll ((n + 1) + 1) (L ++ [⟨4, 0, (-1), ⟨0, 0⟩, 0, 0⟩]), PTwo (PErr true (n + 1)), PTwo (PErr true (n + 1)), PAny, (PErr true (n + 1)), PAny, (PErr true (n + 1))] 8 l w' [v0, v1, v2, v3, v4, v5, v6, v7, v8, v9, v10, v11, v12, v13, v14, v15]) ?hstepa ?henda _ _ _ _ (by simp) (by simp) ?hstarta)
    case hstarta =>
      exact ⟨_, _, _, _, _, _, _, _, _, _, _, _, _, _, _, _, rfl, ⟨(Kept.refl _ _).drew, fun i P v _ hv hf _ => (flag_none hf).elim, fun h => (flag_none h).elim, fun i _ h => (flag_none h).elim⟩⟩
    case hstepa =>
      rintro l a wr i hs ⟨v0, v1, v2, v3, v4, v5, v6, v7, v8, v9, v10, v11, v12, v13, v14, v15, rfl, F⟩ hi
      have hs' : l.size = 16 := hs
      obtain ⟨hlt, hu, hd⟩ := ready_of hi
      have hlt' : i < 16 := hlt
      have hset : ∀ j, (l.setIfInBounds i true).getD j false = if j = i then true else l.getD j false := fun j => getD_set (by omega)
      have hu' := flag_false hu
      have HSET := Lib.hid hset
      clear hi hlt hu hset
      have hi : i = 0 ∨ i = 1 ∨ i = 2 ∨ i = 3 ∨ i = 4 ∨ i = 5 ∨ i = 6 ∨ i = 7 ∨ i = 8 ∨ i = 9 ∨ i = 10 ∨ i = 11 ∨ i = 12 ∨ i = 13 ∨ i = 14 ∨ i = 15 := by omega
      clear hlt'
      obtain ⟨p0, p1, p2⟩ := HBw3.out wr F.kept
      rcases hi with rfl | rfl | rfl | rfl | rfl | rfl | rfl | rfl | rfl | rfl | rfl | rfl | rfl | rfl | rfl | rfl
      · refine wpOp_open rfl (fun K hK => ?_)
        go_simp
        exact hK.out _ _ ⟨_, _, _, _, _, _, _, _, _, _, _, _, _, _, _, _, rfl, F.step HSAa.out 0 HSET.out (Kept.refl _ _) _ rfl _ rfl (fun h => absurd h (by decide)) (fun h => absurd h (by decide))⟩
      · refine wpOp_open rfl (fun K hK => ?_)
        go_simp
        exact hK.out _ _ ⟨_, _, _, _, _, _, _, _, _, _, _, _, _, _, _, _, rfl, F.step HSAa.out 1 HSET.out (((Kept.refl _ _).alloc _)) _ rfl _ ((nil_new _).le F.kept.size) (fun h => absurd h (by decide)) (fun h => absurd h (by decide))⟩
      · refine wpOp_open rfl (fun K hK => ?_)
        go_simp
        exact hK.out _ _ ⟨_, _, _, _, _, _, _, _, _, _, _, _, _, _, _, _, rfl, F.step HSAa.out 2 HSET.out (Kept.refl _ _) _ rfl _ rfl (fun h => absurd h (by decide)) (fun h => absurd h (by decide))⟩
      · have d1 : l.getD 1 false = true := by simp [Region.binds] at hd; simp [hd]
        have z1 := F.at_ 1 _ _ rfl rfl d1 hu'
        have d2 : l.getD 2 false = true := by simp [Region.binds] at hd; simp [hd]
        obtain rfl := F.at_ 2 _ _ rfl rfl d2 (flag_out (by rw [hs']; decide))
        refine wpOp_open rfl (fun K hK => ?_)
        refine step_own (w3 := w3) (L := L) (m := (n + 1)) _ _ F.kept z1 HEw3.out HN.out (by omega) rfl rfl rfl rfl ?_
        intro b v' w' hb hO hk hkb
        exact hK.out _ _ ⟨_, _, _, _, _, _, _, _, _, _, _, _, _, _, _, _, rfl, F.own HSET.out hk hu' HPEa.out rfl (by decide) hb hkb _ rfl _ hO⟩
      · refine wpOp_open rfl (fun K hK => ?_)
        go_simp
        exact hK.out _ _ ⟨_, _, _, _, _, _, _, _, _, _, _, _, _, _, _, _, rfl, F.step HSAa.out 4 HSET.out (Kept.refl _ _) _ rfl _ rfl (fun h => absurd h (by decide)) (fun h => absurd h (by decide))⟩
      · refine wpOp_open rfl (fun K hK => ?_)
        go_simp
        exact hK.out _ _ ⟨_, _, _, _, _, _, _, _, _, _, _, _, _, _, _, _, rfl, F.step HSAa.out 5 HSET.out (Kept.refl _ _) _ rfl _ rfl (fun h => absurd h (by decide)) (fun h => absurd h (by decide))⟩
      · have d4 : l.getD 4 false = true := by simp [Region.binds] at hd; simp [hd]
        obtain rfl := F.at_ 4 _ _ rfl rfl d4 (flag_out (by rw [hs']; decide))
        have d5 : l.getD 5 false = true := by simp [Region.binds] at hd; simp [hd]
        obtain rfl := F.at_ 5 _ _ rfl rfl d5 (flag_out (by rw [hs']; decide))
        refine wpOp_open rfl (fun K hK => ?_)
        go_simp
        exact hK.out _ _ ⟨_, _, _, _, _, _, _, _, _, _, _, _, _, _, _, _, rfl, F.step HSAa.out 6 HSET.out (Kept.refl _ _) _ rfl _ (congrArg (fun z => Value.int .i64 z) ((IntWalk.i64_left _).trans hwr)) (fun h => absurd h (by decide)) (fun h => absurd h (by decide))⟩
      · have d6 : l.getD 6 false = true := by simp [Region.binds] at hd; simp [hd]
        obtain rfl := F.at_ 6 _ _ rfl rfl d6 (flag_out (by rw [hs']; decide))
        refine wpOp_open rfl (fun K hK => ?_)
        go_simp
        exact hK.out _ _ ⟨_, _, _, _, _, _, _, _, _, _, _, _, _, _, _, _, rfl, F.step HSAa.out 7 HSET.out (Kept.refl _ _) _ rfl _ rfl (fun h => absurd h (by decide)) (fun h => absurd h (by decide))⟩
      · have d7 : l.getD 7 false = true := by simp [Region.binds] at hd; simp [hd]
        obtain rfl := F.at_ 7 _ _ rfl rfl d7 (flag_out (by rw [hs']; decide))
        refine wpOp_open rfl (fun K hK => ?_)
        go_simp
        exact hK.out _ _ ⟨_, _, _, _, _, _, _, _, _, _, _, _, _, _, _, _, rfl, F.step HSAa.out 8 HSET.out (((Kept.refl _ _).alloc _)) _ rfl _ (lit_new _ ⟨4, 0, (-1), ⟨0, 0⟩, 0, 0⟩) (fun h => absurd h (by decide)) (fun h => absurd h (by decide))⟩
      · have d3 : l.getD 3 false = true := by simp [Region.binds] at hd; simp [hd]
        have z3 := F.at_ 3 _ _ rfl rfl d3 hu'
        have d8 : l.getD 8 false = true := by simp [Region.binds] at hd; simp [hd]
        have z8 := F.at_ 8 _ _ rfl rfl d8 hu'
        refine wpOp_open rfl (fun K hK => ?_)
        refine step_all (w3 := w3) (L := L) (m := (n + 1)) (ev := ⟨4, 0, (-1), ⟨0, 0⟩, 0, 0⟩) _ _ F.kept z3 z8 (by omega) rfl rfl rfl rfl ?_
        intro v' w' hA hk
        exact hK.out _ _ ⟨_, _, _, _, _, _, _, _, _, _, _, _, _, _, _, _, rfl, F.all HSET.out hk hu' d3 HPEa.out (by decide) _ rfl _ hA⟩
      · have d0 : l.getD 0 false = true := by simp [Region.binds] at hd; simp [hd]
        obtain rfl := F.at_ 0 _ _ rfl rfl d0 (flag_out (by rw [hs']; decide))
        have d9 : l.getD 9 false = true := by simp [Region.binds] at hd; simp [hd]
        have z9 := F.at_ 9 _ _ rfl rfl d9 (flag_out (by rw [hs']; decide))
        obtain ⟨g, c, rfl, hE⟩ := z9
        refine wpOp_open rfl (fun K hK => ?_)
        refine step_call (by rfl) 11 #[x.agg, .slice (some ⟨g, 0, none⟩) ((n + 1) + 1) c] (by kernel_rfl) (P := fun v w' => PTwo (PErr true (n + 1)) w' v ∧ Kept (fun _ => False) wr w') (HRUN1.out g c wr F.kept hE) (fun e w' hh => by obtain ⟨a, b, he, hr, hk⟩ := hh; exact ⟨_, he, ⟨a, b, rfl, hr⟩, hk⟩) ?_
        rintro v' w' ⟨hv, hk⟩
        exact hK.out _ _ ⟨_, _, _, _, _, _, _, _, _, _, _, _, _, _, _, _, rfl, F.step HSAa.out 10 HSET.out (hk) _ rfl _ hv (fun h => absurd h (by decide)) (fun _ => d9)⟩
      · have d10 : l.getD 10 false = true := by simp [Region.binds] at hd; simp [hd]
        have z10 := F.at_ 10 _ _ rfl rfl d10 (flag_out (by rw [hs']; decide))
        obtain ⟨ra, rb, rfl, hr⟩ := z10
        refine wpOp_open rfl (fun K hK => ?_)
        go_simp
        have d9 := F.late 10 (by decide) d10
        exact hK.out _ _ ⟨_, _, _, _, _, _, _, _, _, _, _, _, _, _, _, _, rfl, F.step HSAa.out 11 HSET.out (Kept.refl _ _) _ rfl _ ⟨ra, rb, rfl, hr⟩ (fun h => absurd h (by decide)) (fun _ => d9)⟩
      · have d11 : l.getD 11 false = true := by simp [Region.binds] at hd; simp [hd]
        have z11 := F.at_ 11 _ _ rfl rfl d11 (flag_out (by rw [hs']; decide))
        obtain ⟨ra, rb, rfl, hr⟩ := z11
        refine wpOp_open rfl (fun K hK => ?_)
        go_simp
        have d9 := F.late 11 (by decide) d11
        exact hK.out _ _ ⟨_, _, _, _, _, _, _, _, _, _, _, _, _, _, _, _, rfl, F.step HSAa.out 12 HSET.out (Kept.refl _ _) _ rfl _ trivial (fun h => absurd h (by decide)) (fun _ => d9)⟩
      · have d11 : l.getD 11 false = true := by simp [Region.binds] at hd; simp [hd]
        have z11 := F.at_ 11 _ _ rfl rfl d11 (flag_out (by rw [hs']; decide))
        obtain ⟨ra, rb, rfl, hr⟩ := z11
        refine wpOp_open rfl (fun K hK => ?_)
        go_simp
        have d9 := F.late 11 (by decide) d11
        exact hK.out _ _ ⟨_, _, _, _, _, _, _, _, _, _, _, _, _, _, _, _, rfl, F.step HSAa.out 13 HSET.out (Kept.refl _ _) _ rfl _ hr (fun h => absurd h (by decide)) (fun _ => d9)⟩
      · have d12 : l.getD 12 false = true := by simp [Region.binds] at hd; simp [hd]
        have z12 := F.at_ 12 _ _ rfl rfl d12 (flag_out (by rw [hs']; decide))
        refine wpOp_open rfl (fun K hK => ?_)
        go_simp
        have d9 := F.late 12 (by decide) d12
        exact hK.out _ _ ⟨_, _, _, _, _, _, _, _, _, _, _, _, _, _, _, _, rfl, F.step HSAa.out 14 HSET.out (Kept.refl _ _) _ rfl _ z12 (fun h => absurd h (by decide)) (fun _ => d9)⟩
      · have d13 : l.getD 13 false = true := by simp [Region.binds] at hd; simp [hd]
        have z13 := F.at_ 13 _ _ rfl rfl d13 (flag_out (by rw [hs']; decide))
        refine wpOp_open rfl (fun K hK => ?_)
        go_simp
        have d9 := F.late 13 (by decide) d13
        exact hK.out _ _ ⟨_, _, _, _, _, _, _, _, _, _, _, _, _, _, _, _, rfl, F.step HSAa.out 15 HSET.out (Kept.refl _ _) _ rfl _ z13 (fun h => absurd h (by decide)) (fun _ => d9)⟩
    case henda =>
      rintro l a wr hs ⟨v0a, v1a, v2a, v3a, v4a, v5a, v6a, v7a, v8a, v9a, v10a, v11a, v12a, v13a, v14a, v15a, rfl, F⟩ hr
      have hs' : l.size = 16 := hs
      have HAR := all_ready2 hs (by kernel_rfl) hr
      have hR := F.at_ 15 _ _ rfl rfl (HAR 15 (by decide)) (flag_out (by rw [hs']; decide))
      have hK := F.kept
      clear F hr hs hs' HSAa HPEa HAR
      clear hwr
      obtain ⟨gf, hgf, hsf⟩ := hR
      subst hgf
      have HSF := Lib.hid hsf
      have HW4 := Lib.hid hK
      clear hsf hK p0 p1 p2
      obtain ⟨p0, p1, p2⟩ := HBw3.out wr HW4.out
      go_wp2_with fail
      obtain ⟨w4, hw4⟩ : ∃ z, z = wr := ⟨_, rfl⟩
      subst hw4
      have HK4 := Lib.hid (HK3.out.tr0 HW4.out)
      have HBw4 : Hid (∀ w', Kept (fun _ => False) w4 w' → w'.cell? ⟨w.heap.size, 0, none⟩ = some (.slice x.os x.obs.length x.oc) ∧ w'.cell? ⟨w.heap.size, 1, none⟩ = some (.slice x.ps x.prs.length x.pc) ∧ w'.cell? ⟨w.heap.size, 2, none⟩ = some (.slice x.ks x.pis.length x.kc)) := Lib.hid (fun w' hk => HP.out w' (HK4.out.tr0 hk))
      have HXw4 : Hid (∀ w', Kept (fun _ => False) w4 w' → Lies w' w'.heap.size x) := Lib.hid (fun w' hk => HX.out w' (HK4.out.tr0 hk))
      have HEw4 : Hid (∀ w', Kept (fun _ => False) w4 w' → Elems w' w'.heap.size (some ⟨ga, off, none⟩) 7 Ev.cells L) := Lib.hid (fun w' hk => HE.out w' (HK4.out.tr0 hk))
      have HRUN4 : Hid (∀ g c w', Kept (fun _ => False) w4 w' → Elems w' w'.heap.size (some ⟨g, 0, none⟩) 7 Ev.cells (L ++ [⟨4, x.prs.length, nw, ⟨0, 0⟩, 0, 0⟩]) → Calls Tryz.prog 11 #[x.agg, .slice (some ⟨g, 0, none⟩) ((n + 1) + 1) c] w' fun e w'' => ∃ a b, e = .returned (.tuple #[a, b]) ∧ PErr true (n + 1) w'' b ∧ Kept (fun _ => False) w' w'') := Lib.hid (fun g c w' hk => HRUN2.out g c w' (HW4.out.tr0 hk))
      clear HST1 HRUN1 HRUN2
      have HSAb : Hid (StayAll [PEq x.agg, PNil w4.heap.size, PEq (.slice (some ⟨ga, off, none⟩) (n + 1) cap), POwn w4.heap.size (n + 1) L, PEq (.pointer (some ⟨w.heap.size, 1, none⟩)), PEq (.slice x.ps x.prs.length x.pc), PEq (.int .i64 (x.prs.length : Int)), PEq (.int .i64 nw), PEq ((⟨4, x.prs.length, nw, ⟨0, 0⟩, 0, 0⟩ : Ev).agg), PLit ⟨4, x.prs.length, nw, ⟨0, 0⟩, 0, 0⟩, PAll ((n + 1) + 1) (L ++ [⟨4, x.prs.length, nw, ⟨0, 0⟩, 0, 0⟩]), PTwo (PErr true (n + 1)), PTwo (PErr true (n + 1)), PAny, (PErr true (n + 1)), PAny, (PErr true (n + 1))]) := Lib.hid ⟨stay_eq _, stay_nil _, stay_eq _, stay_own _ _ _, stay_eq _, stay_eq _, stay_eq _, stay_eq _, stay_eq _, stay_lit _, stay_all _ _, stay_two HST2.out, stay_two HST2.out, stay_anyR, HST2.out, stay_anyR, HST2.out, trivial⟩
      have HPEb : Hid (∀ jq, jq < 9 → jq ≠ 1 → jq ≠ 3 → ∀ P, ([PEq x.agg, PNil w4.heap.size, PEq (.slice (some ⟨ga, off, none⟩) (n + 1) cap), POwn w4.heap.size (n + 1) L, PEq (.pointer (some ⟨w.heap.size, 1, none⟩)), PEq (.slice x.ps x.prs.length x.pc), PEq (.int .i64 (x.prs.length : Int)), PEq (.int .i64 nw), PEq ((⟨4, x.prs.length, nw, ⟨0, 0⟩, 0, 0⟩ : Ev).agg), PLit ⟨4, x.prs.length, nw, ⟨0, 0⟩, 0, 0⟩, PAll ((n + 1) + 1) (L ++ [⟨4, x.prs.length, nw, ⟨0, 0⟩, 0, 0⟩]), PTwo (PErr true (n + 1)), PTwo (PErr true (n + 1)), PAny, (PErr true (n + 1)), PAny, (PErr true (n + 1))] : List (World → Value → Prop))[jq]? = some P → ∃ c, P = PEq c) := Lib.hid (fun jq h1 h2 h3 P hP => by
        have hj : jq = 0 ∨ jq = 2 ∨ jq = 4 ∨ jq = 5 ∨ jq = 6 ∨ jq = 7 ∨ jq = 8 := by omega
        rcases hj with rfl | rfl | rfl | rfl | rfl | rfl | rfl <;> (simp only [List.getElem?_cons_zero, List.getElem?_cons_succ, Option.some.injEq] at hP; exact ⟨_, hP.symm⟩))
      refine wp_region_any (by kernel_rfl) (wpAny_inv (fun l a w' => ∃ v0 v1 v2 v3 v4 v5 v6 v7 v8 v9 v10 v11 v12 v13 v14 v15 v16, a = ⟨#[x.agg, Value.slice (some ⟨ga, off, none⟩) (n + 1) cap, Value.int IntKind.i64 (wrap64 (nw + 1)), Value.pointer (some ⟨w.heap.size, 0, none⟩), undef, undef, Value.bool false, Value.bool true, Value.bool true, Value.slice (some ⟨g, 0, none⟩) m c, Value.nilIface, Value.int IntKind.i64 nw, v14a, Er.spotV gf, v15, v16, Value.bool true, Value.agg #[Value.slice x.os x.obs.length x.oc, Value.slice x.ps x.prs.length x.pc, Value.slice x.ks x.pis.length x.kc], Value.bool true, Value.bool true, Value.bool false, Value.bool false, Value.slice (some ⟨ga, off, none⟩) (n + 1) cap, Value.int IntKind.i64 ((n : Int) + 1), Value.bool (decide (500 < (n : Int) + 1)), Value.bool (decide (500 < (n : Int) + 1)), undef, Value.tuple #[Value.slice (some ⟨g, 0, none⟩) m c, Value.nilIface], Value.agg #[Value.slice x.os x.obs.length x.oc, Value.slice x.ps x.prs.length x.pc, Value.slice x.ks x.pis.length x.kc], Value.slice (some ⟨ga, off, none⟩) (n + 1) cap, Value.tuple #[Value.slice (some ⟨g, 0, none⟩) m c, Value.nilIface], Value.slice (some ⟨g, 0, none⟩) m c, Value.nilIface, Value.nilIface, Value.bool false, Value.bool false, Value.slice (some ⟨ga, off, none⟩) (n + 1) cap, Value.int IntKind.i64 ((n : Int) + 1), Value.bool false, Value.bool false, undef, Value.slice (some ⟨ga, off, none⟩) (n + 1) cap, Value.slice (some ⟨ga, off, none⟩) (n + 1) cap, Value.int IntKind.i64 ((n : Int) + 1), Value.int IntKind.i64 (n : Int), Value.pointer (some ⟨ga, off + n * 7, none⟩), Value.pointer (some ⟨ga, off + n * 7 + 2, none⟩), Value.int IntKind.i64 nw, Value.int IntKind.i64 t, Value.bool true, Value.bool true, undef, undef, undef, Value.bool true, Value.int IntKind.i64 nw, Value.int IntKind.i64 (wrap64 (nw + 1)), v11a, v0a, v1a, v2a, v3a, v4a, v5a, v6a, v7a, v8a, v9a, v10a, v12a, v13a, v12, v0, v1, v2, v3, v4, v5, v6, v7, v8, v9, v10, v11, v13, v14, undef, undef, undef, undef, undef, undef, undef, undef, undef, undef, undef, undef, undef], []⟩ ∧ AG w4 [PEq x.agg, PNil w4.heap.size, PEq (.slice (some ⟨ga, off, none⟩) (n + 1) cap), POwn w4.heap.size (n + 1) L, PEq (.pointer (some ⟨w.heap.size, 1, none⟩)), PEq (.slice x.ps x.prs.length x.pc), PEq (.int .i64 (x.prs.length : Int)), PEq (.int .i64 nw), PEq ((⟨4, x.prs.length, nw, ⟨0, 0⟩, 0, 0⟩ : Ev).agg), PLit ⟨4, x.prs.length, nw, ⟨0, 0⟩, 0, 0⟩, PAll ((n + 1) + 1) (L ++ [⟨4, x.prs.length, nw, ⟨0, 0⟩, 0, 0⟩]), PTwo (PErr true (n + 1)), PTwo (PErr true (n + 1)), PAny, (PErr true (n + 1)), PAny, (PErr true (n + 1))] 9 l w' [v0, v1, v2, v3, v4, v5, v6, v7, v8, v9, v10, v11, v12, v13, v14, v15, v16]) ?hstepb ?hendb _ _ _ _ (by simp) (by simp) ?hstartb)
      case hstartb =>
        exact ⟨_, _, _, _, _, _, _, _, _, _, _, _, _, _, _, _, _, rfl, ⟨(Kept.refl _ _).drew, fun i P v _ hv hf _ => (flag_none hf).elim, fun h => (flag_none h).elim, fun i _ h => (flag_none h).elim⟩⟩
      case hstepb =>
        rintro l a wr i hs ⟨v0, v1, v2, v3, v4, v5, v6, v7, v8, v9, v10, v11, v12, v13, v14, v15, v16, rfl, F⟩ hi
        have hs' : l.size = 17 := hs
        obtain ⟨hlt, hu, hd⟩ := ready_of hi
        have hlt' : i < 17 := hlt
        have hset : ∀ j, (l.setIfInBounds i true).getD j false = if j = i then true else l.getD j false := fun j => getD_set (by omega)
        have hu' := flag_false hu
        have HSET := Lib.hid hset
        clear hi hlt hu hset
        have hi : i = 0 ∨ i = 1 ∨ i = 2 ∨ i = 3 ∨ i = 4 ∨ i = 5 ∨ i = 6 ∨ i = 7 ∨ i = 8 ∨ i = 9 ∨ i = 10 ∨ i = 11 ∨ i = 12 ∨ i = 13 ∨ i = 14 ∨ i = 15 ∨ i = 16 := by omega
        clear hlt'
        obtain ⟨p0, p1, p2⟩ := HBw4.out wr F.kept
        rcases hi with rfl | rfl | rfl | rfl | rfl | rfl | rfl | rfl | rfl | rfl | rfl | rfl | rfl | rfl | rfl | rfl | rfl
        · refine wpOp_open rfl (fun K hK => ?_)
          go_simp
          exact hK.out _ _ ⟨_, _, _, _, _, _, _, _, _, _, _, _, _, _, _, _, _, rfl, F.step HSAb.out 0 HSET.out (Kept.refl _ _) _ rfl _ rfl (fun h => absurd h (by decide)) (fun h => absurd h (by decide))⟩
        · refine wpOp_open rfl (fun K hK => ?_)
          go_simp
          exact hK.out _ _ ⟨_, _, _, _, _, _, _, _, _, _, _, _, _, _, _, _, _, rfl, F.step HSAb.out 1 HSET.out (((Kept.refl _ _).alloc _)) _ rfl _ ((nil_new _).le F.kept.size) (fun h => absurd h (by decide)) (fun h => absurd h (by decide))⟩
        · refine wpOp_open rfl (fun K hK => ?_)
          go_simp
          exact hK.out _ _ ⟨_, _, _, _, _, _, _, _, _, _, _, _, _, _, _, _, _, rfl, F.step HSAb.out 2 HSET.out (Kept.refl _ _) _ rfl _ rfl (fun h => absurd h (by decide)) (fun h => absurd h (by decide))⟩
        · have d1 : l.getD 1 false = true := by simp [Region.binds] at hd; simp [hd]
          have z1 := F.at_ 1 _ _ rfl rfl d1 hu'
          have d2 : l.getD 2 false = true := by simp [Region.binds] at hd; simp [hd]
          obtain rfl := F.at_ 2 _ _ rfl rfl d2 (flag_out (by rw [hs']; decide))
          refine wpOp_open rfl (fun K hK => ?_)
          refine step_own (w3 := w4) (L := L) (m := (n + 1)) _ _ F.kept z1 HEw4.out HN.out (by omega) rfl rfl rfl rfl ?_
          intro b v' w' hb hO hk hkb
          exact hK.out _ _ ⟨_, _, _, _, _, _, _, _, _, _, _, _, _, _, _, _, _, rfl, F.own HSET.out hk hu' HPEb.out rfl (by decide) hb hkb _ rfl _ hO⟩
        · refine wpOp_open rfl (fun K hK => ?_)
          go_simp
          exact hK.out _ _ ⟨_, _, _, _, _, _, _, _, _, _, _, _, _, _, _, _, _, rfl, F.step HSAb.out 4 HSET.out (Kept.refl _ _) _ rfl _ rfl (fun h => absurd h (by decide)) (fun h => absurd h (by decide))⟩
        · have d4 : l.getD 4 false = true := by simp [Region.binds] at hd; simp [hd]
          obtain rfl := F.at_ 4 _ _ rfl rfl d4 (flag_out (by rw [hs']; decide))
          refine wpOp_open rfl (fun K hK => ?_)
          go_simp
          exact hK.out _ _ ⟨_, _, _, _, _, _, _, _, _, _, _, _, _, _, _, _, _, rfl, F.step HSAb.out 5 HSET.out (Kept.refl _ _) _ rfl _ rfl (fun h => absurd h (by decide)) (fun h => absurd h (by decide))⟩
        · have d5 : l.getD 5 false = true := by simp [Region.binds] at hd; simp [hd]
          obtain rfl := F.at_ 5 _ _ rfl rfl d5 (flag_out (by rw [hs']; decide))
          refine wpOp_open rfl (fun K hK => ?_)
          go_simp
          exact hK.out _ _ ⟨_, _, _, _, _, _, _, _, _, _, _, _, _, _, _, _, _, rfl, F.step HSAb.out 6 HSET.out (Kept.refl _ _) _ rfl _ rfl (fun h => absurd h (by decide)) (fun h => absurd h (by decide))⟩
        · refine wpOp_open rfl (fun K hK => ?_)
          go_simp
          exact hK.out _ _ ⟨_, _, _, _, _, _, _, _, _, _, _, _, _, _, _, _, _, rfl, F.step HSAb.out 7 HSET.out (Kept.refl _ _) _ rfl _ rfl (fun h => absurd h (by decide)) (fun h => absurd h (by decide))⟩
        · have d6 : l.getD 6 false = true := by simp [Region.binds] at hd; simp [hd]
          obtain rfl := F.at_ 6 _ _ rfl rfl d6 (flag_out (by rw [hs']; decide))
          have d7 : l.getD 7 false = true := by simp [Region.binds] at hd; simp [hd]
          obtain rfl := F.at_ 7 _ _ rfl rfl d7 (flag_out (by rw [hs']; decide))
          refine wpOp_open rfl (fun K hK => ?_)
          go_simp
          exact hK.out _ _ ⟨_, _, _, _, _, _, _, _, _, _, _, _, _, _, _, _, _, rfl, F.step HSAb.out 8 HSET.out (Kept.refl _ _) _ rfl _ rfl (fun h => absurd h (by decide)) (fun h => absurd h (by decide))⟩
        · have d8 : l.getD 8 false = true := by simp [Region.binds] at hd; simp [hd]
          obtain rfl := F.at_ 8 _ _ rfl rfl d8 (flag_out (by rw [hs']; decide))
          refine wpOp_open rfl (fun K hK => ?_)
          go_simp
          exact hK.out _ _ ⟨_, _, _, _, _, _, _, _, _, _, _, _, _, _, _, _, _, rfl, F.step HSAb.out 9 HSET.out (((Kept.refl _ _).alloc _)) _ rfl _ (lit_new _ ⟨4, x.prs.length, nw, ⟨0, 0⟩, 0, 0⟩) (fun h => absurd h (by decide)) (fun h => absurd h (by decide))⟩
        · have d3 : l.getD 3 false = true := by simp [Region.binds] at hd; simp [hd]
          have z3 := F.at_ 3 _ _ rfl rfl d3 hu'
          have d9 : l.getD 9 false = true := by simp [Region.binds] at hd; simp [hd]
          have z9 := F.at_ 9 _ _ rfl rfl d9 hu'
          refine wpOp_open rfl (fun K hK => ?_)
          refine step_all (w3 := w4) (L := L) (m := (n + 1)) (ev := ⟨4, x.prs.length, nw, ⟨0, 0⟩, 0, 0⟩) _ _ F.kept z3 z9 (by omega) rfl rfl rfl rfl ?_
          intro v' w' hA hk
          exact hK.out _ _ ⟨_, _, _, _, _, _, _, _, _, _, _, _, _, _, _, _, _, rfl, F.all HSET.out hk hu' d3 HPEb.out (by decide) _ rfl _ hA⟩
        · have d0 : l.getD 0 false = true := by simp [Region.binds] at hd; simp [hd]
          obtain rfl := F.at_ 0 _ _ rfl rfl d0 (flag_out (by rw [hs']; decide))
          have d10 : l.getD 10 false = true := by simp [Region.binds] at hd; simp [hd]
          have z10 := F.at_ 10 _ _ rfl rfl d10 (flag_out (by rw [hs']; decide))
          obtain ⟨g, c, rfl, hE⟩ := z10
          refine wpOp_open rfl (fun K hK => ?_)
          refine step_call (by rfl) 11 #[x.agg, .slice (some ⟨g, 0, none⟩) ((n + 1) + 1) c] (by kernel_rfl) (P := fun v w' => PTwo (PErr true (n + 1)) w' v ∧ Kept (fun _ => False) wr w') (HRUN4.out g c wr F.kept hE) (fun e w' hh => by obtain ⟨a, b, he, hr, hk⟩ := hh; exact ⟨_, he, ⟨a, b, rfl, hr⟩, hk⟩) ?_
          rintro v' w' ⟨hv, hk⟩
          exact hK.out _ _ ⟨_, _, _, _, _, _, _, _, _, _, _, _, _, _, _, _, _, rfl, F.step HSAb.out 11 HSET.out (hk) _ rfl _ hv (fun h => absurd h (by decide)) (fun _ => d10)⟩
        · have d11 : l.getD 11 false = true := by simp [Region.binds] at hd; simp [hd]
          have z11 := F.at_ 11 _ _ rfl rfl d11 (flag_out (by rw [hs']; decide))
          obtain ⟨ra, rb, rfl, hr⟩ := z11
          refine wpOp_open rfl (fun K hK => ?_)
          go_simp
          have d10 := F.late 11 (by decide) d11
          exact hK.out _ _ ⟨_, _, _, _, _, _, _, _, _, _, _, _, _, _, _, _, _, rfl, F.step HSAb.out 12 HSET.out (Kept.refl _ _) _ rfl _ ⟨ra, rb, rfl, hr⟩ (fun h => absurd h (by decide)) (fun _ => d10)⟩
        · have d12 : l.getD 12 false = true := by simp [Region.binds] at hd; simp [hd]
          have z12 := F.at_ 12 _ _ rfl rfl d12 (flag_out (by rw [hs']; decide))
          obtain ⟨ra, rb, rfl, hr⟩ := z12
          refine wpOp_open rfl (fun K hK => ?_)
          go_simp
          have d10 := F.late 12 (by decide) d12
          exact hK.out _ _ ⟨_, _, _, _, _, _, _, _, _, _, _, _, _, _, _, _, _, rfl, F.step HSAb.out 13 HSET.out (Kept.refl _ _) _ rfl _ trivial (fun h => absurd h (by decide)) (fun _ => d10)⟩
        · have d12 : l.getD 12 false = true := by simp [Region.binds] at hd; simp [hd]
          have z12 := F.at_ 12 _ _ rfl rfl d12 (flag_out (by rw [hs']; decide))
          obtain ⟨ra, rb, rfl, hr⟩ := z12
          refine wpOp_open rfl (fun K hK => ?_)
          go_simp
          have d10 := F.late 12 (by decide) d12
          exact hK.out _ _ ⟨_, _, _, _, _, _, _, _, _, _, _, _, _, _, _, _, _, rfl, F.step HSAb.out 14 HSET.out (Kept.refl _ _) _ rfl _ hr (fun h => absurd h (by decide)) (fun _ => d10)⟩
        · have d13 : l.getD 13 false = true := by simp [Region.binds] at hd; simp [hd]
          have z13 := F.at_ 13 _ _ rfl rfl d13 (flag_out (by rw [hs']; decide))
          refine wpOp_open rfl (fun K hK => ?_)
          go_simp
          have d10 := F.late 13 (by decide) d13
          exact hK.out _ _ ⟨_, _, _, _, _, _, _, _, _, _, _, _, _, _, _, _, _, rfl, F.step HSAb.out 15 HSET.out (Kept.refl _ _) _ rfl _ z13 (fun h => absurd h (by decide)) (fun _ => d10)⟩
        · have d14 : l.getD 14 false = true := by simp [Region.binds] at hd; simp [hd]
          have z14 := F.at_ 14 _ _ rfl rfl d14 (flag_out (by rw [hs']; decide))
          refine wpOp_open rfl (fun K hK => ?_)
          go_simp
          have d10 := F.late 14 (by decide) d14
          exact hK.out _ _ ⟨_, _, _, _, _, _, _, _, _, _, _, _, _, _, _, _, _, rfl, F.step HSAb.out 16 HSET.out (Kept.refl _ _) _ rfl _ z14 (fun h => absurd h (by decide)) (fun _ => d10)⟩
      case hendb =>
        rintro l a wr hs ⟨v0b, v1b, v2b, v3b, v4b, v5b, v6b, v7b, v8b, v9b, v10b, v11b, v12b, v13b, v14b, v15b, v16b, rfl, F⟩ hr
        have hs' : l.size = 17 := hs
        have HAR := all_ready2 hs (by kernel_rfl) hr
        have hR := F.at_ 16 _ _ rfl rfl (HAR 16 (by decide)) (flag_out (by rw [hs']; decide))
        have hK := F.kept
        clear F hr hs hs' HSAb HPEb HAR
        obtain ⟨gg, hgg, hsg⟩ := hR
        subst hgg
        have HSG := Lib.hid hsg
        have HK5 := Lib.hid (HK4.out.tr0 hK)
        have HI1 := Lib.hid (Er.lawIs_any (HSF.out.kept hK (fun f => f)) (HHW.out wr HK5.out))
        clear hsg hK p0 p1 p2
        go_wp2_with fail
        refine HI1.out.mono ?_
        rintro e w6 ⟨rfl, hk6⟩
        have HI2 := Lib.hid (Er.lawIs_any (HSG.out.kept hk6 (fun f => f)) (HHW.out w6 (HK5.out.tr0 hk6)))
        have HK6 := Lib.hid (HK5.out.tr0 hk6)
        clear hk6
        go_wp2_with fail
        refine HI2.out.mono ?_
        rintro e w7 ⟨rfl, hk7⟩
        have HF := Lib.hid (HFIN.out w7 (HK6.out.tr0 hk7))
        clear hk7
        go_wp2_with fail
        go_ret
        exact ⟨rfl, HF.out⟩
  have hb1' : 1 ≤ t := by omega
  by_cases hb2 : nw < t
  · have hwr : wrap64 (nw - wrap64 (nw + 1)) = -1 := by unfold wrap64; omega
    go_wp2_with fail
    have HLT : Hid ((-1) < nw ∧ (-1) ≤ 9223372036854775807) := Lib.hid ⟨by omega, by omega⟩
    clear hlo hhi hb1 hb1' hb2
    have HBw3 : Hid (∀ w', Kept (fun _ => False) w3 w' → w'.cell? ⟨w.heap.size, 0, none⟩ = some (.slice x.os x.obs.length x.oc) ∧ w'.cell? ⟨w.heap.size, 1, none⟩ = some (.slice x.ps x.prs.length x.pc) ∧ w'.cell? ⟨w.heap.size, 2, none⟩ = some (.slice x.ks x.pis.length x.kc)) := Lib.hid (fun w' hk => HP.out w' (HK3.out.tr0 hk))
    have HXw3 : Hid (∀ w', Kept (fun _ => False) w3 w' → Lies w' w'.heap.size x) := Lib.hid (fun w' hk => HX.out w' (HK3.out.tr0 hk))
    have HEw3 : Hid (∀ w', Kept (fun _ => False) w3 w' → Elems w' w'.heap.size (some ⟨ga, off, none⟩) 7 Ev.cells L) := Lib.hid (fun w' hk => HE.out w' (HK3.out.tr0 hk))
    have HST1 : Hid (Stay (PErr true (n + 1))) := Lib.hid (stay_err _ _)
    have HRUN1 : Hid (∀ g c w', Kept (fun _ => False) w3 w' → Elems w' w'.heap.size (some ⟨g, 0, none⟩) 7 Ev.cells (L ++ [⟨4, 0, (-1), ⟨0, 0⟩, 0, 0⟩]) → Calls Tryz.prog 11 #[x.agg, .slice (some ⟨g, 0, none⟩) ((n + 1) + 1) c] w' fun e w'' => ∃ a b, e = .returned (.tuple #[a, b]) ∧ PErr true (n + 1) w'' b ∧ Kept (fun _ => False) w' w'') := Lib.hid (fun g c w' hk hE => run_more x L ⟨4, 0, (-1), ⟨0, 0⟩, 0, 0⟩ _ HN.out (by omega) H64.out ⟨HLT.out.2, (by show (-9223372036854775808 : Int) ≤ 0; decide), (by show (0 : Int) ≤ 9223372036854775807; decide)⟩ HLG.out.1 HLG.out.2 HG.out _ (by rw [ev_back (by rw [HNOW.out]; exact HLT.out.1)]; rfl) w' _ c (HXw3.out w' hk) hE)
    have HST2 : Hid (Stay (PErr true (n + 1))) := Lib.hid (stay_err _ _)
    have HRUN2 : Hid (∀ g c w', Kept (fun _ => False) w3 w' → Elems w' w'.heap.size (some ⟨g, 0, none⟩) 7 Ev.cells (L ++ [⟨4, x.prs.length, nw, ⟨0, 0⟩, 0, 0⟩]) → Calls Tryz.prog 11 #[x.agg, .slice (some ⟨g, 0, none⟩) ((n + 1) + 1) c] w' fun e w'' => ∃ a b, e = .returned (.tuple #[a, b]) ∧ PErr true (n + 1) w'' b ∧ Kept (fun _ => False) w' w'') := Lib.hid (fun g c w' hk hE => run_more x L ⟨4, x.prs.length, nw, ⟨0, 0⟩, 0, 0⟩ _ HN.out (by omega) H64.out ⟨HNW.out.2, (by show (-9223372036854775808 : Int) ≤ 0; decide), (by show (0 : Int) ≤ 9223372036854775807; decide)⟩ HLG.out.1 HLG.out.2 HG.out _ (by rw [ev_nobody (by rw [HTHR.out]; exact Int.le_refl _)]; rfl) w' _ c (HXw3.out w' hk) hE)
    have HSAa : Hid (StayAll [PEq x.agg, PNil w3.heap.size, PEq (.slice (some ⟨ga, off, none⟩) (n + 1) cap), POwn w3.heap.size (n + 1) L, PEq (.int .i64 nw), PEq (.int .i64 (wrap64 (nw + 1))), PEq (.int .i64 (-1)), PEq ((⟨4, 0, (-1), ⟨0, 0⟩, 0, 0⟩ : Ev).agg), PLit ⟨4, 0, (-1), ⟨0, 0⟩, 0, 0⟩, PAll ((n + 1) + 1) (L ++ [⟨4, 0, (-1), ⟨0, 0⟩, 0, 0⟩]), PTwo (PErr true (n + 1)), PTwo (PErr true (n + 1)), PAny, (PErr true (n + 1)), PAny, (PErr true (n + 1))]) := Lib.hid ⟨stay_eq _, stay_nil _, stay_eq _, stay_own _ _ _, stay_eq _, stay_eq _, stay_eq _, stay_eq _, stay_lit _, stay_all _ _, stay_two HST1.out, stay_two HST1.out, stay_anyR, HST1.out, stay_anyR, HST1.out, trivial⟩
    have HPEa : Hid (∀ jq, jq < 8 → jq ≠ 1 → jq ≠ 3 → ∀ P, ([PEq x.agg, PNil w3.heap.size, PEq (.slice (some ⟨ga, off, none⟩) (n + 1) cap), POwn w3.heap.size (n + 1) L, PEq (.int .i64 nw), PEq (.int .i64 (wrap64 (nw + 1))), PEq (.int .i64 (-1)), PEq ((⟨4, 0, (-1), ⟨0, 0⟩, 0, 0⟩ : Ev).agg), PLit ⟨4, 0, (-1), ⟨0, 0⟩, 0, 0⟩, PAll ((n + 1) + 1) (L ++ [⟨4, 0, (-1), ⟨0, 0⟩, 0, 0⟩]), PTwo (PErr true (n + 1)), PTwo (PErr true (n + 1)), PAny, (PErr true (n + 1)), PAny, (PErr true (n + 1))] : List (World → Value → Prop))[jq]? = some P → ∃ c, P = PEq c) := Lib.hid (fun jq h1 h2 h3 P hP => by
      have hj : jq = 0 ∨ jq = 2 ∨ jq = 4 ∨ jq = 5 ∨ jq = 6 ∨ jq = 7 := by omega
      rcases hj with rfl | rfl | rfl | rfl | rfl | rfl <;> (simp only [List.getElem?_cons_zero, List.getElem?_cons_succ, Option.some.injEq] at hP; exact ⟨_, hP.symm⟩))
    refine wp_region_any (by kernel_rfl) (wpAny_inv (fun l a w' => ∃ v0 v1 v2 v3 v4 v5 v6 v7 v8 v9 v10 v11 v12 v13 v14 v15, a = ⟨#[x.agg, Value.slice (some ⟨ga, off, none⟩) (n + 1) cap, Value.int IntKind.i64 (wrap64 (nw + 1)), Value.pointer (some ⟨w.heap.size, 0, none⟩), undef, undef, Value.bool false, Value.bool true, Value.bool true, Value.slice (some ⟨g, 0, none⟩) m c, Value.nilIface, Value.int IntKind.i64 nw, v14, v15, undef, undef, Value.bool true, Value.agg #[Value.slice x.os x.obs.length x.oc, Value.slice x.ps x.prs.length x.pc, Value.slice x.ks x.pis.length x.kc], Value.bool true, Value.bool true, Value.bool false, Value.bool false, Value.slice (some ⟨ga, off, none⟩) (n + 1) cap, Value.int IntKind.i64 ((n : Int) + 1), Value.bool (decide (500 < (n : Int) + 1)), Value.bool (decide (500 < (n : Int) + 1)), undef, Value.tuple #[Value.slice (some ⟨g, 0, none⟩) m c, Value.nilIface], Value.agg #[Value.slice x.os x.obs.length x.oc, Value.slice x.ps x.prs.length x.pc, Value.slice x.ks x.pis.length x.kc], Value.slice (some ⟨ga, off, none⟩) (n + 1) cap, Value.tuple #[Value.slice (some ⟨g, 0, none⟩) m c, Value.nilIface], Value.slice (some ⟨g, 0, none⟩) m c, Value.nilIface, Value.nilIface, Value.bool false, Value.bool false, Value.slice (some ⟨ga, off, none⟩) (n + 1) cap, Value.int IntKind.i64 ((n : Int) + 1), Value.bool false, Value.bool false, undef, Value.slice (some ⟨ga, off, none⟩) (n + 1) cap, Value.slice (some ⟨ga, off, none⟩) (n + 1) cap, Value.int IntKind.i64 ((n : Int) + 1), Value.int IntKind.i64 (n : Int), Value.pointer (some ⟨ga, off + n * 7, none⟩), Value.pointer (some ⟨ga, off + n * 7 + 2, none⟩), Value.int IntKind.i64 nw, Value.int IntKind.i64 t, Value.bool (decide (t < 1)), Value.bool (decide (t < 1)), Value.int IntKind.i64 t, Value.int IntKind.i64 nw, Value.bool true, Value.bool true, Value.int IntKind.i64 nw, Value.int IntKind.i64 (wrap64 (nw + 1)), v11, v0, v1, v2, v3, v4, v5, v6, v7, v8, v9, v10, v12, v13, undef, undef, undef, undef, undef, undef, undef, undef, undef, undef, undef, undef, undef, undef, undef, undef, undef, undef, undef, undef, undef, undef, undef, undef, undef, undef, undef, undef], []⟩ ∧ AG w3 [PEq x.agg, PNil w3.heap.size, PEq (.slice (some ⟨ga, off, none⟩) (n + 1) cap), POwn w3.heap.size (n + 1) L, PEq (.int .i64 nw), PEq (.int .i64 (wrap64 (nw + 1))), PEq (.int .i64 (-1)), PEq ((⟨4, 0, (-1), ⟨0, 0⟩, 0, 0⟩ : Ev).agg), PLit ⟨4, 0, (-1), ⟨0, 0⟩, 0, 0⟩, PAll ((n + 1) + 1) (L ++ [⟨4, 0, (-1), ⟨0, 0⟩, 0, 0⟩]), PTwo (PErr true (n + 1)), PTwo (PErr true (n + 1)), PAny, (PErr true (n + 1)), PAny, (PErr true (n + 1))] 8 l w' [v0, v1, v2, v3, v4, v5, v6, v7, v8, v9, v10, v11, v12, v13, v14, v15]) ?hstepa ?henda _ _ _ _ (by simp) (by simp) ?hstarta)
    case hstarta =>
      exact ⟨_, _, _, _, _, _, _, _, _, _, _, _, _, _, _, _, rfl, ⟨(Kept.refl _ _).drew, fun i P v _ hv hf _ => (flag_none hf).elim, fun h => (flag_none h).elim, fun i _ h => (flag_none h).elim⟩⟩
    case hstepa =>
      rintro l a wr i hs ⟨v0, v1, v2, v3, v4, v5, v6, v7, v8, v9, v10, v11, v12, v13, v14, v15, rfl, F⟩ hi
      have hs' : l.size = 16 := hs
      obtain ⟨hlt, hu, hd⟩ := ready_of hi
      have hlt' : i < 16 := hlt
      have hset : ∀ j, (l.setIfInBounds i true).getD j false = if j = i then true else l.getD j false := fun j => getD_set (by omega)
      have hu' := flag_false hu
      have HSET := Lib.hid hset
      clear hi hlt hu hset
      have hi : i = 0 ∨ i = 1 ∨ i = 2 ∨ i = 3 ∨ i = 4 ∨ i = 5 ∨ i = 6 ∨ i = 7 ∨ i = 8 ∨ i = 9 ∨ i = 10 ∨ i = 11 ∨ i = 12 ∨ i = 13 ∨ i = 14 ∨ i = 15 := by omega
      clear hlt'
      obtain ⟨p0, p1, p2⟩ := HBw3.out wr F.kept
      rcases hi with rfl | rfl | rfl | rfl | rfl | rfl | rfl | rfl | rfl | rfl | rfl | rfl | rfl | rfl | rfl | rfl
      · refine wpOp_open rfl (fun K hK => ?_)
        go_simp
        exact hK.out _ _ ⟨_, _, _, _, _, _, _, _, _, _, _, _, _, _, _, _, rfl, F.step HSAa.out 0 HSET.out (Kept.refl _ _) _ rfl _ rfl (fun h => absurd h (by decide)) (fun h => absurd h (by decide))⟩
      · refine wpOp_open rfl (fun K hK => ?_)
        go_simp
        exact hK.out _ _ ⟨_, _, _, _, _, _, _, _, _, _, _, _, _, _, _, _, rfl, F.step HSAa.out 1 HSET.out (((Kept.refl _ _).alloc _)) _ rfl _ ((nil_new _).le F.kept.size) (fun h => absurd h (by decide)) (fun h => absurd h (by decide))⟩
      · refine wpOp_open rfl (fun K hK => ?_)
        go_simp
        exact hK.out _ _ ⟨_, _, _, _, _, _, _, _, _, _, _, _, _, _, _, _, rfl, F.step HSAa.out 2 HSET.out (Kept.refl _ _) _ rfl _ rfl (fun h => absurd h (by decide)) (fun h => absurd h (by decide))⟩
      · have d1 : l.getD 1 false = true := by simp [Region.binds] at hd; simp [hd]
        have z1 := F.at_ 1 _ _ rfl rfl d1 hu'
        have d2 : l.getD 2 false = true := by simp [Region.binds] at hd; simp [hd]
        obtain rfl := F.at_ 2 _ _ rfl rfl d2 (flag_out (by rw [hs']; decide))
        refine wpOp_open rfl (fun K hK => ?_)
        refine step_own (w3 := w3) (L := L) (m := (n + 1)) _ _ F.kept z1 HEw3.out HN.out (by omega) rfl rfl rfl rfl ?_
        intro b v' w' hb hO hk hkb
        exact hK.out _ _ ⟨_, _, _, _, _, _, _, _, _, _, _, _, _, _, _, _, rfl, F.own HSET.out hk hu' HPEa.out rfl (by decide) hb hkb _ rfl _ hO⟩
      · refine wpOp_open rfl (fun K hK => ?_)
        go_simp
        exact hK.out _ _ ⟨_, _, _, _, _, _, _, _, _, _, _, _, _, _, _, _, rfl, F.step HSAa.out 4 HSET.out (Kept.refl _ _) _ rfl _ rfl (fun h => absurd h (by decide)) (fun h => absurd h (by decide))⟩
      · refine wpOp_open rfl (fun K hK => ?_)
        go_simp
        exact hK.out _ _ ⟨_, _, _, _, _, _, _, _, _, _, _, _, _, _, _, _, rfl, F.step HSAa.out 5 HSET.out (Kept.refl _ _) _ rfl _ rfl (fun h => absurd h (by decide)) (fun h => absurd h (by decide))⟩
      · have d4 : l.getD 4 false = true := by simp [Region.binds] at hd; simp [hd]
        obtain rfl := F.at_ 4 _ _ rfl rfl d4 (flag_out (by rw [hs']; decide))
        have d5 : l.getD 5 false = true := by simp [Region.binds] at hd; simp [hd]
        obtain rfl := F.at_ 5 _ _ rfl rfl d5 (flag_out (by rw [hs']; decide))
        refine wpOp_open rfl (fun K hK => ?_)
        go_simp
        exact hK.out _ _ ⟨_, _, _, _, _, _, _, _, _, _, _, _, _, _, _, _, rfl, F.step HSAa.out 6 HSET.out (Kept.refl _ _) _ rfl _ (congrArg (fun z => Value.int .i64 z) ((IntWalk.i64_left _).trans hwr)) (fun h => absurd h (by decide)) (fun h => absurd h (by decide))⟩
      · have d6 : l.getD 6 false = true := by simp [Region.binds] at hd; simp [hd]
        obtain rfl := F.at_ 6 _ _ rfl rfl d6 (flag_out (by rw [hs']; decide))
        refine wpOp_open rfl (fun K hK => ?_)
        go_simp
        exact hK.out _ _ ⟨_, _, _, _, _, _, _, _, _, _, _, _, _, _, _, _, rfl, F.step HSAa.out 7 HSET.out (Kept.refl _ _) _ rfl _ rfl (fun h => absurd h (by decide)) (fun h => absurd h (by decide))⟩
      · have d7 : l.getD 7 false = true := by simp [Region.binds] at hd; simp [hd]
        obtain rfl := F.at_ 7 _ _ rfl rfl d7 (flag_out (by rw [hs']; decide))
        refine wpOp_open rfl (fun K hK => ?_)
        go_simp
        exact hK.out _ _ ⟨_, _, _, _, _, _, _, _, _, _, _, _, _, _, _, _, rfl, F.step HSAa.out 8 HSET.out (((Kept.refl _ _).alloc _)) _ rfl _ (lit_new _ ⟨4, 0, (-1), ⟨0, 0⟩, 0, 0⟩) (fun h => absurd h (by decide)) (fun h => absurd h (by decide))⟩
      · have d3 : l.getD 3 false = true := by simp [Region.binds] at hd; simp [hd]
        have z3 := F.at_ 3 _ _ rfl rfl d3 hu'
        have d8 : l.getD 8 false = true := by simp [Region.binds] at hd; simp [hd]
        have z8 := F.at_ 8 _ _ rfl rfl d8 hu'
        refine wpOp_open rfl (fun K hK => ?_)
        refine step_all (w3 := w3) (L := L) (m := (n + 1)) (ev := ⟨4, 0, (-1), ⟨0, 0⟩, 0, 0⟩) _ _ F.kept z3 z8 (by omega) rfl rfl rfl rfl ?_
        intro v' w' hA hk
        exact hK.out _ _ ⟨_, _, _, _, _, _, _, _, _, _, _, _, _, _, _, _, rfl, F.all HSET.out hk hu' d3 HPEa.out (by decide) _ rfl _ hA⟩
      · have d0 : l.getD 0 false = true := by simp [Region.binds] at hd; simp [hd]
        obtain rfl := F.at_ 0 _ _ rfl rfl d0 (flag_out (by rw [hs']; decide))
        have d9 : l.getD 9 false = true := by simp [Region.binds] at hd; simp [hd]
        have z9 := F.at_ 9 _ _ rfl rfl d9 (flag_out (by rw [hs']; decide))
        obtain ⟨g, c, rfl, hE⟩ := z9
        refine wpOp_open rfl (fun K hK => ?_)
        refine step_call (by rfl) 11 #[x.agg, .slice (some ⟨g, 0, none⟩) ((n + 1) + 1) c] (by kernel_rfl) (P := fun v w' => PTwo (PErr true (n + 1)) w' v ∧ Kept (fun _ => False) wr w') (HRUN1.out g c wr F.kept hE) (fun e w' hh => by obtain ⟨a, b, he, hr, hk⟩ := hh; exact ⟨_, he, ⟨a, b, rfl, hr⟩, hk⟩) ?_
        rintro v' w' ⟨hv, hk⟩
        exact hK.out _ _ ⟨_, _, _, _, _, _, _, _, _, _, _, _, _, _, _, _, rfl, F.step HSAa.out 10 HSET.out (hk) _ rfl _ hv (fun h => absurd h (by decide)) (fun _ => d9)⟩
      · have d10 : l.getD 10 false = true := by simp [Region.binds] at hd; simp [hd]
        have z10 := F.at_ 10 _ _ rfl rfl d10 (flag_out (by rw [hs']; decide))
        obtain ⟨ra, rb, rfl, hr⟩ := z10
        refine wpOp_open rfl (fun K hK => ?_)
        go_simp
        have d9 := F.late 10 (by decide) d10
        exact hK.out _ _ ⟨_, _, _, _, _, _, _, _, _, _, _, _, _, _, _, _, rfl, F.step HSAa.out 11 HSET.out (Kept.refl _ _) _ rfl _ ⟨ra, rb, rfl, hr⟩ (fun h => absurd h (by decide)) (fun _ => d9)⟩
      · have d11 : l.getD 11 false = true := by simp [Region.binds] at hd; simp [hd]
        have z11 := F.at_ 11 _ _ rfl rfl d11 (flag_out (by rw [hs']; decide))
        obtain ⟨ra, rb, rfl, hr⟩ := z11
        refine wpOp_open rfl (fun K hK => ?_)
        go_simp
        have d9 := F.late 11 (by decide) d11
        exact hK.out _ _ ⟨_, _, _, _, _, _, _, _, _, _, _, _, _, _, _, _, rfl, F.step HSAa.out 12 HSET.out (Kept.refl _ _) _ rfl _ trivial (fun h => absurd h (by decide)) (fun _ => d9)⟩
      · have d11 : l.getD 11 false = true := by simp [Region.binds] at hd; simp [hd]
        have z11 := F.at_ 11 _ _ rfl rfl d11 (flag_out (by rw [hs']; decide))
        obtain ⟨ra, rb, rfl, hr⟩ := z11
        refine wpOp_open rfl (fun K hK => ?_)
        go_simp
        have d9 := F.late 11 (by decide) d11
        exact hK.out _ _ ⟨_, _, _, _, _, _, _, _, _, _, _, _, _, _, _, _, rfl, F.step HSAa.out 13 HSET.out (Kept.refl _ _) _ rfl _ hr (fun h => absurd h (by decide)) (fun _ => d9)⟩
      · have d12 : l.getD 12 false = true := by simp [Region.binds] at hd; simp [hd]
        have z12 := F.at_ 12 _ _ rfl rfl d12 (flag_out (by rw [hs']; decide))
        refine wpOp_open rfl (fun K hK => ?_)
        go_simp
        have d9 := F.late 12 (by decide) d12
        exact hK.out _ _ ⟨_, _, _, _, _, _, _, _, _, _, _, _, _, _, _, _, rfl, F.step HSAa.out 14 HSET.out (Kept.refl _ _) _ rfl _ z12 (fun h => absurd h (by decide)) (fun _ => d9)⟩
      · have d13 : l.getD 13 false = true := by simp [Region.binds] at hd; simp [hd]
        have z13 := F.at_ 13 _ _ rfl rfl d13 (flag_out (by rw [hs']; decide))
        refine wpOp_open rfl (fun K hK => ?_)
        go_simp
        have d9 := F.late 13 (by decide) d13
        exact hK.out _ _ ⟨_, _, _, _, _, _, _, _, _, _, _, _, _, _, _, _, rfl, F.step HSAa.out 15 HSET.out (Kept.refl _ _) _ rfl _ z13 (fun h => absurd h (by decide)) (fun _ => d9)⟩
    case henda =>
      rintro l a wr hs ⟨v0a, v1a, v2a, v3a, v4a, v5a, v6a, v7a, v8a, v9a, v10a, v11a, v12a, v13a, v14a, v15a, rfl, F⟩ hr
      have hs' : l.size = 16 := hs
      have HAR := all_ready2 hs (by kernel_rfl) hr
      have hR := F.at_ 15 _ _ rfl rfl (HAR 15 (by decide)) (flag_out (by rw [hs']; decide))
      have hK := F.kept
      clear F hr hs hs' HSAa HPEa HAR
      clear hwr
      obtain ⟨gf, hgf, hsf⟩ := hR
      subst hgf
      have HSF := Lib.hid hsf
      have HW4 := Lib.hid hK
      clear hsf hK p0 p1 p2
      obtain ⟨p0, p1, p2⟩ := HBw3.out wr HW4.out
      go_wp2_with fail
      obtain ⟨w4, hw4⟩ : ∃ z, z = wr := ⟨_, rfl⟩
      subst hw4
      have HK4 := Lib.hid (HK3.out.tr0 HW4.out)
      have HBw4 : Hid (∀ w', Kept (fun _ => False) w4 w' → w'.cell? ⟨w.heap.size, 0, none⟩ = some (.slice x.os x.obs.length x.oc) ∧ w'.cell? ⟨w.heap.size, 1, none⟩ = some (.slice x.ps x.prs.length x.pc) ∧ w'.cell? ⟨w.heap.size, 2, none⟩ = some (.slice x.ks x.pis.length x.kc)) := Lib.hid (fun w' hk => HP.out w' (HK4.out.tr0 hk))
      have HXw4 : Hid (∀ w', Kept (fun _ => False) w4 w' → Lies w' w'.heap.size x) := Lib.hid (fun w' hk => HX.out w' (HK4.out.tr0 hk))
      have HEw4 : Hid (∀ w', Kept (fun _ => False) w4 w' → Elems w' w'.heap.size (some ⟨ga, off, none⟩) 7 Ev.cells L) := Lib.hid (fun w' hk => HE.out w' (HK4.out.tr0 hk))
      have HRUN4 : Hid (∀ g c w', Kept (fun _ => False) w4 w' → Elems w' w'.heap.size (some ⟨g, 0, none⟩) 7 Ev.cells (L ++ [⟨4, x.prs.length, nw, ⟨0, 0⟩, 0, 0⟩]) → Calls Tryz.prog 11 #[x.agg, .slice (some ⟨g, 0, none⟩) ((n + 1) + 1) c] w' fun e w'' => ∃ a b, e = .returned (.tuple #[a, b]) ∧ PErr true (n + 1) w'' b ∧ Kept (fun _ => False) w' w'') := Lib.hid (fun g c w' hk => HRUN2.out g c w' (HW4.out.tr0 hk))
      clear HST1 HRUN1 HRUN2
      have HSAb : Hid (StayAll [PEq x.agg, PNil w4.heap.size, PEq (.slice (some ⟨ga, off, none⟩) (n + 1) cap), POwn w4.heap.size (n + 1) L, PEq (.pointer (some ⟨w.heap.size, 1, none⟩)), PEq (.slice x.ps x.prs.length x.pc), PEq (.int .i64 (x.prs.length : Int)), PEq (.int .i64 nw), PEq ((⟨4, x.prs.length, nw, ⟨0, 0⟩, 0, 0⟩ : Ev).agg), PLit ⟨4, x.prs.length, nw, ⟨0, 0⟩, 0, 0⟩, PAll ((n + 1) + 1) (L ++ [⟨4, x.prs.length, nw, ⟨0, 0⟩, 0, 0⟩]), PTwo (PErr true (n + 1)), PTwo (PErr true (n + 1)), PAny, (PErr true (n + 1)), PAny, (PErr true (n + 1))]) := Lib.hid ⟨stay_eq _, stay_nil _, stay_eq _, stay_own _ _ _, stay_eq _, stay_eq _, stay_eq _, stay_eq _, stay_eq _, stay_lit _, stay_all _ _, stay_two HST2.out, stay_two HST2.out, stay_anyR, HST2.out, stay_anyR, HST2.out, trivial⟩
      have HPEb : Hid (∀ jq, jq < 9 → jq ≠ 1 → jq ≠ 3 → ∀ P, ([PEq x.agg, PNil w4.heap.size, PEq (.slice (some ⟨ga, off, none⟩) (n + 1) cap), POwn w4.heap.size (n + 1) L, PEq (.pointer (some ⟨w.heap.size, 1, none⟩)), PEq (.slice x.ps x.prs.length x.pc), PEq (.int .i64 (x.prs.length : Int)), PEq (.int .i64 nw), PEq ((⟨4, x.prs.length, nw, ⟨0, 0⟩, 0, 0⟩ : Ev).agg), PLit ⟨4, x.prs.length, nw, ⟨0, 0⟩, 0, 0⟩, PAll ((n + 1) + 1) (L ++ [⟨4, x.prs.length, nw, ⟨0, 0⟩, 0, 0⟩]), PTwo (PErr true (n + 1)), PTwo (PErr true (n + 1)), PAny, (PErr true (n + 1)), PAny, (PErr true (n + 1))] : List (World → Value → Prop))[jq]? = some P → ∃ c, P = PEq c) := Lib.hid (fun jq h1 h2 h3 P hP => by
        have hj : jq = 0 ∨ jq = 2 ∨ jq = 4 ∨ jq = 5 ∨ jq = 6 ∨ jq = 7 ∨ jq = 8 := by omega
        rcases hj with rfl | rfl | rfl | rfl | rfl | rfl | rfl <;> (simp only [List.getElem?_cons_zero, List.getElem?_cons_succ, Option.some.injEq] at hP; exact ⟨_, hP.symm⟩))
      refine wp_region_any (by kernel_rfl) (wpAny_inv (fun l a w' => ∃ v0 v1 v2 v3 v4 v5 v6 v7 v8 v9 v10 v11 v12 v13 v14 v15 v16, a = ⟨#[x.agg, Value.slice (some ⟨ga, off, none⟩) (n + 1) cap, Value.int IntKind.i64 (wrap64 (nw + 1)), Value.pointer (some ⟨w.heap.size, 0, none⟩), undef, undef, Value.bool false, Value.bool true, Value.bool true, Value.slice (some ⟨g, 0, none⟩) m c, Value.nilIface, Value.int IntKind.i64 nw, v14a, Er.spotV gf, v15, v16, Value.bool true, Value.agg #[Value.slice x.os x.obs.length x.oc, Value.slice x.ps x.prs.length x.pc, Value.slice x.ks x.pis.length x.kc], Value.bool true, Value.bool true, Value.bool false, Value.bool false, Value.slice (some ⟨ga, off, none⟩) (n + 1) cap, Value.int IntKind.i64 ((n : Int) + 1), Value.bool (decide (500 < (n : Int) + 1)), Value.bool (decide (500 < (n : Int) + 1)), undef, Value.tuple #[Value.slice (some ⟨g, 0, none⟩) m c, Value.nilIface], Value.agg #[Value.slice x.os x.obs.length x.oc, Value.slice x.ps x.prs.length x.pc, Value.slice x.ks x.pis.length x.kc], Value.slice (some ⟨ga, off, none⟩) (n + 1) cap, Value.tuple #[Value.slice (some ⟨g, 0, none⟩) m c, Value.nilIface], Value.slice (some ⟨g, 0, none⟩) m c, Value.nilIface, Value.nilIface, Value.bool false, Value.bool false, Value.slice (some ⟨ga, off, none⟩) (n + 1) cap, Value.int IntKind.i64 ((n : Int) + 1), Value.bool false, Value.bool false, undef, Value.slice (some ⟨ga, off, none⟩) (n + 1) cap, Value.slice (some ⟨ga, off, none⟩) (n + 1) cap, Value.int IntKind.i64 ((n : Int) + 1), Value.int IntKind.i64 (n : Int), Value.pointer (some ⟨ga, off + n * 7, none⟩), Value.pointer (some ⟨ga, off + n * 7 + 2, none⟩), Value.int IntKind.i64 nw, Value.int IntKind.i64 t, Value.bool (decide (t < 1)), Value.bool (decide (t < 1)), Value.int IntKind.i64 t, Value.int IntKind.i64 nw, Value.bool true, Value.bool true, Value.int IntKind.i64 nw, Value.int IntKind.i64 (wrap64 (nw + 1)), v11a, v0a, v1a, v2a, v3a, v4a, v5a, v6a, v7a, v8a, v9a, v10a, v12a, v13a, v12, v0, v1, v2, v3, v4, v5, v6, v7, v8, v9, v10, v11, v13, v14, undef, undef, undef, undef, undef, undef, undef, undef, undef, undef, undef, undef, undef], []⟩ ∧ AG w4 [PEq x.agg, PNil w4.heap.size, PEq (.slice (some ⟨ga, off, none⟩) (n + 1) cap), POwn w4.heap.size (n + 1) L, PEq (.pointer (some ⟨w.heap.size, 1, none⟩)), PEq (.slice x.ps x.prs.length x.pc), PEq (.int .i64 (x.prs.length : Int)), PEq (.int .i64 nw), PEq ((⟨4, x.prs.length, nw, ⟨0, 0⟩, 0, 0⟩ : Ev).agg), PLit ⟨4, x.prs.length, nw, ⟨0, 0⟩, 0, 0⟩, PAll ((n + 1) + 1) (L ++ [⟨4, x.prs.length, nw, ⟨0, 0⟩, 0, 0⟩]), PTwo (PErr true (n + 1)), PTwo (PErr true (n + 1)), PAny, (PErr true (n + 1)), PAny, (PErr true (n + 1))] 9 l w' [v0, v1, v2, v3, v4, v5, v6, v7, v8, v9, v10, v11, v12, v13, v14, v15, v16]) ?hstepb ?hendb _ _ _ _ (by simp) (by simp) ?hstartb)
      case hstartb =>
        exact ⟨_, _, _, _, _, _, _, _, _, _, _, _, _, _, _, _, _, rfl, ⟨(Kept.refl _ _).drew, fun i P v _ hv hf _ => (flag_none hf).elim, fun h => (flag_none h).elim, fun i _ h => (flag_none h).elim⟩⟩
      case hstepb =>
        rintro l a wr i hs ⟨v0, v1, v2, v3, v4, v5, v6, v7, v8, v9, v10, v11, v12, v13, v14, v15, v16, rfl, F⟩ hi
        have hs' : l.size = 17 := hs
        obtain ⟨hlt, hu, hd⟩ := ready_of hi
        have hlt' : i < 17 := hlt
        have hset : ∀ j, (l.setIfInBounds i true).getD j false = if j = i then true else l.getD j false := fun j => getD_set (by omega)
        have hu' := flag_false hu
        have HSET := Lib.hid hset
        clear hi hlt hu hset
        have hi : i = 0 ∨ i = 1 ∨ i = 2 ∨ i = 3 ∨ i = 4 ∨ i = 5 ∨ i = 6 ∨ i = 7 ∨ i = 8 ∨ i = 9 ∨ i = 10 ∨ i = 11 ∨ i = 12 ∨ i = 13 ∨ i = 14 ∨ i = 15 ∨ i = 16 := by omega
        clear hlt'
        obtain ⟨p0, p1, p2⟩ := HBw4.out wr F.kept
        rcases hi with rfl | rfl | rfl | rfl | rfl | rfl | rfl | rfl | rfl | rfl | rfl | rfl | rfl | rfl | rfl | rfl | rfl
        · refine wpOp_open rfl (fun K hK => ?_)
          go_simp
          exact hK.out _ _ ⟨_, _, _, _, _, _, _, _, _, _, _, _, _, _, _, _, _, rfl, F.step HSAb.out 0 HSET.out (Kept.refl _ _) _ rfl _ rfl (fun h => absurd h (by decide)) (fun h => absurd h (by decide))⟩
        · refine wpOp_open rfl (fun K hK => ?_)
          go_simp
          exact hK.out _ _ ⟨_, _, _, _, _, _, _, _, _, _, _, _, _, _, _, _, _, rfl, F.step HSAb.out 1 HSET.out (((Kept.refl _ _).alloc _)) _ rfl _ ((nil_new _).le F.kept.size) (fun h => absurd h (by decide)) (fun h => absurd h (by decide))⟩
        · refine wpOp_open rfl (fun K hK => ?_)
          go_simp
          exact hK.out _ _ ⟨_, _, _, _, _, _, _, _, _, _, _, _, _, _, _, _, _, rfl, F.step HSAb.out 2 HSET.out (Kept.refl _ _) _ rfl _ rfl (fun h => absurd h (by decide)) (fun h => absurd h (by decide))⟩
        · have d1 : l.getD 1 false = true := by simp [Region.binds] at hd; simp [hd]
          have z1 := F.at_ 1 _ _ rfl rfl d1 hu'
          have d2 : l.getD 2 false = true := by simp [Region.binds] at hd; simp [hd]
          obtain rfl := F.at_ 2 _ _ rfl rfl d2 (flag_out (by rw [hs']; decide))
          refine wpOp_open rfl (fun K hK => ?_)
          refine step_own (w3 := w4) (L := L) (m := (n + 1)) _ _ F.kept z1 HEw4.out HN.out (by omega) rfl rfl rfl rfl ?_
          intro b v' w' hb hO hk hkb
          exact hK.out _ _ ⟨_, _, _, _, _, _, _, _, _, _, _, _, _, _, _, _, _, rfl, F.own HSET.out hk hu' HPEb.out rfl (by decide) hb hkb _ rfl _ hO⟩
        · refine wpOp_open rfl (fun K hK => ?_)
          go_simp
          exact hK.out _ _ ⟨_, _, _, _, _, _, _, _, _, _, _, _, _, _, _, _, _, rfl, F.step HSAb.out 4 HSET.out (Kept.refl _ _) _ rfl _ rfl (fun h => absurd h (by decide)) (fun h => absurd h (by decide))⟩
        · have d4 : l.getD 4 false = true := by simp [Region.binds] at hd; simp [hd]
          obtain rfl := F.at_ 4 _ _ rfl rfl d4 (flag_out (by rw [hs']; decide))
          refine wpOp_open rfl (fun K hK => ?_)
          go_simp
          exact hK.out _ _ ⟨_, _, _, _, _, _, _, _, _, _, _, _, _, _, _, _, _, rfl, F.step HSAb.out 5 HSET.out (Kept.refl _ _) _ rfl _ rfl (fun h => absurd h (by decide)) (fun h => absurd h (by decide))⟩
        · have d5 : l.getD 5 false = true := by simp [Region.binds] at hd; simp [hd]
          obtain rfl := F.at_ 5 _ _ rfl rfl d5 (flag_out (by rw [hs']; decide))
          refine wpOp_open rfl (fun K hK => ?_)
          go_simp
          exact hK.out _ _ ⟨_, _, _, _, _, _, _, _, _, _, _, _, _, _, _, _, _, rfl, F.step HSAb.out 6 HSET.out (Kept.refl _ _) _ rfl _ rfl (fun h => absurd h (by decide)) (fun h => absurd h (by decide))⟩
        · refine wpOp_open rfl (fun K hK => ?_)
          go_simp
          exact hK.out _ _ ⟨_, _, _, _, _, _, _, _, _, _, _, _, _, _, _, _, _, rfl, F.step HSAb.out 7 HSET.out (Kept.refl _ _) _ rfl _ rfl (fun h => absurd h (by decide)) (fun h => absurd h (by decide))⟩
        · have d6 : l.getD 6 false = true := by simp [Region.binds] at hd; simp [hd]
          obtain rfl := F.at_ 6 _ _ rfl rfl d6 (flag_out (by rw [hs']; decide))
          have d7 : l.getD 7 false = true := by simp [Region.binds] at hd; simp [hd]
          obtain rfl := F.at_ 7 _ _ rfl rfl d7 (flag_out (by rw [hs']; decide))
          refine wpOp_open rfl (fun K hK => ?_)
          go_simp
          exact hK.out _ _ ⟨_, _, _, _, _, _, _, _, _, _, _, _, _, _, _, _, _, rfl, F.step HSAb.out 8 HSET.out (Kept.refl _ _) _ rfl _ rfl (fun h => absurd h (by decide)) (fun h => absurd h (by decide))⟩
        · have d8 : l.getD 8 false = true := by simp [Region.binds] at hd; simp [hd]
          obtain rfl := F.at_ 8 _ _ rfl rfl d8 (flag_out (by rw [hs']; decide))
          refine wpOp_open rfl (fun K hK => ?_)
          go_simp
          exact hK.out _ _ ⟨_, _, _, _, _, _, _, _, _, _, _, _, _, _, _, _, _, rfl, F.step HSAb.out 9 HSET.out (((Kept.refl _ _).alloc _)) _ rfl _ (lit_new _ ⟨4, x.prs.length, nw, ⟨0, 0⟩, 0, 0⟩) (fun h => absurd h (by decide)) (fun h => absurd h (by decide))⟩
        · have d3 : l.getD 3 false = true := by simp [Region.binds] at hd; simp [hd]
          have z3 := F.at_ 3 _ _ rfl rfl d3 hu'
          have d9 : l.getD 9 false = true := by simp [Region.binds] at hd; simp [hd]
          have z9 := F.at_ 9 _ _ rfl rfl d9 hu'
          refine wpOp_open rfl (fun K hK => ?_)
          refine step_all (w3 := w4) (L := L) (m := (n + 1)) (ev := ⟨4, x.prs.length, nw, ⟨0, 0⟩, 0, 0⟩) _ _ F.kept z3 z9 (by omega) rfl rfl rfl rfl ?_
          intro v' w' hA hk
          exact hK.out _ _ ⟨_, _, _, _, _, _, _, _, _, _, _, _, _, _, _, _, _, rfl, F.all HSET.out hk hu' d3 HPEb.out (by decide) _ rfl _ hA⟩
        · have d0 : l.getD 0 false = true := by simp [Region.binds] at hd; simp [hd]
          obtain rfl := F.at_ 0 _ _ rfl rfl d0 (flag_out (by rw [hs']; decide))
          have d10 : l.getD 10 false = true := by simp [Region.binds] at hd; simp [hd]
          have z10 := F.at_ 10 _ _ rfl rfl d10 (flag_out (by rw [hs']; decide))
          obtain ⟨g, c, rfl, hE⟩ := z10
          refine wpOp_open rfl (fun K hK => ?_)
          refine step_call (by rfl) 11 #[x.agg, .slice (some ⟨g, 0, none⟩) ((n + 1) + 1) c] (by kernel_rfl) (P := fun v w' => PTwo (PErr true (n + 1)) w' v ∧ Kept (fun _ => False) wr w') (HRUN4.out g c wr F.kept hE) (fun e w' hh => by obtain ⟨a, b, he, hr, hk⟩ := hh; exact ⟨_, he, ⟨a, b, rfl, hr⟩, hk⟩) ?_
          rintro v' w' ⟨hv, hk⟩
          exact hK.out _ _ ⟨_, _, _, _, _, _, _, _, _, _, _, _, _, _, _, _, _, rfl, F.step HSAb.out 11 HSET.out (hk) _ rfl _ hv (fun h => absurd h (by decide)) (fun _ => d10)⟩
        · have d11 : l.getD 11 false = true := by simp [Region.binds] at hd; simp [hd]
          have z11 := F.at_ 11 _ _ rfl rfl d11 (flag_out (by rw [hs']; decide))
          obtain ⟨ra, rb, rfl, hr⟩ := z11
          refine wpOp_open rfl (fun K hK => ?_)
          go_simp
          have d10 := F.late 11 (by decide) d11
          exact hK.out _ _ ⟨_, _, _, _, _, _, _, _, _, _, _, _, _, _, _, _, _, rfl, F.step HSAb.out 12 HSET.out (Kept.refl _ _) _ rfl _ ⟨ra, rb, rfl, hr⟩ (fun h => absurd h (by decide)) (fun _ => d10)⟩
        · have d12 : l.getD 12 false = true := by simp [Region.binds] at hd; simp [hd]
          have z12 := F.at_ 12 _ _ rfl rfl d12 (flag_out (by rw [hs']; decide))
          obtain ⟨ra, rb, rfl, hr⟩ := z12
          refine wpOp_open rfl (fun K hK => ?_)
          go_simp
          have d10 := F.late 12 (by decide) d12
          exact hK.out _ _ ⟨_, _, _, _, _, _, _, _, _, _, _, _, _, _, _, _, _, rfl, F.step HSAb.out 13 HSET.out (Kept.refl _ _) _ rfl _ trivial (fun h => absurd h (by decide)) (fun _ => d10)⟩
        · have d12 : l.getD 12 false = true := by simp [Region.binds] at hd; simp [hd]
          have z12 := F.at_ 12 _ _ rfl rfl d12 (flag_out (by rw [hs']; decide))
          obtain ⟨ra, rb, rfl, hr⟩ := z12
          refine wpOp_open rfl (fun K hK => ?_)
          go_simp
          have d10 := F.late 12 (by decide) d12
          exact hK.out _ _ ⟨_, _, _, _, _, _, _, _, _, _, _, _, _, _, _, _, _, rfl, F.step HSAb.out 14 HSET.out (Kept.refl _ _) _ rfl _ hr (fun h => absurd h (by decide)) (fun _ => d10)⟩
        · have d13 : l.getD 13 false = true := by simp [Region.binds] at hd; simp [hd]
          have z13 := F.at_ 13 _ _ rfl rfl d13 (flag_out (by rw [hs']; decide))
          refine wpOp_open rfl (fun K hK => ?_)
          go_simp
          have d10 := F.late 13 (by decide) d13
          exact hK.out _ _ ⟨_, _, _, _, _, _, _, _, _, _, _, _, _, _, _, _, _, rfl, F.step HSAb.out 15 HSET.out (Kept.refl _ _) _ rfl _ z13 (fun h => absurd h (by decide)) (fun _ => d10)⟩
        · have d14 : l.getD 14 false = true := by simp [Region.binds] at hd; simp [hd]
          have z14 := F.at_ 14 _ _ rfl rfl d14 (flag_out (by rw [hs']; decide))
          refine wpOp_open rfl (fun K hK => ?_)
          go_simp
          have d10 := F.late 14 (by decide) d14
          exact hK.out _ _ ⟨_, _, _, _, _, _, _, _, _, _, _, _, _, _, _, _, _, rfl, F.step HSAb.out 16 HSET.out (Kept.refl _ _) _ rfl _ z14 (fun h => absurd h (by decide)) (fun _ => d10)⟩
      case hendb =>
        rintro l a wr hs ⟨v0b, v1b, v2b, v3b, v4b, v5b, v6b, v7b, v8b, v9b, v10b, v11b, v12b, v13b, v14b, v15b, v16b, rfl, F⟩ hr
        have hs' : l.size = 17 := hs
        have HAR := all_ready2 hs (by kernel_rfl) hr
        have hR := F.at_ 16 _ _ rfl rfl (HAR 16 (by decide)) (flag_out (by rw [hs']; decide))
        have hK := F.kept
        clear F hr hs hs' HSAb HPEb HAR
        obtain ⟨gg, hgg, hsg⟩ := hR
        subst hgg
        have HSG := Lib.hid hsg
        have HK5 := Lib.hid (HK4.out.tr0 hK)
        have HI1 := Lib.hid (Er.lawIs_any (HSF.out.kept hK (fun f => f)) (HHW.out wr HK5.out))
        clear hsg hK p0 p1 p2
        go_wp2_with fail
        refine HI1.out.mono ?_
        rintro e w6 ⟨rfl, hk6⟩
        have HI2 := Lib.hid (Er.lawIs_any (HSG.out.kept hk6 (fun f => f)) (HHW.out w6 (HK5.out.tr0 hk6)))
        have HK6 := Lib.hid (HK5.out.tr0 hk6)
        clear hk6
        go_wp2_with fail
        refine HI2.out.mono ?_
        rintro e w7 ⟨rfl, hk7⟩
        have HF := Lib.hid (HFIN.out w7 (HK6.out.tr0 hk7))
        clear hk7
        go_wp2_with fail
        go_ret
        exact ⟨rfl, HF.out⟩
  have hb2' : t ≤ nw := by omega
  have hwr : wrap64 (nw - t) = nw - t := by unfold wrap64; omega
  go_wp2_with fail
  have HLT : Hid ((nw - t) < nw ∧ (nw - t) ≤ 9223372036854775807) := Lib.hid ⟨by omega, by omega⟩
  clear hlo hhi hb1 hb1' hb2 hb2'
  have HBw3 : Hid (∀ w', Kept (fun _ => False) w3 w' → w'.cell? ⟨w.heap.size, 0, none⟩ = some (.slice x.os x.obs.length x.oc) ∧ w'.cell? ⟨w.heap.size, 1, none⟩ = some (.slice x.ps x.prs.length x.pc) ∧ w'.cell? ⟨w.heap.size, 2, none⟩ = some (.slice x.ks x.pis.length x.kc)) := Lib.hid (fun w' hk => HP.out w' (HK3.out.tr0 hk))
  have HXw3 : Hid (∀ w', Kept (fun _ => False) w3 w' → Lies w' w'.heap.size x) := Lib.hid (fun w' hk => HX.out w' (HK3.out.tr0 hk))
  have HEw3 : Hid (∀ w', Kept (fun _ => False) w3 w' → Elems w' w'.heap.size (some ⟨ga, off, none⟩) 7 Ev.cells L) := Lib.hid (fun w' hk => HE.out w' (HK3.out.tr0 hk))
  have HST1 : Hid (Stay (PErr true (n + 1))) := Lib.hid (stay_err _ _)
  have HRUN1 : Hid (∀ g c w', Kept (fun _ => False) w3 w' → Elems w' w'.heap.size (some ⟨g, 0, none⟩) 7 Ev.cells (L ++ [⟨4, 0, (nw - t), ⟨0, 0⟩, 0, 0⟩]) → Calls Tryz.prog 11 #[x.agg, .slice (some ⟨g, 0, none⟩) ((n + 1) + 1) c] w' fun e w'' => ∃ a b, e = .returned (.tuple #[a, b]) ∧ PErr true (n + 1) w'' b ∧ Kept (fun _ => False) w' w'') := Lib.hid (fun g c w' hk hE => run_more x L ⟨4, 0, (nw - t), ⟨0, 0⟩, 0, 0⟩ _ HN.out (by omega) H64.out ⟨HLT.out.2, (by show (-9223372036854775808 : Int) ≤ 0; decide), (by show (0 : Int) ≤ 9223372036854775807; decide)⟩ HLG.out.1 HLG.out.2 HG.out _ (by rw [ev_back (by rw [HNOW.out]; exact HLT.out.1)]; rfl) w' _ c (HXw3.out w' hk) hE)
  have HST2 : Hid (Stay (PErr true (n + 1))) := Lib.hid (stay_err _ _)
  have HRUN2 : Hid (∀ g c w', Kept (fun _ => False) w3 w' → Elems w' w'.heap.size (some ⟨g, 0, none⟩) 7 Ev.cells (L ++ [⟨4, x.prs.length, nw, ⟨0, 0⟩, 0, 0⟩]) → Calls Tryz.prog 11 #[x.agg, .slice (some ⟨g, 0, none⟩) ((n + 1) + 1) c] w' fun e w'' => ∃ a b, e = .returned (.tuple #[a, b]) ∧ PErr true (n + 1) w'' b ∧ Kept (fun _ => False) w' w'') := Lib.hid (fun g c w' hk hE => run_more x L ⟨4, x.prs.length, nw, ⟨0, 0⟩, 0, 0⟩ _ HN.out (by omega) H64.out ⟨HNW.out.2, (by show (-9223372036854775808 : Int) ≤ 0; decide), (by show (0 : Int) ≤ 9223372036854775807; decide)⟩ HLG.out.1 HLG.out.2 HG.out _ (by rw [ev_nobody (by rw [HTHR.out]; exact Int.le_refl _)]; rfl) w' _ c (HXw3.out w' hk) hE)
  have HSAa : Hid (StayAll [PEq x.agg, PNil w3.heap.size, PEq (.slice (some ⟨ga, off, none⟩) (n + 1) cap), POwn w3.heap.size (n + 1) L, PEq (.int .i64 nw), PEq (.int .i64 t), PEq (.int .i64 (nw - t)), PEq ((⟨4, 0, (nw - t), ⟨0, 0⟩, 0, 0⟩ : Ev).agg), PLit ⟨4, 0, (nw - t), ⟨0, 0⟩, 0, 0⟩, PAll ((n + 1) + 1) (L ++ [⟨4, 0, (nw - t), ⟨0, 0⟩, 0, 0⟩]), PTwo (PErr true (n + 1)), PTwo (PErr true (n + 1)), PAny, (PErr true (n + 1)), PAny, (PErr true (n + 1))]) := Lib.hid ⟨stay_eq _, stay_nil _, stay_eq _, stay_own _ _ _, stay_eq _, stay_eq _, stay_eq _, stay_eq _, stay_lit _, stay_all _ _, stay_two HST1.out, stay_two HST1.out, stay_anyR, HST1.out, stay_anyR, HST1.out, trivial⟩
  have HPEa : Hid (∀ jq, jq < 8 → jq ≠ 1 → jq ≠ 3 → ∀ P, ([PEq x.agg, PNil w3.heap.size, PEq (.slice (some ⟨ga, off, none⟩) (n + 1) cap), POwn w3.heap.size (n + 1) L, PEq (.int .i64 nw), PEq (.int .i64 t), PEq (.int .i64 (nw - t)), PEq ((⟨4, 0, (nw - t), ⟨0, 0⟩, 0, 0⟩ : Ev).agg), PLit ⟨4, 0, (nw - t), ⟨0, 0⟩, 0, 0⟩, PAll ((n + 1) + 1) (L ++ [⟨4, 0, (nw - t), ⟨0, 0⟩, 0, 0⟩]), PTwo (PErr true (n + 1)), PTwo (PErr true (n + 1)), PAny, (PErr true (n + 1)), PAny, (PErr true (n + 1))] : List (World → Value → Prop))[jq]? = some P → ∃ c, P = PEq c) := Lib.hid (fun jq h1 h2 h3 P hP => by
    have hj : jq = 0 ∨ jq = 2 ∨ jq = 4 ∨ jq = 5 ∨ jq = 6 ∨ jq = 7 := by omega
    rcases hj with rfl | rfl | rfl | rfl | rfl | rfl <;> (simp only [List.getElem?_cons_zero, List.getElem?_cons_succ, Option.some.injEq] at hP; exact ⟨_, hP.symm⟩))
  refine wp_region_any (by kernel_rfl) (wpAny_inv (fun l a w' => ∃ v0 v1 v2 v3 v4 v5 v6 v7 v8 v9 v10 v11 v12 v13 v14 v15, a = ⟨#[x.agg, Value.slice (some ⟨ga, off, none⟩) (n + 1) cap, Value.int IntKind.i64 t, Value.pointer (some ⟨w.heap.size, 0, none⟩), undef, undef, Value.bool false, Value.bool true, Value.bool true, Value.slice (some ⟨g, 0, none⟩) m c, Value.nilIface, Value.int IntKind.i64 nw, v14, v15, undef, undef, Value.bool true, Value.agg #[Value.slice x.os x.obs.length x.oc, Value.slice x.ps x.prs.length x.pc, Value.slice x.ks x.pis.length x.kc], Value.bool true, Value.bool true, Value.bool false, Value.bool false, Value.slice (some ⟨ga, off, none⟩) (n + 1) cap, Value.int IntKind.i64 ((n : Int) + 1), Value.bool (decide (500 < (n : Int) + 1)), Value.bool (decide (500 < (n : Int) + 1)), undef, Value.tuple #[Value.slice (some ⟨g, 0, none⟩) m c, Value.nilIface], Value.agg #[Value.slice x.os x.obs.length x.oc, Value.slice x.ps x.prs.length x.pc, Value.slice x.ks x.pis.length x.kc], Value.slice (some ⟨ga, off, none⟩) (n + 1) cap, Value.tuple #[Value.slice (some ⟨g, 0, none⟩) m c, Value.nilIface], Value.slice (some ⟨g, 0, none⟩) m c, Value.nilIface, Value.nilIface, Value.bool false, Value.bool false, Value.slice (some ⟨ga, off, none⟩) (n + 1) cap, Value.int IntKind.i64 ((n : Int) + 1), Value.bool false, Value.bool false, undef, Value.slice (some ⟨ga, off, none⟩) (n + 1) cap, Value.slice (some ⟨ga, off, none⟩) (n + 1) cap, Value.int IntKind.i64 ((n : Int) + 1), Value.int IntKind.i64 (n : Int), Value.pointer (some ⟨ga, off + n * 7, none⟩), Value.pointer (some ⟨ga, off + n * 7 + 2, none⟩), Value.int IntKind.i64 nw, Value.int IntKind.i64 t, Value.bool (decide (t < 1)), Value.bool (decide (t < 1)), Value.int IntKind.i64 t, Value.int IntKind.i64 nw, Value.bool (decide (nw < t)), Value.bool (decide (t < 1) || decide (nw < t)), undef, undef, v11, v0, v1, v2, v3, v4, v5, v6, v7, v8, v9, v10, v12, v13, undef, undef, undef, undef, undef, undef, undef, undef, undef, undef, undef, undef, undef, undef, undef, undef, undef, undef, undef, undef, undef, undef, undef, undef, undef, undef, undef, undef], []⟩ ∧ AG w3 [PEq x.agg, PNil w3.heap.size, PEq (.slice (some ⟨ga, off, none⟩) (n + 1) cap), POwn w3.heap.size (n + 1) L, PEq (.int .i64 nw), PEq (.int .i64 t), PEq (.int .i64 (nw - t)), PEq ((⟨4, 0, (nw - t), ⟨0, 0⟩, 0, 0⟩ : Ev).agg), PLit ⟨4, 0, (nw - t), ⟨0, 0⟩, 0, 0⟩, PAll ((n + 1) + 1) (L ++ [⟨4, 0, (nw - t), ⟨0, 0⟩, 0, 0⟩]), PTwo (PErr true (n + 1)), PTwo (PErr true (n + 1)), PAny, (PErr true (n + 1)), PAny, (PErr true (n + 1))] 8 l w' [v0, v1, v2, v3, v4, v5, v6, v7, v8, v9, v10, v11, v12, v13, v14, v15]) ?hstepa ?henda _ _ _ _ (by simp) (by simp) ?hstarta)
  case hstarta =>
    exact ⟨_, _, _, _, _, _, _, _, _, _, _, _, _, _, _, _, rfl, ⟨(Kept.refl _ _).drew, fun i P v _ hv hf _ => (flag_none hf).elim, fun h => (flag_none h).elim, fun i _ h => (flag_none h).elim⟩⟩
  case hstepa =>
    rintro l a wr i hs ⟨v0, v1, v2, v3, v4, v5, v6, v7, v8, v9, v10, v11, v12, v13, v14, v15, rfl, F⟩ hi
    have hs' : l.size = 16 := hs
    obtain ⟨hlt, hu, hd⟩ := ready_of hi
    have hlt' : i < 16 := hlt
    have hset : ∀ j, (l.setIfInBounds i true).getD j false = if j = i then true else l.getD j false := fun j => getD_set (by omega)
    have hu' := flag_false hu
    have HSET := Lib.hid hset
    clear hi hlt hu hset
    have hi : i = 0 ∨ i = 1 ∨ i = 2 ∨ i = 3 ∨ i = 4 ∨ i = 5 ∨ i = 6 ∨ i = 7 ∨ i = 8 ∨ i = 9 ∨ i = 10 ∨ i = 11 ∨ i = 12 ∨ i = 13 ∨ i = 14 ∨ i = 15 := by omega
    clear hlt'
    obtain ⟨p0, p1, p2⟩ := HBw3.out wr F.kept
    rcases hi with rfl | rfl | rfl | rfl | rfl | rfl | rfl | rfl | rfl | rfl | rfl | rfl | rfl | rfl | rfl | rfl
    · refine wpOp_open rfl (fun K hK => ?_)
      go_simp
      exact hK.out _ _ ⟨_, _, _, _, _, _, _, _, _, _, _, _, _, _, _, _, rfl, F.step HSAa.out 0 HSET.out (Kept.refl _ _) _ rfl _ rfl (fun h => absurd h (by decide)) (fun h => absurd h (by decide))⟩
    · refine wpOp_open rfl (fun K hK => ?_)
      go_simp
      exact hK.out _ _ ⟨_, _, _, _, _, _, _, _, _, _, _, _, _, _, _, _, rfl, F.step HSAa.out 1 HSET.out (((Kept.refl _ _).alloc _)) _ rfl _ ((nil_new _).le F.kept.size) (fun h => absurd h (by decide)) (fun h => absurd h (by decide))⟩
    · refine wpOp_open rfl (fun K hK => ?_)
      go_simp
      exact hK.out _ _ ⟨_, _, _, _, _, _, _, _, _, _, _, _, _, _, _, _, rfl, F.step HSAa.out 2 HSET.out (Kept.refl _ _) _ rfl _ rfl (fun h => absurd h (by decide)) (fun h => absurd h (by decide))⟩
    · have d1 : l.getD 1 false = true := by simp [Region.binds] at hd; simp [hd]
      have z1 := F.at_ 1 _ _ rfl rfl d1 hu'
      have d2 : l.getD 2 false = true := by simp [Region.binds] at hd; simp [hd]
      obtain rfl := F.at_ 2 _ _ rfl rfl d2 (flag_out (by rw [hs']; decide))
      refine wpOp_open rfl (fun K hK => ?_)
      refine step_own (w3 := w3) (L := L) (m := (n + 1)) _ _ F.kept z1 HEw3.out HN.out (by omega) rfl rfl rfl rfl ?_
      intro b v' w' hb hO hk hkb
      exact hK.out _ _ ⟨_, _, _, _, _, _, _, _, _, _, _, _, _, _, _, _, rfl, F.own HSET.out hk hu' HPEa.out rfl (by decide) hb hkb _ rfl _ hO⟩
    · refine wpOp_open rfl (fun K hK => ?_)
      go_simp
      exact hK.out _ _ ⟨_, _, _, _, _, _, _, _, _, _, _, _, _, _, _, _, rfl, F.step HSAa.out 4 HSET.out (Kept.refl _ _) _ rfl _ rfl (fun h => absurd h (by decide)) (fun h => absurd h (by decide))⟩
    · refine wpOp_open rfl (fun K hK => ?_)
      go_simp
      exact hK.out _ _ ⟨_, _, _, _, _, _, _, _, _, _, _, _, _, _, _, _, rfl, F.step HSAa.out 5 HSET.out (Kept.refl _ _) _ rfl _ rfl (fun h => absurd h (by decide)) (fun h => absurd h (by decide))⟩
    · have d4 : l.getD 4 false = true := by simp [Region.binds] at hd; simp [hd]
      obtain rfl := F.at_ 4 _ _ rfl rfl d4 (flag_out (by rw [hs']; decide))
      have d5 : l.getD 5 false = true := by simp [Region.binds] at hd; simp [hd]
      obtain rfl := F.at_ 5 _ _ rfl rfl d5 (flag_out (by rw [hs']; decide))
      refine wpOp_open rfl (fun K hK => ?_)
      go_simp
      exact hK.out _ _ ⟨_, _, _, _, _, _, _, _, _, _, _, _, _, _, _, _, rfl, F.step HSAa.out 6 HSET.out (Kept.refl _ _) _ rfl _ (congrArg (fun z => Value.int .i64 z) ((IntWalk.i64_left _).trans hwr)) (fun h => absurd h (by decide)) (fun h => absurd h (by decide))⟩
    · have d6 : l.getD 6 false = true := by simp [Region.binds] at hd; simp [hd]
      obtain rfl := F.at_ 6 _ _ rfl rfl d6 (flag_out (by rw [hs']; decide))
      refine wpOp_open rfl (fun K hK => ?_)
      go_simp
      exact hK.out _ _ ⟨_, _, _, _, _, _, _, _, _, _, _, _, _, _, _, _, rfl, F.step HSAa.out 7 HSET.out (Kept.refl _ _) _ rfl _ rfl (fun h => absurd h (by decide)) (fun h => absurd h (by decide))⟩
    · have d7 : l.getD 7 false = true := by simp [Region.binds] at hd; simp [hd]
      obtain rfl := F.at_ 7 _ _ rfl rfl d7 (flag_out (by rw [hs']; decide))
      refine wpOp_open rfl (fun K hK => ?_)
      go_simp
      exact hK.out _ _ ⟨_, _, _, _, _, _, _, _, _, _, _, _, _, _, _, _, rfl, F.step HSAa.out 8 HSET.out (((Kept.refl _ _).alloc _)) _ rfl _ (lit_new _ ⟨4, 0, (nw - t), ⟨0, 0⟩, 0, 0⟩) (fun h => absurd h (by decide)) (fun h => absurd h (by decide))⟩
    · have d3 : l.getD 3 false = true := by simp [Region.binds] at hd; simp [hd]
      have z3 := F.at_ 3 _ _ rfl rfl d3 hu'
      have d8 : l.getD 8 false = true := by simp [Region.binds] at hd; simp [hd]
      have z8 := F.at_ 8 _ _ rfl rfl d8 hu'
      refine wpOp_open rfl (fun K hK => ?_)
      refine step_all (w3 := w3) (L := L) (m := (n + 1)) (ev := ⟨4, 0, (nw - t), ⟨0, 0⟩, 0, 0⟩) _ _ F.kept z3 z8 (by omega) rfl rfl rfl rfl ?_
      intro v' w' hA hk
      exact hK.out _ _ ⟨_, _, _, _, _, _, _, _, _, _, _, _, _, _, _, _, rfl, F.all HSET.out hk hu' d3 HPEa.out (by decide) _ rfl _ hA⟩
    · have d0 : l.getD 0 false = true := by simp [Region.binds] at hd; simp [hd]
      obtain rfl := F.at_ 0 _ _ rfl rfl d0 (flag_out (by rw [hs']; decide))
      have d9 : l.getD 9 false = true := by simp [Region.binds] at hd; simp [hd]
      have z9 := F.at_ 9 _ _ rfl rfl d9 (flag_out (by rw [hs']; decide))
      obtain ⟨g, c, rfl, hE⟩ := z9
      refine wpOp_open rfl (fun K hK => ?_)
      refine step_call (by rfl) 11 #[x.agg, .slice (some ⟨g, 0, none⟩) ((n + 1) + 1) c] (by kernel_rfl) (P := fun v w' => PTwo (PErr true (n + 1)) w' v ∧ Kept (fun _ => False) wr w') (HRUN1.out g c wr F.kept hE) (fun e w' hh => by obtain ⟨a, b, he, hr, hk⟩ := hh; exact ⟨_, he, ⟨a, b, rfl, hr⟩, hk⟩) ?_
      rintro v' w' ⟨hv, hk⟩
      exact hK.out _ _ ⟨_, _, _, _, _, _, _, _, _, _, _, _, _, _, _, _, rfl, F.step HSAa.out 10 HSET.out (hk) _ rfl _ hv (fun h => absurd h (by decide)) (fun _ => d9)⟩
    · have d10 : l.getD 10 false = true := by simp [Region.binds] at hd; simp [hd]
      have z10 := F.at_ 10 _ _ rfl rfl d10 (flag_out (by rw [hs']; decide))
      obtain ⟨ra, rb, rfl, hr⟩ := z10
      refine wpOp_open rfl (fun K hK => ?_)
      go_simp
      have d9 := F.late 10 (by decide) d10
      exact hK.out _ _ ⟨_, _, _, _, _, _, _, _, _, _, _, _, _, _, _, _, rfl, F.step HSAa.out 11 HSET.out (Kept.refl _ _) _ rfl _ ⟨ra, rb, rfl, hr⟩ (fun h => absurd h (by decide)) (fun _ => d9)⟩
    · have d11 : l.getD 11 false = true := by simp [Region.binds] at hd; simp [hd]
      have z11 := F.at_ 11 _ _ rfl rfl d11 (flag_out (by rw [hs']; decide))
      obtain ⟨ra, rb, rfl, hr⟩ := z11
      refine wpOp_open rfl (fun K hK => ?_)
      go_simp
      have d9 := F.late 11 (by decide) d11
      exact hK.out _ _ ⟨_, _, _, _, _, _, _, _, _, _, _, _, _, _, _, _, rfl, F.step HSAa.out 12 HSET.out (Kept.refl _ _) _ rfl _ trivial (fun h => absurd h (by decide)) (fun _ => d9)⟩
    · have d11 : l.getD 11 false = true := by simp [Region.binds] at hd; simp [hd]
      have z11 := F.at_ 11 _ _ rfl rfl d11 (flag_out (by rw [hs']; decide))
      obtain ⟨ra, rb, rfl, hr⟩ := z11
      refine wpOp_open rfl (fun K hK => ?_)
      go_simp
      have d9 := F.late 11 (by decide) d11
      exact hK.out _ _ ⟨_, _, _, _, _, _, _, _, _, _, _, _, _, _, _, _, rfl, F.step HSAa.out 13 HSET.out (Kept.refl _ _) _ rfl _ hr (fun h => absurd h (by decide)) (fun _ => d9)⟩
    · have d12 : l.getD 12 false = true := by simp [Region.binds] at hd; simp [hd]
      have z12 := F.at_ 12 _ _ rfl rfl d12 (flag_out (by rw [hs']; decide))
      refine wpOp_open rfl (fun K hK => ?_)
      go_simp
      have d9 := F.late 12 (by decide) d12
      exact hK.out _ _ ⟨_, _, _, _, _, _, _, _, _, _, _, _, _, _, _, _, rfl, F.step HSAa.out 14 HSET.out (Kept.refl _ _) _ rfl _ z12 (fun h => absurd h (by decide)) (fun _ => d9)⟩
    · have d13 : l.getD 13 false = true := by simp [Region.binds] at hd; simp [hd]
      have z13 := F.at_ 13 _ _ rfl rfl d13 (flag_out (by rw [hs']; decide))
      refine wpOp_open rfl (fun K hK => ?_)
      go_simp
      have d9 := F.late 13 (by decide) d13
      exact hK.out _ _ ⟨_, _, _, _, _, _, _, _, _, _, _, _, _, _, _, _, rfl, F.step HSAa.out 15 HSET.out (Kept.refl _ _) _ rfl _ z13 (fun h => absurd h (by decide)) (fun _ => d9)⟩
  case henda =>
    rintro l a wr hs ⟨v0a, v1a, v2a, v3a, v4a, v5a, v6a, v7a, v8a, v9a, v10a, v11a, v12a, v13a, v14a, v15a, rfl, F⟩ hr
    have hs' : l.size = 16 := hs
    have HAR := all_ready2 hs (by kernel_rfl) hr
    have hR := F.at_ 15 _ _ rfl rfl (HAR 15 (by decide)) (flag_out (by rw [hs']; decide))
    have hK := F.kept
    clear F hr hs hs' HSAa HPEa HAR
    clear hwr
    obtain ⟨gf, hgf, hsf⟩ := hR
    subst hgf
    have HSF := Lib.hid hsf
    have HW4 := Lib.hid hK
    clear hsf hK p0 p1 p2
    obtain ⟨p0, p1, p2⟩ := HBw3.out wr HW4.out
    go_wp2_with fail
    obtain ⟨w4, hw4⟩ : ∃ z, z = wr := ⟨_, rfl⟩
    subst hw4
    have HK4 := Lib.hid (HK3.out.tr0 HW4.out)
    have HBw4 : Hid (∀ w', Kept (fun _ => False) w4 w' → w'.cell? ⟨w.heap.size, 0, none⟩ = some (.slice x.os x.obs.length x.oc) ∧ w'.cell? ⟨w.heap.size, 1, none⟩ = some (.slice x.ps x.prs.length x.pc) ∧ w'.cell? ⟨w.heap.size, 2, none⟩ = some (.slice x.ks x.pis.length x.kc)) := Lib.hid (fun w' hk => HP.out w' (HK4.out.tr0 hk))
    have HXw4 : Hid (∀ w', Kept (fun _ => False) w4 w' → Lies w' w'.heap.size x) := Lib.hid (fun w' hk => HX.out w' (HK4.out.tr0 hk))
    have HEw4 : Hid (∀ w', Kept (fun _ => False) w4 w' → Elems w' w'.heap.size (some ⟨ga, off, none⟩) 7 Ev.cells L) := Lib.hid (fun w' hk => HE.out w' (HK4.out.tr0 hk))
    have HRUN4 : Hid (∀ g c w', Kept (fun _ => False) w4 w' → Elems w' w'.heap.size (some ⟨g, 0, none⟩) 7 Ev.cells (L ++ [⟨4, x.prs.length, nw, ⟨0, 0⟩, 0, 0⟩]) → Calls Tryz.prog 11 #[x.agg, .slice (some ⟨g, 0, none⟩) ((n + 1) + 1) c] w' fun e w'' => ∃ a b, e = .returned (.tuple #[a, b]) ∧ PErr true (n + 1) w'' b ∧ Kept (fun _ => False) w' w'') := Lib.hid (fun g c w' hk => HRUN2.out g c w' (HW4.out.tr0 hk))
    clear HST1 HRUN1 HRUN2
    have HSAb : Hid (StayAll [PEq x.agg, PNil w4.heap.size, PEq (.slice (some ⟨ga, off, none⟩) (n + 1) cap), POwn w4.heap.size (n + 1) L, PEq (.pointer (some ⟨w.heap.size, 1, none⟩)), PEq (.slice x.ps x.prs.length x.pc), PEq (.int .i64 (x.prs.length : Int)), PEq (.int .i64 nw), PEq ((⟨4, x.prs.length, nw, ⟨0, 0⟩, 0, 0⟩ : Ev).agg), PLit ⟨4, x.prs.length, nw, ⟨0, 0⟩, 0, 0⟩, PAll ((n + 1) + 1) (L ++ [⟨4, x.prs.length, nw, ⟨0, 0⟩, 0, 0⟩]), PTwo (PErr true (n + 1)), PTwo (PErr true (n + 1)), PAny, (PErr true (n + 1)), PAny, (PErr true (n + 1))]) := Lib.hid ⟨stay_eq _, stay_nil _, stay_eq _, stay_own _ _ _, stay_eq _, stay_eq _, stay_eq _, stay_eq _, stay_eq _, stay_lit _, stay_all _ _, stay_two HST2.out, stay_two HST2.out, stay_anyR, HST2.out, stay_anyR, HST2.out, trivial⟩
    have HPEb : Hid (∀ jq, jq < 9 → jq ≠ 1 → jq ≠ 3 → ∀ P, ([PEq x.agg, PNil w4.heap.size, PEq (.slice (some ⟨ga, off, none⟩) (n + 1) cap), POwn w4.heap.size (n + 1) L, PEq (.pointer (some ⟨w.heap.size, 1, none⟩)), PEq (.slice x.ps x.prs.length x.pc), PEq (.int .i64 (x.prs.length : Int)), PEq (.int .i64 nw), PEq ((⟨4, x.prs.length, nw, ⟨0, 0⟩, 0, 0⟩ : Ev).agg), PLit ⟨4, x.prs.length, nw, ⟨0, 0⟩, 0, 0⟩, PAll ((n + 1) + 1) (L ++ [⟨4, x.prs.length, nw, ⟨0, 0⟩, 0, 0⟩]), PTwo (PErr true (n + 1)), PTwo (PErr true (n + 1)), PAny, (PErr true (n + 1)), PAny, (PErr true (n + 1))] : List (World → Value → Prop))[jq]? = some P → ∃ c, P = PEq c) := Lib.hid (fun jq h1 h2 h3 P hP => by
      have hj : jq = 0 ∨ jq = 2 ∨ jq = 4 ∨ jq = 5 ∨ jq = 6 ∨ jq = 7 ∨ jq = 8 := by omega
      rcases hj with rfl | rfl | rfl | rfl | rfl | rfl | rfl <;> (simp only [List.getElem?_cons_zero, List.getElem?_cons_succ, Option.some.injEq] at hP; exact ⟨_, hP.symm⟩))
    refine wp_region_any (by kernel_rfl) (wpAny_inv (fun l a w' => ∃ v0 v1 v2 v3 v4 v5 v6 v7 v8 v9 v10 v11 v12 v13 v14 v15 v16, a = ⟨#[x.agg, Value.slice (some ⟨ga, off, none⟩) (n + 1) cap, Value.int IntKind.i64 t, Value.pointer (some ⟨w.heap.size, 0, none⟩), undef, undef, Value.bool false, Value.bool true, Value.bool true, Value.slice (some ⟨g, 0, none⟩) m c, Value.nilIface, Value.int IntKind.i64 nw, v14a, Er.spotV gf, v15, v16, Value.bool true, Value.agg #[Value.slice x.os x.obs.length x.oc, Value.slice x.ps x.prs.length x.pc, Value.slice x.ks x.pis.length x.kc], Value.bool true, Value.bool true, Value.bool false, Value.bool false, Value.slice (some ⟨ga, off, none⟩) (n + 1) cap, Value.int IntKind.i64 ((n : Int) + 1), Value.bool (decide (500 < (n : Int) + 1)), Value.bool (decide (500 < (n : Int) + 1)), undef, Value.tuple #[Value.slice (some ⟨g, 0, none⟩) m c, Value.nilIface], Value.agg #[Value.slice x.os x.obs.length x.oc, Value.slice x.ps x.prs.length x.pc, Value.slice x.ks x.pis.length x.kc], Value.slice (some ⟨ga, off, none⟩) (n + 1) cap, Value.tuple #[Value.slice (some ⟨g, 0, none⟩) m c, Value.nilIface], Value.slice (some ⟨g, 0, none⟩) m c, Value.nilIface, Value.nilIface, Value.bool false, Value.bool false, Value.slice (some ⟨ga, off, none⟩) (n + 1) cap, Value.int IntKind.i64 ((n : Int) + 1), Value.bool false, Value.bool false, undef, Value.slice (some ⟨ga, off, none⟩) (n + 1) cap, Value.slice (some ⟨ga, off, none⟩) (n + 1) cap, Value.int IntKind.i64 ((n : Int) + 1), Value.int IntKind.i64 (n : Int), Value.pointer (some ⟨ga, off + n * 7, none⟩), Value.pointer (some ⟨ga, off + n * 7 + 2, none⟩), Value.int IntKind.i64 nw, Value.int IntKind.i64 t, Value.bool (decide (t < 1)), Value.bool (decide (t < 1)), Value.int IntKind.i64 t, Value.int IntKind.i64 nw, Value.bool (decide (nw < t)), Value.bool (decide (t < 1) || decide (nw < t)), undef, undef, v11a, v0a, v1a, v2a, v3a, v4a, v5a, v6a, v7a, v8a, v9a, v10a, v12a, v13a, v12, v0, v1, v2, v3, v4, v5, v6, v7, v8, v9, v10, v11, v13, v14, undef, undef, undef, undef, undef, undef, undef, undef, undef, undef, undef, undef, undef], []⟩ ∧ AG w4 [PEq x.agg, PNil w4.heap.size, PEq (.slice (some ⟨ga, off, none⟩) (n + 1) cap), POwn w4.heap.size (n + 1) L, PEq (.pointer (some ⟨w.heap.size, 1, none⟩)), PEq (.slice x.ps x.prs.length x.pc), PEq (.int .i64 (x.prs.length : Int)), PEq (.int .i64 nw), PEq ((⟨4, x.prs.length, nw, ⟨0, 0⟩, 0, 0⟩ : Ev).agg), PLit ⟨4, x.prs.length, nw, ⟨0, 0⟩, 0, 0⟩, PAll ((n + 1) + 1) (L ++ [⟨4, x.prs.length, nw, ⟨0, 0⟩, 0, 0⟩]), PTwo (PErr true (n + 1)), PTwo (PErr true (n + 1)), PAny, (PErr true (n + 1)), PAny, (PErr true (n + 1))] 9 l w' [v0, v1, v2, v3, v4, v5, v6, v7, v8, v9, v10, v11, v12, v13, v14, v15, v16]) ?hstepb ?hendb _ _ _ _ (by simp) (by simp) ?hstartb)
    case hstartb =>
      exact ⟨_, _, _, _, _, _, _, _, _, _, _, _, _, _, _, _, _, rfl, ⟨(Kept.refl _ _).drew, fun i P v _ hv hf _ => (flag_none hf).elim, fun h => (flag_none h).elim, fun i _ h => (flag_none h).elim⟩⟩
    case hstepb =>
      rintro l a wr i hs ⟨v0, v1, v2, v3, v4, v5, v6, v7, v8, v9, v10, v11, v12, v13, v14, v15, v16, rfl, F⟩ hi
      have hs' : l.size = 17 := hs
      obtain ⟨hlt, hu, hd⟩ := ready_of hi
      have hlt' : i < 17 := hlt
      have hset : ∀ j, (l.setIfInBounds i true).getD j false = if j = i then true else l.getD j false := fun j => getD_set (by omega)
      have hu' := flag_false hu
      have HSET := Lib.hid hset
      clear hi hlt hu hset
      have hi : i = 0 ∨ i = 1 ∨ i = 2 ∨ i = 3 ∨ i = 4 ∨ i = 5 ∨ i = 6 ∨ i = 7 ∨ i = 8 ∨ i = 9 ∨ i = 10 ∨ i = 11 ∨ i = 12 ∨ i = 13 ∨ i = 14 ∨ i = 15 ∨ i = 16 := by omega
      clear hlt'
      obtain ⟨p0, p1, p2⟩ := HBw4.out wr F.kept
      rcases hi with rfl | rfl | rfl | rfl | rfl | rfl | rfl | rfl | rfl | rfl | rfl | rfl | rfl | rfl | rfl | rfl | rfl
      · refine wpOp_open rfl (fun K hK => ?_)
        go_simp
        exact hK.out _ _ ⟨_, _, _, _, _, _, _, _, _, _, _, _, _, _, _, _, _, rfl, F.step HSAb.out 0 HSET.out (Kept.refl _ _) _ rfl _ rfl (fun h => absurd h (by decide)) (fun h => absurd h (by decide))⟩
      · refine wpOp_open rfl (fun K hK => ?_)
        go_simp
        exact hK.out _ _ ⟨_, _, _, _, _, _, _, _, _, _, _, _, _, _, _, _, _, rfl, F.step HSAb.out 1 HSET.out (((Kept.refl _ _).alloc _)) _ rfl _ ((nil_new _).le F.kept.size) (fun h => absurd h (by decide)) (fun h => absurd h (by decide))⟩
      · refine wpOp_open rfl (fun K hK => ?_)
        go_simp
        exact hK.out _ _ ⟨_, _, _, _, _, _, _, _, _, _, _, _, _, _, _, _, _, rfl, F.step HSAb.out 2 HSET.out (Kept.refl _ _) _ rfl _ rfl (fun h => absurd h (by decide)) (fun h => absurd h (by decide))⟩
      · have d1 : l.getD 1 false = true := by simp [Region.binds] at hd; simp [hd]
        have z1 := F.at_ 1 _ _ rfl rfl d1 hu'
        have d2 : l.getD 2 false = true := by simp [Region.binds] at hd; simp [hd]
        obtain rfl := F.at_ 2 _ _ rfl rfl d2 (flag_out (by rw [hs']; decide))
        refine wpOp_open rfl (fun K hK => ?_)
        refine step_own (w3 := w4) (L := L) (m := (n + 1)) _ _ F.kept z1 HEw4.out HN.out (by omega) rfl rfl rfl rfl ?_
        intro b v' w' hb hO hk hkb
        exact hK.out _ _ ⟨_, _, _, _, _, _, _, _, _, _, _, _, _, _, _, _, _, rfl, F.own HSET.out hk hu' HPEb.out rfl (by decide) hb hkb _ rfl _ hO⟩
      · refine wpOp_open rfl (fun K hK => ?_)
        go_simp
        exact hK.out _ _ ⟨_, _, _, _, _, _, _, _, _, _, _, _, _, _, _, _, _, rfl, F.step HSAb.out 4 HSET.out (Kept.refl _ _) _ rfl _ rfl (fun h => absurd h (by decide)) (fun h => absurd h (by decide))⟩
      · have d4 : l.getD 4 false = true := by simp [Region.binds] at hd; simp [hd]
        obtain rfl := F.at_ 4 _ _ rfl rfl d4 (flag_out (by rw [hs']; decide))
        refine wpOp_open rfl (fun K hK => ?_)
        go_simp
        exact hK.out _ _ ⟨_, _, _, _, _, _, _, _, _, _, _, _, _, _, _, _, _, rfl, F.step HSAb.out 5 HSET.out (Kept.refl _ _) _ rfl _ rfl (fun h => absurd h (by decide)) (fun h => absurd h (by decide))⟩
      · have d5 : l.getD 5 false = true := by simp [Region.binds] at hd; simp [hd]
        obtain rfl := F.at_ 5 _ _ rfl rfl d5 (flag_out (by rw [hs']; decide))
        refine wpOp_open rfl (fun K hK => ?_)
        go_simp
        exact hK.out _ _ ⟨_, _, _, _, _, _, _, _, _, _, _, _, _, _, _, _, _, rfl, F.step HSAb.out 6 HSET.out (Kept.refl _ _) _ rfl _ rfl (fun h => absurd h (by decide)) (fun h => absurd h (by decide))⟩
      · refine wpOp_open rfl (fun K hK => ?_)
        go_simp
        exact hK.out _ _ ⟨_, _, _, _, _, _, _, _, _, _, _, _, _, _, _, _, _, rfl, F.step HSAb.out 7 HSET.out (Kept.refl _ _) _ rfl _ rfl (fun h => absurd h (by decide)) (fun h => absurd h (by decide))⟩
      · have d6 : l.getD 6 false = true := by simp [Region.binds] at hd; simp [hd]
        obtain rfl := F.at_ 6 _ _ rfl rfl d6 (flag_out (by rw [hs']; decide))
        have d7 : l.getD 7 false = true := by simp [Region.binds] at hd; simp [hd]
        obtain rfl := F.at_ 7 _ _ rfl rfl d7 (flag_out (by rw [hs']; decide))
        refine wpOp_open rfl (fun K hK => ?_)
        go_simp
        exact hK.out _ _ ⟨_, _, _, _, _, _, _, _, _, _, _, _, _, _, _, _, _, rfl, F.step HSAb.out 8 HSET.out (Kept.refl _ _) _ rfl _ rfl (fun h => absurd h (by decide)) (fun h => absurd h (by decide))⟩
      · have d8 : l.getD 8 false = true := by simp [Region.binds] at hd; simp [hd]
        obtain rfl := F.at_ 8 _ _ rfl rfl d8 (flag_out (by rw [hs']; decide))
        refine wpOp_open rfl (fun K hK => ?_)
        go_simp
        exact hK.out _ _ ⟨_, _, _, _, _, _, _, _, _, _, _, _, _, _, _, _, _, rfl, F.step HSAb.out 9 HSET.out (((Kept.refl _ _).alloc _)) _ rfl _ (lit_new _ ⟨4, x.prs.length, nw, ⟨0, 0⟩, 0, 0⟩) (fun h => absurd h (by decide)) (fun h => absurd h (by decide))⟩
      · have d3 : l.getD 3 false = true := by simp [Region.binds] at hd; simp [hd]
        have z3 := F.at_ 3 _ _ rfl rfl d3 hu'
        have d9 : l.getD 9 false = true := by simp [Region.binds] at hd; simp [hd]
        have z9 := F.at_ 9 _ _ rfl rfl d9 hu'
        refine wpOp_open rfl (fun K hK => ?_)
        refine step_all (w3 := w4) (L := L) (m := (n + 1)) (ev := ⟨4, x.prs.length, nw, ⟨0, 0⟩, 0, 0⟩) _ _ F.kept z3 z9 (by omega) rfl rfl rfl rfl ?_
        intro v' w' hA hk
        exact hK.out _ _ ⟨_, _, _, _, _, _, _, _, _, _, _, _, _, _, _, _, _, rfl, F.all HSET.out hk hu' d3 HPEb.out (by decide) _ rfl _ hA⟩
      · have d0 : l.getD 0 false = true := by simp [Region.binds] at hd; simp [hd]
        obtain rfl := F.at_ 0 _ _ rfl rfl d0 (flag_out (by rw [hs']; decide))
        have d10 : l.getD 10 false = true := by simp [Region.binds] at hd; simp [hd]
        have z10 := F.at_ 10 _ _ rfl rfl d10 (flag_out (by rw [hs']; decide))
        obtain ⟨g, c, rfl, hE⟩ := z10
        refine wpOp_open rfl (fun K hK => ?_)
        refine step_call (by rfl) 11 #[x.agg, .slice (some ⟨g, 0, none⟩) ((n + 1) + 1) c] (by kernel_rfl) (P := fun v w' => PTwo (PErr true (n + 1)) w' v ∧ Kept (fun _ => False) wr w') (HRUN4.out g c wr F.kept hE) (fun e w' hh => by obtain ⟨a, b, he, hr, hk⟩ := hh; exact ⟨_, he, ⟨a, b, rfl, hr⟩, hk⟩) ?_
        rintro v' w' ⟨hv, hk⟩
        exact hK.out _ _ ⟨_, _, _, _, _, _, _, _, _, _, _, _, _, _, _, _, _, rfl, F.step HSAb.out 11 HSET.out (hk) _ rfl _ hv (fun h => absurd h (by decide)) (fun _ => d10)⟩
      · have d11 : l.getD 11 false = true := by simp [Region.binds] at hd; simp [hd]
        have z11 := F.at_ 11 _ _ rfl rfl d11 (flag_out (by rw [hs']; decide))
        obtain ⟨ra, rb, rfl, hr⟩ := z11
        refine wpOp_open rfl (fun K hK => ?_)
        go_simp
        have d10 := F.late 11 (by decide) d11
        exact hK.out _ _ ⟨_, _, _, _, _, _, _, _, _, _, _, _, _, _, _, _, _, rfl, F.step HSAb.out 12 HSET.out (Kept.refl _ _) _ rfl _ ⟨ra, rb, rfl, hr⟩ (fun h => absurd h (by decide)) (fun _ => d10)⟩
      · have d12 : l.getD 12 false = true := by simp [Region.binds] at hd; simp [hd]
        have z12 := F.at_ 12 _ _ rfl rfl d12 (flag_out (by rw [hs']; decide))
        obtain ⟨ra, rb, rfl, hr⟩ := z12
        refine wpOp_open rfl (fun K hK => ?_)
        go_simp
        have d10 := F.late 12 (by decide) d12
        exact hK.out _ _ ⟨_, _, _, _, _, _, _, _, _, _, _, _, _, _, _, _, _, rfl, F.step HSAb.out 13 HSET.out (Kept.refl _ _) _ rfl _ trivial (fun h => absurd h (by decide)) (fun _ => d10)⟩
      · have d12 : l.getD 12 false = true := by simp [Region.binds] at hd; simp [hd]
        have z12 := F.at_ 12 _ _ rfl rfl d12 (flag_out (by rw [hs']; decide))
        obtain ⟨ra, rb, rfl, hr⟩ := z12
        refine wpOp_open rfl (fun K hK => ?_)
        go_simp
        have d10 := F.late 12 (by decide) d12
        exact hK.out _ _ ⟨_, _, _, _, _, _, _, _, _, _, _, _, _, _, _, _, _, rfl, F.step HSAb.out 14 HSET.out (Kept.refl _ _) _ rfl _ hr (fun h => absurd h (by decide)) (fun _ => d10)⟩
      · have d13 : l.getD 13 false = true := by simp [Region.binds] at hd; simp [hd]
        have z13 := F.at_ 13 _ _ rfl rfl d13 (flag_out (by rw [hs']; decide))
        refine wpOp_open rfl (fun K hK => ?_)
        go_simp
        have d10 := F.late 13 (by decide) d13
        exact hK.out _ _ ⟨_, _, _, _, _, _, _, _, _, _, _, _, _, _, _, _, _, rfl, F.step HSAb.out 15 HSET.out (Kept.refl _ _) _ rfl _ z13 (fun h => absurd h (by decide)) (fun _ => d10)⟩
      · have d14 : l.getD 14 false = true := by simp [Region.binds] at hd; simp [hd]
        have z14 := F.at_ 14 _ _ rfl rfl d14 (flag_out (by rw [hs']; decide))
        refine wpOp_open rfl (fun K hK => ?_)
        go_simp
        have d10 := F.late 14 (by decide) d14
        exact hK.out _ _ ⟨_, _, _, _, _, _, _, _, _, _, _, _, _, _, _, _, _, rfl, F.step HSAb.out 16 HSET.out (Kept.refl _ _) _ rfl _ z14 (fun h => absurd h (by decide)) (fun _ => d10)⟩
    case hendb =>
      rintro l a wr hs ⟨v0b, v1b, v2b, v3b, v4b, v5b, v6b, v7b, v8b, v9b, v10b, v11b, v12b, v13b, v14b, v15b, v16b, rfl, F⟩ hr
      have hs' : l.size = 17 := hs
      have HAR := all_ready2 hs (by kernel_rfl) hr
      have hR := F.at_ 16 _ _ rfl rfl (HAR 16 (by decide)) (flag_out (by rw [hs']; decide))
      have hK := F.kept
      clear F hr hs hs' HSAb HPEb HAR
      obtain ⟨gg, hgg, hsg⟩ := hR
      subst hgg
      have HSG := Lib.hid hsg
      have HK5 := Lib.hid (HK4.out.tr0 hK)
      have HI1 := Lib.hid (Er.lawIs_any (HSF.out.kept hK (fun f => f)) (HHW.out wr HK5.out))
      clear hsg hK p0 p1 p2
      go_wp2_with fail
      refine HI1.out.mono ?_
      rintro e w6 ⟨rfl, hk6⟩
      have HI2 := Lib.hid (Er.lawIs_any (HSG.out.kept hk6 (fun f => f)) (HHW.out w6 (HK5.out.tr0 hk6)))
      have HK6 := Lib.hid (HK5.out.tr0 hk6)
      clear hk6
      go_wp2_with fail
      refine HI2.out.mono ?_
      rintro e w7 ⟨rfl, hk7⟩
      have HF := Lib.hid (HFIN.out w7 (HK6.out.tr0 hk7))
      clear hk7
      go_wp2_with fail
      go_ret
      exact ⟨rfl, HF.out⟩

end Go.Proofs.YtbodlaiakcoabaaGreatDoor
