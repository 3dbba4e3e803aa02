/-
  ReplayBegins: the walk.
  Conditions: none.
-/
import Derived.Test.YtbodlaiakcoabaaGreatDoorRepUp
import Derived.Test.YtbodlaiakcoabaaGreatDoorRepEvs
import Derived.Test.YtbodlaiakcoabaaGreatDoorFew
import Derived.Test.YtbodlaiakcoabaaGreatDoorRepEq
import Derived.BigQuiet
import Derived.Deep.RegionWith
namespace Go.Proofs.YtbodlaiakcoabaaGreatDoor
open Go.RowKit
set_option linter.unusedSimpArgs false
set_option linter.unusedVariables false
set_option maxRecDepth 100000

set_option maxHeartbeats 8000000 in
theorem rbegins_any (x : Sc) (L : List Ev) (s : Option Addr) (cap n : Nat) (t : Int) (w : World) (hx : Lies w w.heap.size x) (hE : Elems w w.heap.size s 7 Ev.cells L) (hn : L.length = n) (h64 : ∀ ev ∈ L, Ev64 ev) (hH : Er.HndAt w) :
    Calls Tryz.prog 3 #[x.agg, .slice s n cap, .int .i64 t] w fun e w' => e = .returned (.bool true) ∧ Below w.heap.size w w' := by
  obtain ⟨W0, hW0⟩ : ∃ W0, w.alloc (.cells #[.slice x.os x.obs.length x.oc, .slice x.ps x.prs.length x.pc, .slice x.ks x.pis.length x.kc] 26) = W0 := ⟨_, rfl⟩
  have hk0 : Kept (fun _ => False) w W0 := by rw [← hW0]; exact (Kept.refl _ w).alloc _
  have hs0 : W0.heap.size = w.heap.size + 1 := by rw [← hW0]; simp
  have hb0 : W0.heap[w.heap.size]? = some (.cells #[.slice x.os x.obs.length x.oc, .slice x.ps x.prs.length x.pc, .slice x.ks x.pis.length x.kc] 26 (0, 0)) := by rw [← hW0]; exact heap_alloc_new w _
  have HX := Lib.hid (fun (w' : World) (hk : Kept (fun _ => False) W0 w') => (hx.kept (hk0.trans hk (fun _ _ f => f)) (Nat.le_refl _) (fun _ _ f => f)).more (Nat.le_trans hk0.size hk.size))
  have HE := Lib.hid (fun (w' : World) (hk : Kept (fun _ => False) W0 w') => (hE.kept (hk0.trans hk (fun _ _ f => f)) (Nat.le_refl _) (fun _ _ f => f)).more (Nat.le_trans hk0.size hk.size))
  have HP := Lib.hid (fun (w' : World) (hk : Kept (fun _ => False) W0 w') => box3_cells ((hk.block w.heap.size (by omega) (fun f => f)).trans hb0))
  have HFIN := Lib.hid (fun (w' : World) (hk : Kept (fun _ => False) W0 w') => (hk0.trans hk (fun _ _ f => f)).below (Nat.le_refl _) (fun _ f => f.elim))
  have HH := Lib.hid (hH.on0 hk0)
  have HHW := Lib.hid (fun (w' : World) (hk : Kept (fun _ => False) W0 w') => (hH.on0 hk0).on0 hk)
  have HW0 := Lib.hid hW0
  have HS0 := Lib.hid hs0
  have H64 := Lib.hid h64
  have HN := Lib.hid hn
  have hmax : n ≤ 9223372036854775807 := by have := hE.1; unfold maxLen at this; rw [hn] at this; exact this
  clear hx hE hk0 hs0 hb0 hW0 h64 hH hn
  go_enter Tryz.func3, Tryz.ntmps3
  go_wp2_with fail
  rw [HW0.out]
  clear HW0
  refine (up11_any _ HH.out).mono ?_
  rintro e w1 ⟨rfl, hk1⟩
  obtain ⟨p0, p1, p2⟩ := HP.out w1 hk1
  have HK1 := Lib.hid hk1
  clear hk1
  have HFEW : Hid (Calls Tryz.prog 10 #[x.agg] w1 fun e w' => e = .returned (.bool (Er.fewF x)) ∧ Kept (fun _ => False) w1 w') := Lib.hid (Er.few_any (HX.out w1 HK1.out) (Nat.le_refl _) _ rfl)
  cases hfx : Er.fewF x
  · rw [hfx] at HFEW
    go_wp2_with fail
    refine HFEW.out.mono ?_
    rintro e w2 ⟨rfl, hk2⟩
    have HF := Lib.hid (HFIN.out w2 (HK1.out.trans hk2 (fun _ _ f => f)))
    clear hk2
    go_wp2_with fail
    go_ret
    exact ⟨rfl, HF.out⟩
  rw [hfx] at HFEW
  go_wp2_with fail
  refine HFEW.out.mono ?_
  rintro e w2 ⟨rfl, hk2⟩
  have HK2 := Lib.hid (HK1.out.trans hk2 (fun _ _ f => f))
  clear hk2 p0 p1 p2 hfx
  by_cases h4 : (5000 : Int) < (n : Int)
  · have HF := Lib.hid (HFIN.out w2 HK2.out)
    go_wp2_with fail
    go_ret
    exact ⟨rfl, HF.out⟩
  have hl20 : n ≤ 5000 := by omega
  obtain ⟨WA, hWA⟩ : ∃ WA, w2.alloc (.cells #[] 38) = WA := ⟨_, rfl⟩
  have hkA : Kept (fun _ => False) w2 WA := by rw [← hWA]; exact (Kept.refl _ _).alloc _
  have hbA : WA.heap[w2.heap.size]? = some (.cells #[] 38 (0, 0)) := by rw [← hWA]; exact heap_new1 _ _
  have hoA : WA.ownsRow w2.heap.size 38 7 (.slice (some ⟨w2.heap.size, 0, none⟩) 0 0) 0 (flat Ev.cells []) := ⟨by simp [flat], .inr ⟨w2.heap.size, 0, #[], rfl, Nat.le_refl _, hbA, Nat.le_refl _, Nat.zero_le _, by simp, by simp [flat]⟩⟩
  have HKA := Lib.hid hkA
  have HOA := Lib.hid hoA
  have HEA := Lib.hid (HE.out WA (HK2.out.tr0 hkA))
  clear hkA hbA hoA
  subst hWA
  go_wp2_with (refine wpList_evs rfl _ _ rfl (W := w2.heap.size) HN.out rfl rfl HOA.out (by omega) HEA.out HKA.out.size ?_)
  intro v5 w5 hO hk5 hb5
  have hO' : w5.ownsRow w2.heap.size 38 7 v5 n (flat Ev.cells L) := by
    first | exact hO | (rw [Nat.zero_add, List.nil_append] at hO; exact hO)
  have hK5 : Kept (fun _ => False) w2 w5 := HKA.out.trans hk5 (fun q hq e => by
    have e' : some w2.heap.size = some q := e
    simp only [Option.some.injEq] at e'
    omega)
  obtain ⟨s5, c5, rfl, hE5⟩ := own_elems hO' HN.out (by omega)
  have HCAP : Hid (n ≤ c5) := Lib.hid (own_cap hO')
  have HKIND : Hid ((s5 = none ∧ n = 0 ∧ c5 = 0) ∨ ∃ g, s5 = some ⟨g, 0, none⟩) := Lib.hid (own_kind hO')
  have HE5 := Lib.hid (fun (w' : World) (hk : Kept (fun _ => False) w5 w') => hE5.kept hk (Nat.le_refl _) (fun _ _ f => f))
  have HK5 := Lib.hid (HK2.out.tr0 hK5)
  clear hO hO' hk5 hb5 hK5
  obtain ⟨p0, p1, p2⟩ := HP.out w5 HK5.out
  have HRUN := Lib.hid (run_said x L n HN.out s5 c5 w5 (HX.out w5 HK5.out) hE5 H64.out (by omega))
  clear hE5
  go_wp2_with fail
  refine HRUN.out.mono ?_
  rintro e w3 ⟨hk3, hR⟩
  have HK3 := Lib.hid (HK5.out.tr0 hk3)
  have HE3 := Lib.hid (fun (w' : World) (hk : Kept (fun _ => False) w3 w') => HE5.out w' (hk3.tr0 hk))
  clear hk3 HRUN p0 p1 p2
  rcases hR with ⟨T, u, rfl, -⟩ | ⟨σ, hg, hlg, hG, g, c, m, tts, rfl, hT⟩
  · go_wp2_with fail
    go_loopw [12] (fun i wr => ∃ k : Nat, i = .int .i64 k ∧ k ≤ n ∧ Kept (fun _ => False) w3 wr) (fun i _ => n - (intOf i).toNat)
    case atStart => exact ⟨0, rfl, by omega, Kept.refl _ _⟩
    case round =>
      obtain ⟨k, rfl, hk1, hkr⟩ := hrel
      by_cases hkk : k < n
      · obtain ⟨ev, hev⟩ : ∃ ev, L[k]? = some ev := ⟨_, List.getElem?_eq_getElem (by rw [HN.out]; exact hkk)⟩
        obtain ⟨ga, off, rfl, hga, hc⟩ := (HE.out wr (HK3.out.tr0 hkr)).2 k ev hev
        obtain ⟨gb, offb, rfl, hgb, hd⟩ := (HE3.out wr hkr).2 k ev hev
        have k0 : (0 : Int) ≤ (k : Int) := by omega
        have k1 : (k : Int) < (n : Int) := by omega
        have c0 : wr.cell? ⟨ga, off + k * 7, none⟩ = some (.int .i64 ev.kind) := hc 0 _ rfl
        have d0 : wr.cell? ⟨gb, offb + k * 7, none⟩ = some (.int .i64 ev.kind) := hd 0 _ rfl
        have c1 : wr.cell? ⟨ga, off + k * 7 + 1, none⟩ = some (.int .i64 ev.thread) := hc 1 _ rfl
        have d1 : wr.cell? ⟨gb, offb + k * 7 + 1, none⟩ = some (.int .i64 ev.thread) := hd 1 _ rfl
        have c2 : wr.cell? ⟨ga, off + k * 7 + 2, none⟩ = some (.int .i64 ev.now) := hc 2 _ rfl
        have d2 : wr.cell? ⟨gb, offb + k * 7 + 2, none⟩ = some (.int .i64 ev.now) := hd 2 _ rfl
        have c3 : wr.cell? ⟨ga, off + k * 7 + 3, none⟩ = some (.int .i64 ev.m.kind) := hc 3 _ rfl
        have d3 : wr.cell? ⟨gb, offb + k * 7 + 3, none⟩ = some (.int .i64 ev.m.kind) := hd 3 _ rfl
        have c4 : wr.cell? ⟨ga, off + k * 7 + 4, none⟩ = some (.int .i64 ev.m.v) := hc 4 _ rfl
        have d4 : wr.cell? ⟨gb, offb + k * 7 + 4, none⟩ = some (.int .i64 ev.m.v) := hd 4 _ rfl
        have c5 : wr.cell? ⟨ga, off + k * 7 + 5, none⟩ = some (.int .i64 ev.value) := hc 5 _ rfl
        have d5 : wr.cell? ⟨gb, offb + k * 7 + 5, none⟩ = some (.int .i64 ev.value) := hd 5 _ rfl
        have c6 : wr.cell? ⟨ga, off + k * 7 + 6, none⟩ = some (.int .i64 ev.got) := hc 6 _ rfl
        have d6 : wr.cell? ⟨gb, offb + k * 7 + 6, none⟩ = some (.int .i64 ev.got) := hd 6 _ rfl
        have HKR := Lib.hid hkr
        have hne := neq_ev ev
        clear hev hc hd hga hgb hkr
        go_wp2_with fail
        go_quiet (fail)
        go_wp2_with fail
        go_roundw
        case rel => exact ⟨k + 1, by go_num, by omega, HKR.out.drewN _⟩
        case measure => simp [intOf]; omega
      · have k1 : ¬ (k : Int) < (n : Int) := by omega
        have HF := Lib.hid (HFIN.out wr (HK3.out.tr0 hkr))
        clear hkr
        by_cases ht0 : t < 0
        · go_wp2_with fail
          go_ret
          exact ⟨rfl, HF.out⟩
        · have ht1 : (0 : Int) ≤ t := by omega
          by_cases ht2 : (n : Int) < t
          · go_wp2_with fail
            go_ret
            exact ⟨rfl, HF.out⟩
          · go_wp2_with fail
            go_ret
            exact ⟨rfl, HF.out⟩
  have HG := Lib.hid hg
  have HLG := Lib.hid hlg
  have HGOOD := Lib.hid hG
  have HT := Lib.hid hT
  clear hg hlg hG hT
  go_wp2_with fail
  go_loopw [12] (fun i wr => ∃ k : Nat, i = .int .i64 k ∧ k ≤ n ∧ Kept (fun _ => False) w3 wr) (fun i _ => n - (intOf i).toNat)
  case atStart => exact ⟨0, rfl, by omega, Kept.refl _ _⟩
  case round =>
    obtain ⟨k, rfl, hk1, hkr⟩ := hrel
    by_cases hkk : k < n
    · obtain ⟨ev, hev⟩ : ∃ ev, L[k]? = some ev := ⟨_, List.getElem?_eq_getElem (by rw [HN.out]; exact hkk)⟩
      obtain ⟨ga, off, rfl, hga, hc⟩ := (HE.out wr (HK3.out.tr0 hkr)).2 k ev hev
      obtain ⟨gb, offb, rfl, hgb, hd⟩ := (HE3.out wr hkr).2 k ev hev
      have k0 : (0 : Int) ≤ (k : Int) := by omega
      have k1 : (k : Int) < (n : Int) := by omega
      have c0 : wr.cell? ⟨ga, off + k * 7, none⟩ = some (.int .i64 ev.kind) := hc 0 _ rfl
      have d0 : wr.cell? ⟨gb, offb + k * 7, none⟩ = some (.int .i64 ev.kind) := hd 0 _ rfl
      have c1 : wr.cell? ⟨ga, off + k * 7 + 1, none⟩ = some (.int .i64 ev.thread) := hc 1 _ rfl
      have d1 : wr.cell? ⟨gb, offb + k * 7 + 1, none⟩ = some (.int .i64 ev.thread) := hd 1 _ rfl
      have c2 : wr.cell? ⟨ga, off + k * 7 + 2, none⟩ = some (.int .i64 ev.now) := hc 2 _ rfl
      have d2 : wr.cell? ⟨gb, offb + k * 7 + 2, none⟩ = some (.int .i64 ev.now) := hd 2 _ rfl
      have c3 : wr.cell? ⟨ga, off + k * 7 + 3, none⟩ = some (.int .i64 ev.m.kind) := hc 3 _ rfl
      have d3 : wr.cell? ⟨gb, offb + k * 7 + 3, none⟩ = some (.int .i64 ev.m.kind) := hd 3 _ rfl
      have c4 : wr.cell? ⟨ga, off + k * 7 + 4, none⟩ = some (.int .i64 ev.m.v) := hc 4 _ rfl
      have d4 : wr.cell? ⟨gb, offb + k * 7 + 4, none⟩ = some (.int .i64 ev.m.v) := hd 4 _ rfl
      have c5 : wr.cell? ⟨ga, off + k * 7 + 5, none⟩ = some (.int .i64 ev.value) := hc 5 _ rfl
      have d5 : wr.cell? ⟨gb, offb + k * 7 + 5, none⟩ = some (.int .i64 ev.value) := hd 5 _ rfl
      have c6 : wr.cell? ⟨ga, off + k * 7 + 6, none⟩ = some (.int .i64 ev.got) := hc 6 _ rfl
      have d6 : wr.cell? ⟨gb, offb + k * 7 + 6, none⟩ = some (.int .i64 ev.got) := hd 6 _ rfl
      have HKR := Lib.hid hkr
      have hne := neq_ev ev
      clear hev hc hd hga hgb hkr
      go_wp2_with fail
      go_quiet (fail)
      go_wp2_with fail
      go_roundw
      case rel => exact ⟨k + 1, by go_num, by omega, HKR.out.drewN _⟩
      case measure => simp [intOf]; omega
    · have k1 : ¬ (k : Int) < (n : Int) := by omega
      have HKR := Lib.hid (HK3.out.tr0 hkr)
      have HE6 := Lib.hid (HE3.out wr hkr)
      have HT6 := Lib.hid (HT.out.kept hkr)
      have HF := Lib.hid (HFIN.out wr HKR.out)
      clear hkr hkk
      by_cases ht0 : t < 0
      · go_wp2_with fail
        go_ret
        exact ⟨rfl, HF.out⟩
      have ht1 : (0 : Int) ≤ t := by omega
      by_cases ht2 : (n : Int) < t
      · go_wp2_with fail
        go_ret
        exact ⟨rfl, HF.out⟩
      have ht3 : t ≤ (n : Int) := by omega
      obtain ⟨j, rfl⟩ : ∃ j : Nat, t = j := ⟨t.toNat, by omega⟩
      obtain ⟨w6, hw6⟩ : ∃ z, z = wr := ⟨_, rfl⟩
      subst hw6
      have hm6 := HT6.out.sm
      go_wp2_with fail
      go_loopw [13] (fun i wr => ∃ (k : Nat) (ts : List Tt), i = .int .i64 k ∧ k ≤ m ∧ ts.length = m ∧ Row wr g c 42 15 Tt.cells ts ∧ Kept (fun b => b = g) w6 wr) (fun i _ => m - (intOf i).toNat)
      case atStart => exact ⟨0, tts, rfl, by omega, HT6.out.len, HT6.out.row, Kept.refl _ _⟩
      case round =>
        obtain ⟨k, ts, rfl, hk1, hlen, hrow, hkr⟩ := hrel
        by_cases hkk : k < m
        · obtain ⟨q, hq⟩ : ∃ q, ts[k]? = some q := ⟨_, List.getElem?_eq_getElem (by omega)⟩
          have HROW := Lib.hid hrow
          have HQ := Lib.hid hq
          have HKL := Lib.hid hkr
          have HLEN := Lib.hid hlen
          have k0 : (0 : Int) ≤ (k : Int) := by omega
          have k1 : (k : Int) < (m : Int) := by omega
          clear hrow hq hkr hlen
          go_wp2_with (refine wpList_store15 rfl rfl rfl (y := ⟨0, 0, 0, 0, fun _ => 0, [], 0, 0⟩) (s := none) (cc := 0) rfl HROW.out HQ.out ?_)
          intro W7 hR7 hK7 _
          have HR7 := Lib.hid hR7
          have HK7 := Lib.hid (HKL.out.trans hK7 (fun _ _ e => e))
          clear hR7 hK7
          go_wp2_with fail
          go_roundw
          case rel => exact ⟨k + 1, _, by go_num, by omega, by rw [List.length_set]; exact HLEN.out, HR7.out, HK7.out⟩
          case measure => simp [intOf]; omega
        · have k1 : ¬ (k : Int) < (m : Int) := by omega
          have hlow : w5.heap.size ≤ g := HT6.out.low
          have hlow0 : W0.heap.size ≤ g := Nat.le_trans HK5.out.size hlow
          have h56 : w5.heap.size ≤ w6.heap.size := Nat.le_trans hlow (Nat.le_of_lt HT6.out.row.lt)
          have hKL : Kept (fun _ => False) W0 wr.drew := (HKR.out.trans hkr (T := fun b => b = g) (fun q hq e => by omega)).drew
          have hEL : Elems wr.drew w5.heap.size s5 7 Ev.cells L := HE6.out.kept (S := fun b => b = g) hkr.drew h56 (fun q hq e => by omega)
          have hE7 : Elems wr.drew wr.drew.heap.size s5 7 Ev.cells (L.take j) := (hEL.take j).more (Nat.le_trans h56 hkr.size)
          obtain ⟨σ2, hg2⟩ := goM_take HG.out j
          have hjn : j ≤ n := by omega
          have HRUN2 := Lib.hid (run_good x (L.take j) j (by rw [List.length_take, HN.out]; omega) hg2 HLG.out s5 c5 wr.drew (HX.out _ hKL) hE7 (fun ev hev => H64.out ev (List.mem_of_mem_take hev)) (by omega))
          obtain ⟨p0, p1, p2⟩ := HP.out wr.drew hKL
          have q0 : wr.cell? ⟨w.heap.size, 0, none⟩ = some (.slice x.os x.obs.length x.oc) := p0
          have q1 : wr.cell? ⟨w.heap.size, 1, none⟩ = some (.slice x.ps x.prs.length x.pc) := p1
          have q2 : wr.cell? ⟨w.heap.size, 2, none⟩ = some (.slice x.ks x.pis.length x.kc) := p2
          have HKL := Lib.hid hKL
          have ht3' : (j : Int) ≤ (n : Int) := by omega
          have hcap : n ≤ c5 := HCAP.out
          clear hKL hEL hE7 hg2 hkr hrow hlen hlow hlow0 h56
          have hjc : (j : Int) ≤ (c5 : Int) := by omega
          rcases HKIND.out with ⟨rfl, rfl, rfl⟩ | ⟨gk, rfl⟩
          · obtain rfl : j = 0 := by omega
            go_wp2_with fail
            go_region_with (go_at_call 11; refine HRUN2.out.mono ?_; rintro e w8 ⟨g8, c8, m8, t8, rfl, hT8, hk8⟩; have HF8 := Lib.hid (HFIN.out w8 (HKL.out.tr0 hk8)); clear hT8 hk8)
            all_goals (go_wp2_with fail; go_ret; exact ⟨rfl, HF8.out⟩)
          · go_wp2_with fail
            go_region_with (go_at_call 11; refine HRUN2.out.mono ?_; rintro e w8 ⟨g8, c8, m8, t8, rfl, hT8, hk8⟩; have HF8 := Lib.hid (HFIN.out w8 (HKL.out.tr0 hk8)); clear hT8 hk8)
            all_goals (go_wp2_with fail; go_ret; exact ⟨rfl, HF8.out⟩)

end Go.Proofs.YtbodlaiakcoabaaGreatDoor
