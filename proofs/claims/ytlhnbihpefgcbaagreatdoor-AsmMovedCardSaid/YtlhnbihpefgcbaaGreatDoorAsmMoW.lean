/-
  The walk of the statement AsmMoved.
  Conditions: what the row lists lies as the texts lay it.
-/
import Derived.Test.YtlhnbihpefgcbaaGreatDoorAsmForm
import Derived.Test.YtlhnbihpefgcbaaGreatDoorAsmMove
import Derived.WalkKit
import Derived.ProofKit
import Derived.OpenShut
namespace Go.Proofs.YtlhnbihpefgcbaaGreatDoor
namespace asmMoved
open Go.ChangeShapes Go.WideShapes Go.ChangeAt Go.RowKit
set_option linter.unusedVariables false

set_option maxHeartbeats 16000000 in
set_option maxRecDepth 100000 in
theorem walk (ts : List Str) (sl : Option Addr) (cap : Nat) (a1 : Int) (ha : (Lit.int .i64 a1).wf = true) (w : World) (hE : Elems w w.heap.size sl 1 sC ts) (hC : Ctx w) :
    Calls Tryz.prog 6 #[.slice sl ts.length cap, .int .i64 a1] w fun e w' => e = .returned (.bool true) ∧ Below w.heap.size w w' := by
  obtain ⟨i4, hi4, hz4, hn4, hb4⟩ := info_parts Tryz.infoStr
  have HI4 := Lib.hid hi4; clear hi4
  have HZ4 := Lib.hid hz4; clear hz4
  have HN4 := Lib.hid hn4; clear hn4
  have HB4 := Lib.hid hb4; clear hb4
  obtain ⟨n, hn⟩ : ∃ n, ts.length = n := ⟨_, rfl⟩
  rw [hn]
  have HFIN := Lib.hid (fun w1 (hk : Kept (fun _ => False) w w1) => hk.below (Nat.le_refl _) (fun _ f => f.elim))
  have HE := Lib.hid (fun w1 (hk : Kept (fun _ => False) w w1) => (show Elems w1 w1.heap.size sl 1 sC ts from (hE.kept hk (Nat.le_refl _) (fun _ _ f => f)).more hk.size))
  have HC := Lib.hid (fun w1 (hk : Kept (fun _ => False) w w1) => hC.on0 hk)
  have HU := Lib.hid (upA_any w hC)
  have HN := Lib.hid hn
  obtain ⟨r, hr⟩ : ∃ r, shortL ts = r := ⟨_, rfl⟩
  have HS := Lib.hid (fun w1 (hk : Kept (fun _ => False) w w1) => short_any (cap := cap) w1 (HE.out w1 hk) hn hr)
  clear hE hC hn
  cases r
  case false =>
    clear hr
    go_enter Tryz.func6, Tryz.ntmps6
    go_wp2_with fail
    refine (HU.out).mono ?_
    rintro e w1 ⟨rfl, hk1⟩
    have HK1 := Lib.hid hk1
    clear hk1
    go_wp2_with fail
    refine (HS.out _ HK1.out).mono ?_
    rintro e w2 ⟨rfl, hw2⟩
    subst w2
    go_wp2_with fail
    go_ret
    exact ⟨rfl, HFIN.out _ HK1.out⟩
  obtain ⟨hz, hz40, _⟩ := short_size hr
  have hz5 : sizeL ts ≤ 31000 := hz
  have hn40 : n ≤ 40 := by rw [← HN.out]; exact hz40
  clear hr hz hz40
  by_cases h0 : a1 < 0
  case pos =>
    clear ha hz5 hn40
    go_enter Tryz.func6, Tryz.ntmps6
    go_wp2_with fail
    refine (HU.out).mono ?_
    rintro e w1 ⟨rfl, hk1⟩
    have HK1 := Lib.hid hk1
    clear hk1
    go_wp2_with fail
    refine (HS.out _ HK1.out).mono ?_
    rintro e w2 ⟨rfl, hw2⟩
    subst w2
    go_wp2_with fail
    go_ret
    exact ⟨rfl, HFIN.out _ HK1.out⟩
  by_cases h5 : 50 < a1
  case pos =>
    clear ha hz5 hn40
    go_enter Tryz.func6, Tryz.ntmps6
    go_wp2_with fail
    refine (HU.out).mono ?_
    rintro e w1 ⟨rfl, hk1⟩
    have HK1 := Lib.hid hk1
    clear hk1
    go_wp2_with fail
    refine (HS.out _ HK1.out).mono ?_
    rintro e w2 ⟨rfl, hw2⟩
    subst w2
    go_wp2_with fail
    go_ret
    exact ⟨rfl, HFIN.out _ HK1.out⟩
  obtain ⟨k, rfl⟩ : ∃ k : Nat, a1 = k := ⟨a1.toNat, by omega⟩
  have hk50 : k ≤ 50 := by omega
  clear ha
  have HLS : Hid ((textsL ts).length ≤ 200000) := Lib.hid (by have := texts_len ts; omega)
  have HA := Lib.hid (fun w1 (hk : Kept (fun _ => False) w w1) => assemble_any ts sl cap w1 (HE.out w1 hk) (Nat.le_trans hz5 (by decide)) (HC.out w1 hk).laid HN.out)
  have HB := Lib.hid (fun (sl' : Option Addr) (cap' : Nat) (w1 : World) (hk : Kept (fun _ => False) w w1) (hE : Elems w1 w1.heap.size sl' 1 sC (frontL k :: ts)) => assemble_any (n := 1 + n) (frontL k :: ts) sl' cap' w1 hE (by have := front_len k; simp only [sizeL, List.map_cons, List.sum_cons] at hz5 ⊢; omega) (HC.out w1 hk).laid (by rw [List.length_cons, HN.out, Nat.add_comm]))
  have HFL := Lib.hid (front_len)
  clear hz5
  go_enter Tryz.func6, Tryz.ntmps6
  go_wp2_with fail
  refine (HU.out).mono ?_
  rintro e w1 ⟨rfl, hk1⟩
  have HK1 := Lib.hid hk1
  clear hk1
  go_wp2_with fail
  refine (HS.out _ HK1.out).mono ?_
  rintro e w2 ⟨rfl, hw2⟩
  subst w2
  go_wp2_with fail
  refine (HA.out _ HK1.out).mono ?_
  rintro e w2 h2
  have HK2 := Lib.hid (HK1.out.trans h2.1 (fun _ _ f => f))
  cases hr : asmA (textsL ts) with
  | error p =>
    rw [hr] at h2
    obtain ⟨hk2, g, _, hs, rfl⟩ := h2
    clear hk2 hs hr
    go_wp2_with fail
    go_ret
    exact ⟨rfl, HFIN.out _ HK2.out⟩
  | ok cl =>
    obtain ⟨c, l⟩ := cl
    rw [hr] at h2
    obtain ⟨hk2, v, u, rfl, hT⟩ := h2
    have hcl := asm_len HLS.out hr
    obtain ⟨sv, cv, rfl, hMv⟩ := Made.of_own insC_five hT.code rfl (Nat.le_trans hcl.1 (by decide))
    obtain ⟨su, cu, rfl, hMu⟩ := Made.of_own labC_two hT.labs rfl (Nat.le_trans hcl.2 (by decide))
    have HMV := Lib.hid (fun w3 (hk : Kept (fun _ => False) w2 w3) => (show Elems w3 w3.heap.size sv 5 insC c from (hMv.elems.kept hk (Nat.le_refl _) (fun _ _ f => f)).more hk.size))
    have HMU := Lib.hid (fun w3 (hk : Kept (fun _ => False) w2 w3) => (show Elems w3 w3.heap.size su 2 labC l from (hMu.elems.kept hk (Nat.le_refl _) (fun _ _ f => f)).more hk.size))
    have HR := Lib.hid hr
    obtain ⟨d, hd⟩ : ∃ d, c.length = d := ⟨_, rfl⟩
    obtain ⟨m, hm⟩ : ∃ m, l.length = m := ⟨_, rfl⟩
    have HD := Lib.hid hd
    have HM := Lib.hid hm
    have hd1 : d ≤ 1024 := by omega
    have hm1 : m ≤ 200000 := by omega
    rw [hd, hm]
    clear hr hk2 hT hMv hMu hcl hd hm
    by_cases hfull : 1024 < d + k
    case pos =>
      have q : (1024 : Int) < (d : Int) + (k : Int) := by omega
      clear hfull
      go_wp2_with fail
      go_ret
      exact ⟨rfl, HFIN.out _ HK2.out⟩
    have q : ¬ (1024 : Int) < (d : Int) + (k : Int) := by omega
    have HA5 : Hid (asmA (textsL (frontL k :: ts)) = .ok (List.replicate k nowLn ++ c.map (goA k), moveA k l)) := Lib.hid (by
      rw [show textsL (frontL k :: ts) = linesL (frontL k) ++ textsL ts from rfl]
      exact asm_move k HR.out (by rw [HD.out]; omega))
    have HGO := Lib.hid (code_goes HR.out)
    have HLI := Lib.hid (labs_in HR.out)
    clear hfull
    go_wp2_with fail
    go_loop [10, 11] (fun s i => ∃ j : Nat, i = .int .i64 j ∧ j ≤ k ∧ s = .string (strS (frontL j))) (fun _ i => k - (intOf i).toNat)
    case atStart => exact ⟨0, rfl, by omega, rfl⟩
    case round =>
      obtain ⟨j, rfl, hj, rfl⟩ := hrel
      by_cases hjk : j < k
      case pos =>
        have HFM : Hid (strS (frontL j) ++ { data := #[110, 111, 119, 32, 114, 49, 10] } = strS (frontL (j + 1))) := Lib.hid (by rw [front_more, ← strS_add]; rfl)
        have hfs : (strS (frontL j)).size = 7 * j := by rw [strS_size, front_len]
        go_wp2_with fail
        go_round
        case rel => exact ⟨j + 1, by go_num, by omega, by rw [HFM.out]⟩
        case measure => simp [intOf]; omega
      obtain rfl : j = k := by omega
      have HOWN := Lib.hid (show World.ownsRow (w2.alloc (.cells #[.string (strS (frontL j))] 9)) w2.heap.size 9 1 (.slice (some ⟨w2.heap.size, 0, none⟩) 1 1) 1 (flat sC [frontL j]) from ⟨rfl, .inr ⟨w2.heap.size, 1, #[.string (strS (frontL j))], rfl, Nat.le_refl _, heap_new1 _ _, Nat.le_refl _, by decide, rfl, rfl⟩⟩)
      clear hjk
      go_wp2_with (at_builtin; refine wpList_append_elems (f := sC) (ys := ts) _ rfl (.tmp 59) (.tmp 60) 22 rfl w2.heap.size 9 i4 (.string { data := #[] }) 1 16 Tryz.underlying22 HI4.out HZ4.out HN4.out HB4.out rfl (by decide) sC_one (sC_cell _) (.slice (some ⟨w2.heap.size, 0, none⟩) 1 1) 1 (flat sC [frontL j]) rfl ?c1 ?bb sl cap (congrArg (fun q => Value.slice sl q cap) HN.out.symm) ?c2 ?c3 ?c4 ?c5 ?_)
      case c1 => exact HOWN.out
      case c2 => exact HE.out _ (HK2.out.alloc _)
      case c3 => rw [HN.out]; unfold maxLen; omega
      case c4 => rw [HN.out]; omega
      intro v' w3 h1 h2 h3
      have hk23 : Kept (fun _ => False) w2 w3 := ((Kept.refl _ w2).alloc _).grown h2 (fun g hg e => by have := (World.ownsRow.lt HOWN.out g e).1; omega)
      have hk3 : Kept (fun _ => False) w w3 := HK2.out.trans hk23 (fun _ _ f => f)
      have hln : (frontL j :: ts).length = 1 + n := by rw [List.length_cons, HN.out, Nat.add_comm]
      obtain ⟨sx, cx, hv, hM⟩ := Made.of_own (ys := frontL j :: ts) sC_one (by rw [hln, ← HN.out]; exact h1) rfl (by rw [hln]; unfold maxLen; omega)
      rw [hln] at hv
      subst hv
      clear h1 h2 h3 hln
      have HBB := HB.out sx cx w3 hk3 hM.elems
      rw [HA5.out] at HBB
      replace HBB := Lib.hid HBB
      have HK3 := Lib.hid hk3
      have HK23 := Lib.hid hk23
      clear hM hk3 hk23
      go_wp2_with fail
      refine HBB.out.mono ?_
      rintro e w5 ⟨hk5, v2, u2, rfl, hT5⟩
      have hL1 : (List.replicate j nowLn ++ c.map (goA j)).length = d + j := by rw [List.length_append, List.length_replicate, List.length_map, HD.out, Nat.add_comm]
      have hL2 : (moveA j l).length = m := by unfold moveA; rw [List.length_map, HM.out]
      obtain ⟨sw, cw, rfl, hMw⟩ := Made.of_own insC_five hT5.code rfl (by rw [hL1]; unfold maxLen; omega)
      obtain ⟨sy, cy, rfl, hMy⟩ := Made.of_own labC_two hT5.labs rfl (by rw [hL2]; unfold maxLen; omega)
      have HK5 := Lib.hid (HK3.out.trans hk5 (fun _ _ f => f))
      have HK25 := Lib.hid (HK23.out.trans hk5 (fun _ _ f => f))
      have HMW := Lib.hid (fun w4 (hk : Kept (fun _ => False) w5 w4) => (show Elems w4 w4.heap.size sw 5 insC (List.replicate j nowLn ++ c.map (goA j)) from (hMw.elems.kept hk (Nat.le_refl _) (fun _ _ f => f)).more hk.size))
      have HMY := Lib.hid (fun w4 (hk : Kept (fun _ => False) w5 w4) => (show Elems w4 w4.heap.size sy 2 labC (moveA j l) from (hMy.elems.kept hk (Nat.le_refl _) (fun _ _ f => f)).more hk.size))
      rw [hL1, hL2]
      clear hk5 hT5 hMw hMy hL1 hL2
      go_wp2_with fail
      go_loopw [15] (fun i wr => ∃ i' : Nat, i = .int .i64 i' ∧ i' ≤ m ∧ ∃ dn, wr = w5.drewN dn) (fun i _ => m - (intOf i).toNat)
      case atStart => exact ⟨0, rfl, by omega, 0, rfl⟩
      case round =>
        obtain ⟨i, rfl, hi, dn, rfl⟩ := hrel
        by_cases him : i < m
        case pos =>
          obtain ⟨⟨nm, p⟩, hx⟩ : ∃ x, l[i]? = some x := ⟨_, List.getElem?_eq_getElem (by rw [HM.out]; exact him)⟩
          have hy := moved_labs (n := j) hx
          have hp : p ≤ d := by rw [← HD.out]; exact HLI.out _ (List.mem_of_getElem? hx)
          obtain ⟨ga, oa, rfl, _, hxc⟩ := (HMU.out w5 HK25.out).2 i _ hx
          obtain ⟨gb, ob, rfl, _, hyc⟩ := (HMY.out w5 (Kept.refl _ _)).2 i _ hy
          have x0 : w5.cell? ⟨ga, oa + i * 2, none⟩ = some (.string (strS nm)) := hxc 0 _ rfl
          have x1 : w5.cell? ⟨ga, oa + i * 2 + 1, none⟩ = some (.int .i64 p) := hxc 1 _ rfl
          have y0 : w5.cell? ⟨gb, ob + i * 2, none⟩ = some (.string (strS nm)) := hyc 0 _ rfl
          have y1 : w5.cell? ⟨gb, ob + i * 2 + 1, none⟩ = some (.int .i64 ((p : Int) + (j : Int))) := hyc 1 _ rfl
          have hst : ((strS nm).toList == (strS nm).toList) = true := by rw [str_eq2]; simp
          clear hxc hyc hx hy
          go_wp2_with fail
          go_region
          all_goals go_wp2_with fail
          all_goals go_roundw
          case rel => exact ⟨i + 1, by go_num, by omega, dn + 1, rfl⟩
          case measure => simp [intOf]; omega
        obtain rfl : i = m := by omega
        have HK5d : Hid (Kept (fun _ => False) w5 (w5.drewN dn)) := Lib.hid ((Kept.refl _ w5).drewN dn)
        obtain ⟨w6, hw6⟩ : ∃ w6, w5.drewN dn = w6 := ⟨_, rfl⟩
        rw [hw6] at HK5d
        rw [hw6]
        clear him
        go_wp2_with fail
        go_loopw [16] (fun i wr => ∃ i' : Nat, i = .int .i64 i' ∧ i' ≤ d ∧ Kept (fun _ => False) w5 wr) (fun i _ => d - (intOf i).toNat)
        case atStart => exact ⟨0, rfl, by omega, HK5d.out⟩
        case round =>
          obtain ⟨q, rfl, hq, hkw⟩ := hrel
          have HKW := Lib.hid hkw
          clear hkw
          by_cases hqd : q < d
          case neg =>
            obtain rfl : q = d := by omega
            clear hqd
            have HF := Lib.hid (HFIN.out _ (HK5.out.trans HKW.out (fun _ _ f => f)))
            go_wp2_with fail
            go_ret
            exact ⟨by simp, HF.out⟩
          obtain ⟨x, hx⟩ : ∃ x, c[q]? = some x := ⟨_, List.getElem?_eq_getElem (by rw [HD.out]; exact hqd)⟩
          have hy := moved_code (n := j) hx
          obtain ⟨hg1, hg2⟩ := HGO.out x (List.mem_of_getElem? hx)
          obtain ⟨ga, oa, rfl, hga, hxc⟩ := (HMV.out wr (HK25.out.trans HKW.out (fun _ _ f => f))).2 q _ hx
          obtain ⟨gb, ob, rfl, hgb, hyc⟩ := (HMW.out wr HKW.out).2 (j + q) _ hy
          obtain ⟨lab, o, xa, xb, xc, xn, tg⟩ := x
          obtain ⟨yn, hyn, hgoes⟩ : ∃ yn : Int, insC (goA j ⟨lab, o, xa, xb, xc, xn, tg⟩) = [.int .i64 o, .int .i64 xa, .int .i64 xb, .int .i64 xc, .int .i64 yn] ∧ ((8 ≤ o ∧ o ≤ 12 ∧ yn = xn + j ∧ 0 ≤ xn ∧ xn ≤ 1024) ∨ (¬ (8 ≤ o ∧ o ≤ 12) ∧ yn = xn)) := by
            by_cases ht : tg = []
            · refine ⟨xn, by unfold goA; rw [if_neg (by simpa using ht)]; rfl, .inr ⟨fun g => ?_, rfl⟩⟩
              exact absurd ht (hg1.2 g)
            · obtain ⟨b1, b2⟩ := hg1.1 ht
              obtain ⟨b3, b4⟩ := hg2 ht
              have b5 : c.length = d := HD.out
              refine ⟨xn + j, by unfold goA; rw [if_pos (by simpa using ht)]; rfl, .inl ⟨b1, b2, rfl, b3, by have b6 : xn ≤ (c.length : Int) := b4; omega⟩⟩
          rw [hyn] at hyc
          have x0 : wr.cell? ⟨ga, oa + q * 5, none⟩ = some (.int .i64 o) := hxc 0 _ rfl
          have x1 : wr.cell? ⟨ga, oa + q * 5 + 1, none⟩ = some (.int .i64 xa) := hxc 1 _ rfl
          have x2 : wr.cell? ⟨ga, oa + q * 5 + 2, none⟩ = some (.int .i64 xb) := hxc 2 _ rfl
          have x3 : wr.cell? ⟨ga, oa + q * 5 + 3, none⟩ = some (.int .i64 xc) := hxc 3 _ rfl
          have x4 : wr.cell? ⟨ga, oa + q * 5 + 4, none⟩ = some (.int .i64 xn) := hxc 4 _ rfl
          obtain ⟨W1, hW1⟩ : ∃ W1, wr.alloc (.cells #[.int .i64 o, .int .i64 xa, .int .i64 xb, .int .i64 xc, .int .i64 xn] 43) = W1 := ⟨_, rfl⟩
          have hk1 : Kept (fun _ => False) wr W1 := by rw [← hW1]; exact (Kept.refl _ wr).alloc _
          have hb1 : W1.heap[wr.heap.size]? = some (.cells #[.int .i64 o, .int .i64 xa, .int .i64 xb, .int .i64 xc, .int .i64 xn] 43 (0, 0)) := by rw [← hW1]; exact heap_new1 wr _
          have hcy : ∀ (k : Nat) v, [Value.int .i64 o, .int .i64 xa, .int .i64 xb, .int .i64 xc, .int .i64 yn][k]? = some v → W1.cell? ⟨gb, ob + (j + q) * 5 + k, none⟩ = some v := fun k v hv => (hk1.cell (p := ⟨gb, ob + (j + q) * 5 + k, none⟩) hgb (fun f => f)).trans (hyc k v hv)
          have y0 : W1.cell? ⟨gb, ob + (j + q) * 5, none⟩ = some (.int .i64 o) := hcy 0 _ rfl
          have y1 : W1.cell? ⟨gb, ob + (j + q) * 5 + 1, none⟩ = some (.int .i64 xa) := hcy 1 _ rfl
          have y2 : W1.cell? ⟨gb, ob + (j + q) * 5 + 2, none⟩ = some (.int .i64 xb) := hcy 2 _ rfl
          have y3 : W1.cell? ⟨gb, ob + (j + q) * 5 + 3, none⟩ = some (.int .i64 xc) := hcy 3 _ rfl
          have y4 : W1.cell? ⟨gb, ob + (j + q) * 5 + 4, none⟩ = some (.int .i64 yn) := hcy 4 _ rfl
          obtain ⟨W2, hW2⟩ : ∃ W2, W1.alloc (.cells #[.int .i64 o, .int .i64 xa, .int .i64 xb, .int .i64 xc, .int .i64 yn] 43) = W2 := ⟨_, rfl⟩
          have hk2 : Kept (fun _ => False) wr W2 := by rw [← hW2]; exact hk1.alloc _
          have hb2 : W2.heap[wr.heap.size]? = some (.cells #[.int .i64 o, .int .i64 xa, .int .i64 xb, .int .i64 xc, .int .i64 xn] 43 (0, 0)) := by
            rw [← hW2]; exact (((Kept.refl (fun _ => False) W1).alloc _).block _ (Array.getElem?_eq_some_iff.1 hb1).1 (fun f => f)).trans hb1
          have hb3 : W2.heap[W1.heap.size]? = some (.cells #[.int .i64 o, .int .i64 xa, .int .i64 xb, .int .i64 xc, .int .i64 yn] 43 (0, 0)) := by rw [← hW2]; exact heap_new1 W1 _
          have HB2 := Lib.hid hb2
          have HB3 := Lib.hid hb3
          have HK2w := Lib.hid hk2
          have hlt : wr.heap.size < W1.heap.size := (Array.getElem?_eq_some_iff.1 hb1).1
          have z0 : W2.cell? ⟨wr.heap.size, 0, none⟩ = some (.int .i64 o) := by rw [cell_at W2 _ 0 _ _ hb2]; rfl
          have z1 : W2.cell? ⟨wr.heap.size, 1, none⟩ = some (.int .i64 xa) := by rw [cell_at W2 _ 1 _ _ hb2]; rfl
          have z2 : W2.cell? ⟨wr.heap.size, 2, none⟩ = some (.int .i64 xb) := by rw [cell_at W2 _ 2 _ _ hb2]; rfl
          have z3 : W2.cell? ⟨wr.heap.size, 3, none⟩ = some (.int .i64 xc) := by rw [cell_at W2 _ 3 _ _ hb2]; rfl
          have z4 : W2.cell? ⟨wr.heap.size, 4, none⟩ = some (.int .i64 xn) := by rw [cell_at W2 _ 4 _ _ hb2]; rfl
          have f4 : W2.frozen? ⟨wr.heap.size, 4, none⟩ = false := frozen_at W2 _ 4 _ _ hb2
          have v0 : W2.cell? ⟨W1.heap.size, 0, none⟩ = some (.int .i64 o) := by rw [cell_at W2 _ 0 _ _ hb3]; rfl
          have v1 : W2.cell? ⟨W1.heap.size, 1, none⟩ = some (.int .i64 xa) := by rw [cell_at W2 _ 1 _ _ hb3]; rfl
          have v2 : W2.cell? ⟨W1.heap.size, 2, none⟩ = some (.int .i64 xb) := by rw [cell_at W2 _ 2 _ _ hb3]; rfl
          have v3 : W2.cell? ⟨W1.heap.size, 3, none⟩ = some (.int .i64 xc) := by rw [cell_at W2 _ 3 _ _ hb3]; rfl
          have v4 : W2.cell? ⟨W1.heap.size, 4, none⟩ = some (.int .i64 yn) := by rw [cell_at W2 _ 4 _ _ hb3]; rfl
          have hne : ∀ w', (binOp .neq 43 (insV o xa xb xc yn) (insV o xa xb xc yn)).run Tryz.prog w' = .ok (.bool false) w' := fun w' => by
            have := neq_ins ⟨[], o, xa, xb, xc, yn, []⟩ ⟨[], o, xa, xb, xc, yn, []⟩ w'
            simpa using this
          have g2 := guard_ins
          have HKE := Lib.hid (HKW.out.trans hk2 (fun _ _ f => f))
          clear hxc hyc hx hy hyn hg1 hg2 hk1 hb1 hb2 hb3 hcy hk2 hga hgb
          rcases hgoes with ⟨o1, o2, rfl, n1, n2⟩ | ⟨o1, rfl⟩
          case inr =>
            have e8 : (o == 8) = false := by rw [beq_eq_false_iff_ne]; omega
            have e9 : (o == 9) = false := by rw [beq_eq_false_iff_ne]; omega
            have e10 : (o == 10) = false := by rw [beq_eq_false_iff_ne]; omega
            have e11 : (o == 11) = false := by rw [beq_eq_false_iff_ne]; omega
            have e12 : (o == 12) = false := by rw [beq_eq_false_iff_ne]; omega
            clear o1
            go_wp2_with fail
            go_roundw
            case rel => exact ⟨q + 1, by go_num, by omega, HKE.out⟩
            case measure => simp [intOf]; omega
          case inl =>
            obtain ⟨W3, hW3⟩ : ∃ W3, W2.setCell ⟨wr.heap.size, 4, none⟩ (.int .i64 (xn + (j : Int))) = W3 := ⟨_, rfl⟩
            have s0 : W3.cell? ⟨wr.heap.size, 0, none⟩ = some (.int .i64 o) := by rw [← hW3]; exact (World.cell?_setCell_other _ _ _ _ (by simp)).trans z0
            have s1 : W3.cell? ⟨wr.heap.size, 1, none⟩ = some (.int .i64 xa) := by rw [← hW3]; exact (World.cell?_setCell_other _ _ _ _ (by simp)).trans z1
            have s2 : W3.cell? ⟨wr.heap.size, 2, none⟩ = some (.int .i64 xb) := by rw [← hW3]; exact (World.cell?_setCell_other _ _ _ _ (by simp)).trans z2
            have s3 : W3.cell? ⟨wr.heap.size, 3, none⟩ = some (.int .i64 xc) := by rw [← hW3]; exact (World.cell?_setCell_other _ _ _ _ (by simp)).trans z3
            have s4 : W3.cell? ⟨wr.heap.size, 4, none⟩ = some (.int .i64 (xn + (j : Int))) := by rw [← hW3]; exact World.cell?_setCell_same _ _ _ z4
            have t0 : W3.cell? ⟨W1.heap.size, 0, none⟩ = some (.int .i64 o) := by rw [← hW3]; exact (World.cell?_setCell_other _ _ _ _ (by simp)).trans v0
            have t1 : W3.cell? ⟨W1.heap.size, 1, none⟩ = some (.int .i64 xa) := by rw [← hW3]; exact (World.cell?_setCell_other _ _ _ _ (by simp)).trans v1
            have t2 : W3.cell? ⟨W1.heap.size, 2, none⟩ = some (.int .i64 xb) := by rw [← hW3]; exact (World.cell?_setCell_other _ _ _ _ (by simp)).trans v2
            have t3 : W3.cell? ⟨W1.heap.size, 3, none⟩ = some (.int .i64 xc) := by rw [← hW3]; exact (World.cell?_setCell_other _ _ _ _ (by simp)).trans v3
            have t4 : W3.cell? ⟨W1.heap.size, 4, none⟩ = some (.int .i64 (xn + (j : Int))) := by rw [← hW3]; exact (World.cell?_setCell_other _ _ _ _ (by simp)).trans v4
            have HK3E : Hid (Kept (fun _ => False) w5 W3) := Lib.hid (by rw [← hW3]; exact HKE.out.setCell _ _ (fun hl => by have hl' : wr.heap.size < w5.heap.size := hl; have := HKW.out.size; omega))
            clear hlt
            have hoo : o = 8 ∨ o = 9 ∨ o = 10 ∨ o = 11 ∨ o = 12 := by omega
            clear o1 o2
            rcases hoo with rfl | rfl | rfl | rfl | rfl
            all_goals go_wp2_with fail
            all_goals go_roundw
            all_goals first | exact ⟨q + 1, by go_num, by omega, HK3E.out⟩ | (simp [intOf]; omega)

end asmMoved
end Go.Proofs.YtlhnbihpefgcbaaGreatDoor
