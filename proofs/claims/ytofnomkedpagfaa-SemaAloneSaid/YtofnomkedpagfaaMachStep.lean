/-
  What the document's Step of layer 9 comes to, where it doesn't trap.
  Conditions: the world lies in memory; 1 to 16 frames; the code, of instructions alone, lies in a block that isn't the world's; the thread is there.
-/
import Derived.Test.YtofnomkedpagfaaMachMove
import Derived.Test.YtofnomkedpagfaaMach20
import Derived.LoopTactic
import Derived.Deep.RegionWith
import Derived.Deep.DeepCutAuto
import Derived.Deep.RegionLaw
namespace Go.Proofs.Ytofnomkedpagfaa
open Go.RowKit
set_option linter.unusedVariables false
set_option linter.unusedSimpArgs false

section
variable {P : Wp} {og0 oc0 : Nat} {w : World} {self : Nat}
/-- What holds of the code throughout. -/
structure Through (so : Option Addr) (code : List Ix) (P : Wp) (og0 : Nat) (w : World) : Prop where
  cd : CodeR so code P og0 w
  all : ∀ x : Ix, x ∈ code → mayL x.op x.a x.b x.c x.n = true

set_option maxHeartbeats 4000000 in
set_option maxRecDepth 100000 in
theorem step_any (so : Option Addr) (cc : Nat) (code : List Ix) (sl : Option Addr) (cap : Nat) (s : Ms) (r : Int × Int × Ms) (T : Through so code P og0 w) (hrw : RW P og0 oc0 s.zs s.ps w) (hE : Elems w w.heap.size sl 17 Fr.cells (s.bs ++ [s.f])) (hb : s.bs.length ≤ 15) (hs : self < s.ps.length) (hns : s.ns = [])
    (hr : runR code P.most P.now self 200 false s = some r) :
    Calls Try.prog 25 #[.pointer (some ⟨P.wb, 0, none⟩), .slice so code.length cc, .int .i64 self, .slice sl (s.bs.length + 1) cap] w (StepTo P og0 w r) := by
  have HC := Lib.hid (copied_any sl cap (s.bs ++ [s.f]) (s.bs.length + 1) (by simp) w (by omega) (by omega) hE)
  have HT := Lib.hid T
  have HR := Lib.hid hr
  have HS0 : Hid (∀ g' c' w1, w.heap.size ≤ g' → Row w1 g' c' 72 17 Fr.cells (s.bs ++ [s.f]) → Kept (fun _ => False) w w1 → StIn w P og0 og0 oc0 g' c' (.slice none 0 0) s w1) := Lib.hid (fun g' c' w1 hg hrow hk =>
    ⟨hrw.kept0 hk, hrow, by rw [hns]; exact World.ownsRow_nil _ _ _ _, hg, .inl rfl, fun e => by have := hrw.lts.2.1; omega, fun g e => by simp [Value.ownBlock] at e, hk.mono (fun _ _ f => f.elim), fun q hq => hrw.foot_lt hq⟩)
  have HB := Lib.hid hb
  have HSE := Lib.hid hs
  have HNS : Hid (s.ns.length ≤ 0) := Lib.hid (by rw [hns]; exact Nat.le_refl _)
  clear T hr hrw hE hb hs hns
  obtain ⟨cl, hcl⟩ : ∃ cl, code.length = cl := ⟨_, rfl⟩
  rw [hcl]
  have HCL := Lib.hid hcl; clear hcl
  obtain ⟨bl, hbl⟩ : ∃ bl, s.bs.length + 1 = bl := ⟨_, rfl⟩
  rw [hbl] at HC ⊢
  have HBL := Lib.hid hbl; clear hbl
  obtain ⟨i2, hi2, hz2, hn2, hb2⟩ := info_parts info_nt
  have HI2 := Lib.hid hi2; clear hi2
  have HZ2 := Lib.hid hz2; clear hz2
  have HN2 := Lib.hid hn2; clear hn2
  have HB2 := Lib.hid hb2; clear hb2
  obtain ⟨i17, hi7, hz7, hn7, hb7⟩ := info_parts info_fr
  have HI7 := Lib.hid hi7; clear hi7
  have HZ7 := Lib.hid hz7; clear hz7
  have HN7 := Lib.hid hn7; clear hn7
  have HB7 := Lib.hid hb7; clear hb7
  go_enter Try.func25, Try.ntmps25
  go_wp2_with fail
  refine HC.out.mono ?_
  rintro e w1 ⟨g', c', rfl, hg, hrow, hk⟩
  have HS1 := Lib.hid (HS0.out g' c' w1 hg hrow hk)
  clear hg hrow hk HC HS0
  go_wp2_with fail
  go_loopw [3, 12, 13] (fun l nv i wr => ∃ (d : Nat) (fg fc og oc : Nat) (u : Ms), l = .slice (some ⟨fg, 0, none⟩) (u.bs.length + 1) fc ∧ i = .int .i64 d ∧ d ≤ 200 ∧ StIn w P og0 og oc fg fc nv u wr ∧ u.bs.length ≤ 15 ∧ self < u.ps.length ∧ u.ns.length ≤ d ∧ runR code P.most P.now self (200 - d) (decide (0 < d)) u = some r) (fun _ _ i _ => 200 - (intOf i).toNat)
  case atStart => exact ⟨0, g', c', og0, oc0, s, by rw [HBL.out], rfl, by omega, HS1.out, HB.out, HSE.out, HNS.out, HR.out⟩
  case round =>
    obtain ⟨d, fg, fc, og, oc, u, rfl, rfl, hd, hst, hbl, hsl, hnl, hrun⟩ := hrel
    have HST := Lib.hid hst
    have HRUN := Lib.hid hrun
    have HBLN := Lib.hid (And.intro hbl (And.intro hsl hnl))
    clear hst hrun hbl hsl hnl
    by_cases hd2 : d = 200
    · exfalso
      subst hd2
      have := HRUN.out
      cases this
    obtain ⟨m, hm⟩ : ∃ m, 200 - d = m + 1 := ⟨199 - d, by omega⟩
    rw [hm] at HRUN
    have hd3 : (d : Int) < 200 := by omega
    have HDM : Hid (m = 199 - d ∧ d < 200) := Lib.hid ⟨by omega, by omega⟩
    clear hd hd2 hm
    rcases hx : nextR code u.f.pc with _ | x
    · exfalso
      have := HRUN.out
      rw [runR_none hx] at this
      cases this
    have HX := Lib.hid hx
    obtain ⟨p, hpc, hcx⟩ := nextR_some hx
    obtain ⟨gc, coff, hso, hgc, hgf, hrange⟩ := HT.out.cd.2 p x hcx
    have hmay := HT.out.all x (List.mem_of_getElem? hcx)
    subst hso
    have HRX : Hid (wr.rangeAt gc (coff + p * 5) x.cells) := Lib.hid (fun j v hj => (HST.out.k.cell (p := ⟨gc, coff + p * 5 + j, none⟩) hgc hgf).trans (hrange j v hj))
    have pc0 := HST.out.pcAt
    rw [hpc] at pc0
    have HPC := Lib.hid hpc
    have pl : (p : Int) < (cl : Int) := by have := at_lt hcx; have := HCL.out; omega
    have hlt : fg < wr.heap.size := HST.out.fr.lt
    have HMAY := Lib.hid hmay
    have HM : Hid (∀ w', Calls Try.prog 35 #[x.agg] w' (BoolTo w' true)) := Lib.hid (fun w' => by have := refMay_any x.op x.a x.b x.c x.n w'; rw [hmay] at this; exact this)
    obtain ⟨k, hk⟩ : ∃ k, u.bs.length = k := ⟨_, rfl⟩
    have k15 : (k : Int) ≤ 15 := by have := HBLN.out.1; omega
    have HK := Lib.hid hk
    rw [hk] at pc0 ⊢
    clear hx hpc hcx hgc hgf hrange hmay hk
    obtain ⟨op, a, b, c, n⟩ := x
    obtain ⟨a, rfl⟩ : ∃ a' : Nat, a = a' := ⟨a.toNat, by have := (may_bounds HMAY.out).2.1; dsimp only at this; omega⟩
    have a16 : ((a : Nat) : Int) < 16 := by have := (may_bounds HMAY.out).2.1; dsimp only at this; omega
    have cl6 : (cl : Int) ≤ 1000000 := by have := HT.out.cd.1; have := HCL.out; omega
    go_wp2_with (refine wpList_loadIx rfl rfl rfl HRX.out ?_)
    refine (HM.out _).mono ?_
    rintro e w2 ⟨rfl, hk2⟩
    have hxb : w2.heap[wr.heap.size]? = some (.cells #[.int .i64 op, .int .i64 a, .int .i64 b, .int .i64 c, .int .i64 n] 87 (0, 0)) := hk2.at0 (heap_new1 wr _)
    have hs2 := HST.out.kept0 (((Kept.refl _ wr).alloc _).tr0 hk2)
    obtain ⟨z, hz⟩ : ∃ z, wr.heap.size = z := ⟨_, rfl⟩
    rw [hz] at hxb ⊢
    have hzf : ¬ P.foot og z := fun hq => by have := HST.out.rw.foot_lt hq; omega
    have hzn : ∀ g, u12.ownBlock = some g → g ≠ z := fun g hg => by have := (World.ownsRow.lt HST.out.nt g hg).2; omega
    have HST := Lib.hid hs2
    have HZ : Hid (z < w2.heap.size ∧ fg ≠ z ∧ ¬ P.foot og z ∧ (∀ g, u12.ownBlock = some g → g ≠ z)) := Lib.hid ⟨(Array.getElem?_eq_some_iff.1 hxb).1, by omega, hzf, hzn⟩
    have HXB := Lib.hid hxb
    obtain ⟨b0, b1, b2, b3, b4, _⟩ := cells5 HXB.out
    clear hxb hs2 hk2 hz pc0 hlt HM hzf hzn
    go_upto_region 14 with fail
    go_cut [67] (fun cnd wx => cnd = .bool (decide (0 < d) && isAccess op) ∧ wx = w2)
    case first =>
      cases q0 : (decide (0 < d)) with
      | false =>
        have e0 : (decide (0 < d) && isAccess op) = false := by rw [q0]; rfl
        have q9 : ¬ 0 < d := of_decide_eq_false q0
        clear q0
        go_wp2_with fail
        go_meet
        exact ⟨by rw [e0], rfl⟩
      | true =>
        have q9 : 0 < d := of_decide_eq_true q0
        cases q1 : (decide (5 ≤ op)) with
        | false =>
          have e0 : (decide (0 < d) && isAccess op) = false := by unfold isAccess; rw [q0, q1]; rfl
          have q8 : ¬ 5 ≤ op := of_decide_eq_false q1
          clear q0 q1
          go_wp2_with fail
          go_meet
          exact ⟨by rw [e0], rfl⟩
        | true =>
          have e0 : (decide (0 < d) && isAccess op) = decide (op ≤ 7) := by unfold isAccess; rw [q0, q1]; rfl
          have q8 : 5 ≤ op := of_decide_eq_true q1
          clear q0 q1
          go_wp2_with fail
          go_meet
          exact ⟨by rw [e0], rfl⟩
    case rest =>
      obtain ⟨rfl, hwc⟩ := hcut
      subst hwc
      cases hacc : (decide (0 < d) && isAccess op) with
      | true =>
        have HF : Hid (∀ w3, Kept (fun _ => False) wc w3 → StepTo P og0 w r (.returned (.tuple #[.slice (some ⟨fg, 0, none⟩) (k + 1) fc, u12, .int .i64 0, .int .i64 0])) w3) := Lib.hid (fun w3 hk3 => by
          rw [Bool.and_eq_true] at hacc
          have hr := HRUN.out
          rw [hacc.1, runR_stop HX.out hacc.2] at hr
          obtain rfl := Option.some.inj hr
          exact ⟨fg, fc, u12, og, oc, by rw [HK.out], HST.out.kept0 hk3⟩)
        clear hacc b0 b1 b2 b3 b4
        go_wp2_with fail
        exact bodyPost_ret (v := .tuple #[.slice (some ⟨fg, 0, none⟩) (k + 1) fc, u12, .int .i64 0, .int .i64 0]) (by simp [results, Try.results25, go_sem]) rfl (HF.out _ (Kept.refl _ _))
      | false =>
        by_cases h12 : op = 12
        · subst h12
          have hpw : (p : Int) + 1 ≤ 1000001 := by omega
          by_cases hk15 : k = 15
          · exfalso
            have hr := HRUN.out
            rw [runR_trap HX.out hacc (by show (doM P.most P.now self ⟨12, a, b, c, n⟩ u).1 = 3; unfold doM; rw [if_neg (show ¬ (8 ≤ (12 : Int) ∧ (12 : Int) ≤ 11) by omega), if_pos rfl]; unfold enterM; rw [if_pos (by rw [HK.out]; omega)])] at hr
            cases hr
          have hdo : doM P.most P.now self ⟨12, a, b, c, n⟩ u = (0, { u with bs := u.bs ++ [u.f.go (u.f.pc + 1)], f := ⟨n, u.f.r⟩ }) := by
            unfold doM
            rw [if_neg (show ¬ (8 ≤ (12 : Int) ∧ (12 : Int) ≤ 11) by omega), if_pos rfl]
            unfold enterM
            rw [if_neg (by rw [HK.out]; omega)]
          have hod : oddR P.most ⟨12, a, b, c, n⟩ u.zs.length (u.thr self) = false := rfl
          have HRN : Hid (runR code P.most P.now self m true { u with bs := u.bs ++ [u.f.go (u.f.pc + 1)], f := ⟨n, u.f.r⟩ } = some r) := Lib.hid (by
            have hr := HRUN.out
            rw [runR_next HX.out hacc hod (by rw [hdo]; exact (show ¬ (0 : Int) = 3 by decide)) (show ¬ (12 : Int) = 14 by decide) (show ¬ (12 : Int) = 22 by decide), hdo] at hr
            exact hr)
          have hk16 : ¬ (16 : Int) ≤ (k : Int) + 1 := by omega
          have p0 := HST.out.pcAt
          rw [HK.out, HPC.out] at p0
          have p1 := HST.out.fr.free (k * 17)
          have HK14 : Hid (k ≤ 14) := Lib.hid (by omega)
          clear hdo hod hacc hk15
          go_upto_region 20 with fail
          generalize hW5 : World.setCell wc _ _ = W5
          have hs5 : StIn w P og0 og oc fg fc u12 { u with f := u.f.go ((p : Int) + 1) } W5 := by
            have := HST.out.goTo ((p : Int) + 1)
            rw [HK.out, hW5] at this
            exact this
          have HS5 := Lib.hid hs5
          have hk5 : Kept (fun q => q = fg) wc W5 := by rw [← hW5]; exact (Kept.refl _ wc).setCell _ _ (fun _ => rfl)
          have HXW5 := Lib.hid (hk5.at_ HXB.out (fun e => HZ.out.2.1 e.symm))
          clear hs5 hk5 hW5 p0 p1 b0 b1 b2 b3 b4
          refine wp_mono (reg20 HS5 HK.out HK14.out HXW5 (Lib.hid ?_)) then_any
          intro v3 v84 v85 v86 v87 v88 v89 v90 v91 v92 v93 v94 fg' fc' w3 hv3 hst'
          subst hv3
          have HA3 := Lib.hid hst'
          clear hst' HXW5
          go_wp2_with fail
          go_roundw
          case rel => exact ⟨d + 1, fg', fc', og, oc, _, by rw [List.length_append, HK.out]; rfl, by go_num, by have := HDM.out.2; omega, HA3.out, by show (u.bs ++ [_]).length ≤ 15; rw [List.length_append, HK.out]; have := HK14.out; simp; omega, HBLN.out.2.1, by have := HBLN.out.2.2; show u.ns.length ≤ d + 1; omega, by
            have e1 : 200 - (d + 1) = m := by have := HDM.out; omega
            have e2 : decide (0 < d + 1) = true := decide_eq_true (by omega)
            rw [e1, e2, ← HPC.out]
            exact HRN.out⟩
          case measure => have := HDM.out; simp [intOf]; omega
        by_cases h13 : op = 13
        · subst h13
          rcases List.eq_nil_or_concat u.bs with hnil | ⟨bs', g, hcat⟩
          · exfalso
            have hr := HRUN.out
            rw [runR_trap HX.out hacc (by
              show (doM P.most P.now self ⟨13, a, b, c, n⟩ u).1 = 3
              unfold doM
              rw [if_neg (show ¬ (8 ≤ (13 : Int) ∧ (13 : Int) ≤ 11) by omega), if_neg (show ¬ (13 : Int) = 12 by decide), if_pos rfl]
              unfold leaveM
              rw [hnil]
              rfl)] at hr
            cases hr
          have hcat' : u.bs = bs' ++ [g] := by rw [hcat, List.concat_eq_append]
          have hdo : doM P.most P.now self ⟨13, a, b, c, n⟩ u = (0, { u with bs := bs', f := (g.put 0 (u.f.r 0)).put 1 (u.f.r 1) }) := by
            unfold doM
            rw [if_neg (show ¬ (8 ≤ (13 : Int) ∧ (13 : Int) ≤ 11) by omega), if_neg (show ¬ (13 : Int) = 12 by decide), if_pos rfl]
            unfold leaveM
            rw [hcat', List.getLast?_concat, List.dropLast_concat]
          have hod : oddR P.most ⟨13, a, b, c, n⟩ u.zs.length (u.thr self) = false := rfl
          have HRN : Hid (runR code P.most P.now self m true { u with bs := bs', f := (g.put 0 (u.f.r 0)).put 1 (u.f.r 1) } = some r) := Lib.hid (by
            have hr := HRUN.out
            rw [runR_next HX.out hacc hod (by rw [hdo]; exact (show ¬ (0 : Int) = 3 by decide)) (show ¬ (13 : Int) = 14 by decide) (show ¬ (13 : Int) = 22 by decide), hdo] at hr
            exact hr)
          have hkl : k = bs'.length + 1 := by have := HK.out; rw [hcat', List.length_append] at this; simpa using this.symm
          obtain ⟨l, hl⟩ : ∃ l, bs'.length = l := ⟨_, rfl⟩
          rw [hl] at hkl
          subst hkl
          have HL := Lib.hid hl
          have HCAT := Lib.hid hcat'
          have hl15 : (l : Int) ≤ 14 := by omega
          have hl0 : ((l : Int) + 1 == 0) = false := by rw [beq_eq_false_iff_ne]; omega
          have y0 : wc.cell? ⟨fg, (l + 1) * 17 + 1, none⟩ = some (.int .i64 (u.f.r 0)) := by have := HST.out.regAt (j := 0) (by decide); rwa [HK.out] at this
          have x0 : wc.cell? ⟨fg, l * 17 + 1, none⟩ = some (.int .i64 (g.r 0)) := by have := HST.out.ahead0 hcat' (j := 0) (by decide); rwa [hl] at this
          have f0 := HST.out.fr.free (l * 17 + 1)
          have kk1 : (l : Int) < (l : Int) + 1 + 1 := by omega
          have kk2 : (l : Int) + 1 < (l : Int) + 1 + 1 := by omega
          clear hcat hcat' hdo hod hacc hl
          have hcap : l + 1 + 1 ≤ fc := by
            have h0 := HST.out.fr
            rcases h0.2 with ⟨h1, _⟩ | ⟨g1, cap1, cur1, h1, _, _, h2, _⟩
            · cases h1
            · simp only [Value.slice.injEq, Option.some.injEq, Addr.mk.injEq, and_true, true_and] at h1
              obtain ⟨rfl, h3⟩ := h1
              rw [List.length_append, HK.out] at h2
              rw [← h3] at h2
              simpa using h2
          have hcap1 : (l : Int) + 1 ≤ (fc : Int) := by omega
          go_upto_region 24 with fail
          go_region
          generalize hW5 : (World.setCell wc _ _).drew = W5
          have hs5 : StIn w P og0 og oc fg fc u12 { u with bs := bs' ++ [g.put 0 (u.f.r 0)] } W5 := by
            have := HST.out.ahead HCAT.out (j := 0) (by decide) (u.f.r 0)
            rw [HL.out] at this
            rw [← hW5]
            exact this.kept0 (Kept.refl _ _).drew
          have HS5 := Lib.hid hs5
          clear hs5 hW5 y0 x0 f0 b0 b1 b2 b3 b4
          have hlen5 : (bs' ++ [g.put 0 (u.f.r 0)]).length = l + 1 := by rw [List.length_append, HL.out]; rfl
          have y1 : W5.cell? ⟨fg, (l + 1) * 17 + 2, none⟩ = some (.int .i64 (u.f.r 1)) := by have := HS5.out.regAt (j := 1) (by decide); dsimp only at this; rwa [hlen5] at this
          have x1 : W5.cell? ⟨fg, l * 17 + 2, none⟩ = some (.int .i64 ((g.put 0 (u.f.r 0)).r 1)) := by have := HS5.out.ahead0 rfl (j := 1) (by decide); rwa [HL.out] at this
          have f1 := HS5.out.fr.free (l * 17 + 2)
          go_wp2_with fail
          go_region
          generalize hW6 : (World.setCell W5 _ _).drew = W6
          have hs6 : StIn w P og0 og oc fg fc u12 { u with bs := bs', f := (g.put 0 (u.f.r 0)).put 1 (u.f.r 1) } W6 := by
            have := HS5.out.ahead rfl (j := 1) (by decide) (u.f.r 1)
            dsimp only at this
            rw [HL.out] at this
            rw [← hW6]
            exact (this.kept0 (Kept.refl _ _).drew).pop rfl
          have HS6 := Lib.hid hs6
          clear hs6 hW6 y1 x1 f1
          go_wp2_with fail
          go_roundw
          case rel => exact ⟨d + 1, fg, fc, og, oc, _, by rw [show ({ u with bs := bs', f := (g.put 0 (u.f.r 0)).put 1 (u.f.r 1) } : Ms).bs.length = l from HL.out], by go_num, by have := HDM.out.2; omega, HS6.out, by show bs'.length ≤ 15; rw [HL.out]; omega, HBLN.out.2.1, by have := HBLN.out.2.2; show u.ns.length ≤ d + 1; omega, by
            have e1 : 200 - (d + 1) = m := by have := HDM.out; omega
            have e2 : decide (0 < d + 1) = true := decide_eq_true (by omega)
            rw [e1, e2]
            exact HRN.out⟩
          case measure => have := HDM.out; simp [intOf]; omega
        have q12 : (op == 12) = false := beq_eq_false_iff_ne.2 h12
        have q13 : (op == 13) = false := beq_eq_false_iff_ne.2 h13
        by_cases hodd : oddR P.most ⟨op, a, b, c, n⟩ u.zs.length (u.thr self) = true
        · exfalso
          have := HRUN.out
          rw [runR_odd HX.out hacc hodd] at this
          cases this
        have hodd' := eq_false_of_ne_true hodd
        by_cases htr : (doM P.most P.now self ⟨op, a, b, c, n⟩ u).1 = 3
        · exfalso
          have := HRUN.out
          rw [runR_trap HX.out hacc htr] at this
          cases this
        obtain ⟨v, hv⟩ : ∃ v, wc.heap.size = v := ⟨_, rfl⟩
        have HV := Lib.hid hv
        have HON : Hid (∀ W, Kept (fun _ => False) wc W → v < W.heap.size → Row W v 1 72 17 Fr.cells [u.f] → OneSaid P og v self W ⟨op, a, b, c, n⟩ u) := Lib.hid (fun W hk hvl hr =>
          one_any ⟨HST.out.rw.kept0 hk, hr, fun hq => by have := HST.out.rw.foot_lt hq; omega⟩ _ HMAY.out h12 h13 HBLN.out.2.1 hodd' htr)
        have HNX := Lib.hid (And.intro hodd' (And.intro htr hacc))
        clear h12 h13 hodd hodd' htr hacc
        have HRF := HST.out.range
        rw [HK.out] at HRF
        have HRF := Lib.hid HRF
        go_wp2_with (first
          | refine wpList_loadFr rfl rfl rfl HRF.out ?_
          | (refine wpList_storeFr (j := 0) rfl rfl rfl rfl (fresh_row wc HV.out) rfl ?_; intro W hRW hKW; have HW := Lib.hid (And.intro hRW (kept_fresh HV.out hKW)); clear hRW hKW; obtain ⟨c0, c1, c2, c3, c4, _⟩ := cells5 (HW.out.2.at0 HXB.out)))
        obtain ⟨hw, note, came, zs', ps', f', hcall, hsay⟩ := HON.out W HW.out.2 (HW.out.1.lt) HW.out.1
        refine hcall.mono ?_
        rintro e W2 ⟨rfl, og2, oc2, hone, hkk, ho2⟩
        have hvz : v ≠ z := by have := HZ.out.1; omega
        have hx2 := hkk.at_ (HW.out.2.at0 HXB.out) (fun e => e.elim HZ.out.2.2.1 (fun e => hvz e.symm))
        have hs2 := (HST.out.kept0 HW.out.2).turned hone.rw hkk ho2 ⟨by have := HST.out.fr.lt; omega, fun g hg => by have := (World.ownsRow.lt HST.out.nt g hg).2; omega⟩ (by have := HST.out.k.size; omega)
        have hz2 : ¬ P.foot og2 z := fun hq => by
          rcases ho2 with e | e
          · rw [e] at hq; exact HZ.out.2.2.1 hq
          · rcases hq with hq | hq | hq | hq
            · exact HZ.out.2.2.1 (.inl hq)
            · have := HZ.out.1; have := HW.out.2.size; omega
            · exact HZ.out.2.2.1 (.inr (.inr (.inl hq)))
            · exact HZ.out.2.2.1 (.inr (.inr (.inr hq)))
        have hvn : fg ≠ v ∧ ¬ P.foot og2 v ∧ (∀ g, u12.ownBlock = some g → g ≠ v) := ⟨by have := HST.out.fr.lt; omega, hone.far, fun g hg => by have := (World.ownsRow.lt HST.out.nt g hg).2; omega⟩
        have HSAY := Lib.hid hsay
        have HO2 := Lib.hid (And.intro hone (And.intro hx2 (And.intro hs2 (And.intro hz2 hvn))))
        have lv : v < W2.heap.size := hone.fr.lt
        have p0 := hone.pcAt
        have p1 := hone.free 0
        clear hkk ho2 hx2 hs2 hz2 hvn hvz hcall hone hsay c0 c1 c2 c3 c4 HON hv
        rcases HSAY.out.how with ⟨hop, rfl, hcm, h01⟩ | ⟨hop, rfl, rfl, h01⟩ | ⟨hop, hop2, rfl | rfl, rfl, h01⟩
        · -- park
          have hop' : op = 14 := hop
          clear hop
          subst hop'
          have hnt : note = noNt := HSAY.out.nt (show (14 : Int) ≠ 21 by decide)
          subst hnt
          have hc2 : (came == 2) = false := by rw [beq_eq_false_iff_ne, hcm]; omega
          have hdo : doM P.most P.now self ⟨14, a, b, c, n⟩ u = (came, ⟨zs', ps', u.bs, f'.go ((p : Int) + 1), u.ns⟩) := by
            have e1 := HSAY.out.st
            rw [HPC.out] at e1
            exact Prod.ext hcm.symm (e1.trans (by simp))
          have HF : Hid (∀ w3, StIn w P og0 og2 oc2 fg fc u12 ⟨zs', ps', u.bs, f'.go ((p : Int) + 1), u.ns⟩ w3 → StepTo P og0 w r (.returned (.tuple #[.slice (some ⟨fg, 0, none⟩) (k + 1) fc, u12, .int .i64 came, .int .i64 0])) w3) := Lib.hid (fun w3 h3 => by
            have hr := HRUN.out
            rw [runR_park HX.out HNX.out.2.2 HNX.out.1 HNX.out.2.1 rfl, hdo] at hr
            obtain rfl := Option.some.inj hr
            exact ⟨fg, fc, u12, og2, oc2, by rw [HK.out], h3⟩)
          clear hdo h01 hcm
          go_upto_region 33 with fail
          generalize hW4 : (World.setCell W2 _ _).alloc _ = W4
          have HA := Lib.hid (aft_go HO2.out.1 HO2.out.2.2.1 HO2.out.2.1 HO2.out.2.2.2.2 HZ.out.2.1 (by have := HZ.out.1; have := HV.out; omega) (by have := HST.out.k.size; have := HV.out; omega) rfl ((p : Int) + 1) hW4)
          clear hW4 p0 p1 lv
          obtain ⟨nb, hnb⟩ : ∃ nb, W2.heap.size = nb := ⟨_, rfl⟩
          rw [hnb] at HA ⊢
          clear hnb
          have HR4 := HA.out.range
          go_wp2_with (first
            | refine wpList_loadFr rfl rfl rfl HR4 ?_
            | (refine wpList_storeFr (j := k) rfl rfl rfl rfl HA.out.st.fr (by rw [← HK.out]; exact HA.out.st.f_at) ?_; intro W5 hr5 hk5; rw [← HK.out] at hr5; have HA := Lib.hid (aft_put HA.out hr5 hk5); clear hr5 hk5; obtain ⟨c0, c1, c2, c3, c4, _⟩ := cells5 HA.out.x; obtain ⟨d0, d1⟩ := cells2 HA.out.n; have e1 := HA.out.reg (j := a) (by omega)))
          exact bodyPost_ret (v := .tuple #[.slice (some ⟨fg, 0, none⟩) (k + 1) fc, u12, .int .i64 came, .int .i64 0]) (by simp [results, Try.results25, go_sem]) rfl (HF.out _ HA.out.st)
        · -- done
          have hop' : op = 22 := hop
          clear hop
          subst hop'
          have hnt : note = noNt := HSAY.out.nt (show (22 : Int) ≠ 21 by decide)
          subst hnt
          have hdo : doM P.most P.now self ⟨22, a, b, c, n⟩ u = (2, ⟨zs', ps', u.bs, f'.go ((p : Int) + 1), u.ns⟩) := by
            have e1 := HSAY.out.st
            rw [HPC.out] at e1
            exact Prod.ext h01 (e1.trans (by simp))
          have HF : Hid (∀ w3, StIn w P og0 og2 oc2 fg fc u12 ⟨zs', ps', u.bs, f'.go ((p : Int) + 1), u.ns⟩ w3 → StepTo P og0 w r (.returned (.tuple #[.slice (some ⟨fg, 0, none⟩) (k + 1) fc, u12, .int .i64 2, .int .i64 (f'.r a)])) w3) := Lib.hid (fun w3 h3 => by
            have hr := HRUN.out
            rw [runR_done HX.out HNX.out.2.2 HNX.out.1 HNX.out.2.1 rfl, hdo] at hr
            obtain rfl := Option.some.inj hr
            exact ⟨fg, fc, u12, og2, oc2, by rw [HK.out]; rfl, h3⟩)
          clear hdo h01
          go_upto_region 33 with fail
          generalize hW4 : (World.setCell W2 _ _).alloc _ = W4
          have HA := Lib.hid (aft_go HO2.out.1 HO2.out.2.2.1 HO2.out.2.1 HO2.out.2.2.2.2 HZ.out.2.1 (by have := HZ.out.1; have := HV.out; omega) (by have := HST.out.k.size; have := HV.out; omega) rfl ((p : Int) + 1) hW4)
          clear hW4 p0 p1 lv
          obtain ⟨nb, hnb⟩ : ∃ nb, W2.heap.size = nb := ⟨_, rfl⟩
          rw [hnb] at HA ⊢
          clear hnb
          have HR4 := HA.out.range
          go_wp2_with (first
            | refine wpList_loadFr rfl rfl rfl HR4 ?_
            | (refine wpList_storeFr (j := k) rfl rfl rfl rfl HA.out.st.fr (by rw [← HK.out]; exact HA.out.st.f_at) ?_; intro W5 hr5 hk5; rw [← HK.out] at hr5; have HA := Lib.hid (aft_put HA.out hr5 hk5); clear hr5 hk5; obtain ⟨c0, c1, c2, c3, c4, _⟩ := cells5 HA.out.x; obtain ⟨d0, d1⟩ := cells2 HA.out.n; have e1 := HA.out.reg (j := a) (by omega)))
          have a17 := a16
          go_region
          all_goals go_wp2_with fail
          all_goals exact bodyPost_ret (v := .tuple #[.slice (some ⟨fg, 0, none⟩) (k + 1) fc, u12, .int .i64 2, .int .i64 (f'.r a)]) (by simp [results, Try.results25, go_sem]; rfl) rfl (HF.out _ (HA.out.st.kept0 (Kept.refl _ _).drew))
        · -- the next one
          by_cases h21 : op = 21
          · subst h21
            have hdo : doM P.most P.now self ⟨21, a, b, c, n⟩ u = (0, ⟨zs', ps', u.bs, f'.go ((p : Int) + 1), u.ns ++ [note]⟩) := by
              have e1 := HSAY.out.st
              have e2 := h01
              rw [HPC.out] at e1
              exact Prod.ext e2 (e1.trans (by simp))
            have HRN : Hid (runR code P.most P.now self m true ⟨zs', ps', u.bs, f'.go ((p : Int) + 1), u.ns ++ [note]⟩ = some r) := Lib.hid (by
              have hr := HRUN.out
              rw [runR_next HX.out HNX.out.2.2 HNX.out.1 HNX.out.2.1 hop hop2, hdo] at hr
              exact hr)
            have HLEN : Hid (self < ps'.length) := Lib.hid (by
              have := do_ps (most := P.most) (now := P.now) (self := self) ⟨21, a, b, c, n⟩ u
              rw [hdo] at this
              have h2 := HBLN.out.2.1
              dsimp only at this
              omega)
            clear hop hop2 h01 hdo
            cases qk : (note.kind != -1)
            all_goals
              go_upto_region 33 with fail
              generalize hW4 : (World.setCell W2 _ _).alloc _ = W4
              have HA := Lib.hid (aft_go HO2.out.1 HO2.out.2.2.1 HO2.out.2.1 HO2.out.2.2.2.2 HZ.out.2.1 (by have := HZ.out.1; have := HV.out; omega) (by have := HST.out.k.size; have := HV.out; omega) rfl ((p : Int) + 1) hW4)
              clear hW4 p0 p1 lv
              obtain ⟨nb, hnb⟩ : ∃ nb, W2.heap.size = nb := ⟨_, rfl⟩
              rw [hnb] at HA ⊢
              clear hnb
              have HR4 := HA.out.range
              go_wp2_with (first
                | refine wpList_loadFr rfl rfl rfl HR4 ?_
                | (refine wpList_storeFr (j := k) rfl rfl rfl rfl HA.out.st.fr (by rw [← HK.out]; exact HA.out.st.f_at) ?_; intro W5 hr5 hk5; rw [← HK.out] at hr5; have HA := Lib.hid (aft_put HA.out hr5 hk5); clear hr5 hk5; obtain ⟨c0, c1, c2, c3, c4, _⟩ := cells5 HA.out.x; obtain ⟨d0, d1⟩ := cells2 HA.out.n; have e1 := HA.out.reg (j := a) (by omega))
                | (at_builtin; refine wpList_append_elems (ys := [note]) _ rfl (.tmp 162) (.tmp 164) 49 rfl w.heap.size 77 i2 (.agg #[.int .i64 0, .int .i64 0]) 2 16 Try.underlying49 HI2.out HZ2.out HN2.out HB2.out rfl (by decide) Nt.two (nts_one _) u12 u.ns.length (flat Nt.cells u.ns) rfl (HA.out.kept0 ((Kept.refl _ W5).alloc _)).st.nt (W5.heap.size + 1) _ 1 rfl (Elems.block (f := Nt.cells) (xs := [note]) Nt.two (heap_new1 W5 (.cells #[.int .i64 note.kind, .int .i64 note.value] 77)) rfl (by show 1 ≤ maxLen; decide)) ?m1 ?m2 ?m3 ?_))
              case m1 => have := HBLN.out.2.2; have := HDM.out.2; unfold maxLen; omega
              case m2 => have := HBLN.out.2.2; have := HDM.out.2; omega
              case m3 => have := HA.out.st.k.size; omega
              intro v' w3 g1 g2 g3
              have HA3 := Lib.hid (HA.out.st.mark ((Kept.refl _ W5).alloc _) note g1 g2 (by simpa using g3))
              clear g1 g2 g3 c0 c1 c2 c3 c4 d0 d1 e1 HR4
              go_wp2_with fail
              go_roundw
              case rel => exact ⟨d + 1, fg, fc, og2, oc2, _, by rw [HK.out], by go_num, by have := HDM.out.2; omega, HA3.out, HBLN.out.1, HLEN.out, by have := HBLN.out.2.2; show (u.ns ++ [note]).length ≤ d + 1; rw [List.length_append]; simp; omega, by
                have e1 : 200 - (d + 1) = m := by have := HDM.out; omega
                have e2 : decide (0 < d + 1) = true := decide_eq_true (by omega)
                rw [e1, e2]
                exact HRN.out⟩
              case measure => have := HDM.out; simp [intOf]; omega
          have hnt : note = noNt := HSAY.out.nt h21
          subst hnt
          have q21 : (op == 21) = false := beq_eq_false_iff_ne.2 h21
          have hdo : doM P.most P.now self ⟨op, a, b, c, n⟩ u = (0, ⟨zs', ps', u.bs, f'.go ((p : Int) + 1), u.ns⟩) := by
            have e1 := HSAY.out.st
            have e2 := h01
            rw [HPC.out] at e1
            exact Prod.ext e2 (e1.trans (by simp [h21]))
          have HRN : Hid (runR code P.most P.now self m true ⟨zs', ps', u.bs, f'.go ((p : Int) + 1), u.ns⟩ = some r) := Lib.hid (by
            have hr := HRUN.out
            rw [runR_next HX.out HNX.out.2.2 HNX.out.1 HNX.out.2.1 hop hop2, hdo] at hr
            exact hr)
          have HLEN : Hid (self < ps'.length) := Lib.hid (by
            have := do_ps (most := P.most) (now := P.now) (self := self) ⟨op, a, b, c, n⟩ u
            rw [hdo] at this
            have h2 := HBLN.out.2.1
            dsimp only at this
            omega)
          clear hop hop2 h01 h21 hdo
          go_upto_region 33 with fail
          generalize hW4 : (World.setCell W2 _ _).alloc _ = W4
          have HA := Lib.hid (aft_go HO2.out.1 HO2.out.2.2.1 HO2.out.2.1 HO2.out.2.2.2.2 HZ.out.2.1 (by have := HZ.out.1; have := HV.out; omega) (by have := HST.out.k.size; have := HV.out; omega) rfl ((p : Int) + 1) hW4)
          clear hW4 p0 p1 lv
          obtain ⟨nb, hnb⟩ : ∃ nb, W2.heap.size = nb := ⟨_, rfl⟩
          rw [hnb] at HA ⊢
          clear hnb
          have HR4 := HA.out.range
          go_wp2_with (first
            | refine wpList_loadFr rfl rfl rfl HR4 ?_
            | (refine wpList_storeFr (j := k) rfl rfl rfl rfl HA.out.st.fr (by rw [← HK.out]; exact HA.out.st.f_at) ?_; intro W5 hr5 hk5; rw [← HK.out] at hr5; have HA := Lib.hid (aft_put HA.out hr5 hk5); clear hr5 hk5; obtain ⟨c0, c1, c2, c3, c4, _⟩ := cells5 HA.out.x; obtain ⟨d0, d1⟩ := cells2 HA.out.n; have e1 := HA.out.reg (j := a) (by omega)))
          go_roundw
          case rel => exact ⟨d + 1, fg, fc, og2, oc2, _, by rw [HK.out], by go_num, by have := HDM.out.2; omega, HA.out.st, HBLN.out.1, HLEN.out, by have := HBLN.out.2.2; show u.ns.length ≤ d + 1; omega, by
            have e1 : 200 - (d + 1) = m := by have := HDM.out; omega
            have e2 : decide (0 < d + 1) = true := decide_eq_true (by omega)
            rw [e1, e2]
            exact HRN.out⟩
          case measure => have := HDM.out; simp [intOf]; omega
        · -- elsewhere
          have h21 : op ≠ 21 := HSAY.out.gone rfl
          have hnt : note = noNt := HSAY.out.nt h21
          subst hnt
          have q21 : (op == 21) = false := beq_eq_false_iff_ne.2 h21
          have hdo : doM P.most P.now self ⟨op, a, b, c, n⟩ u = (0, ⟨zs', ps', u.bs, f', u.ns⟩) := by
            have e1 := HSAY.out.st
            have e2 := h01
            rw [HPC.out] at e1
            exact Prod.ext e2 (e1.trans (by simp [h21]))
          have HRN : Hid (runR code P.most P.now self m true ⟨zs', ps', u.bs, f', u.ns⟩ = some r) := Lib.hid (by
            have hr := HRUN.out
            rw [runR_next HX.out HNX.out.2.2 HNX.out.1 HNX.out.2.1 hop hop2, hdo] at hr
            exact hr)
          have HLEN : Hid (self < ps'.length) := Lib.hid (by
            have := do_ps (most := P.most) (now := P.now) (self := self) ⟨op, a, b, c, n⟩ u
            rw [hdo] at this
            have h2 := HBLN.out.2.1
            dsimp only at this
            omega)
          clear hop hop2 h01 h21 hdo
          go_upto_region 33 with fail
          generalize hW4 : World.alloc W2 _ = W4
          have HA := Lib.hid (aft_stay HO2.out.1 HO2.out.2.2.1 HO2.out.2.1 HO2.out.2.2.2.2 HZ.out.2.1 rfl hW4)
          clear hW4 p0 p1 lv
          obtain ⟨nb, hnb⟩ : ∃ nb, W2.heap.size = nb := ⟨_, rfl⟩
          rw [hnb] at HA ⊢
          clear hnb
          have HR4 := HA.out.range
          go_wp2_with (first
            | refine wpList_loadFr rfl rfl rfl HR4 ?_
            | (refine wpList_storeFr (j := k) rfl rfl rfl rfl HA.out.st.fr (by rw [← HK.out]; exact HA.out.st.f_at) ?_; intro W5 hr5 hk5; rw [← HK.out] at hr5; have HA := Lib.hid (aft_put HA.out hr5 hk5); clear hr5 hk5; obtain ⟨c0, c1, c2, c3, c4, _⟩ := cells5 HA.out.x; obtain ⟨d0, d1⟩ := cells2 HA.out.n; have e1 := HA.out.reg (j := a) (by omega)))
          go_roundw
          case rel => exact ⟨d + 1, fg, fc, og2, oc2, _, by rw [HK.out], by go_num, by have := HDM.out.2; omega, HA.out.st, HBLN.out.1, HLEN.out, by have := HBLN.out.2.2; show u.ns.length ≤ d + 1; omega, by
            have e1 : 200 - (d + 1) = m := by have := HDM.out; omega
            have e2 : decide (0 < d + 1) = true := decide_eq_true (by omega)
            rw [e1, e2]
            exact HRN.out⟩
          case measure => have := HDM.out; simp [intOf]; omega
end

end Go.Proofs.Ytofnomkedpagfaa
