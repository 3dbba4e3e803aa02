/-
  For every input the statement MicroAgain answers true: the same step, of what stands alike, comes to the same; what is handed in stays, but the arena and the table.
  Conditions: none.
-/
import Derived.Test.YtdkableaooaebaaDoorMicAgainL
import Derived.Test.YtdkableaooaebaaDoorMicLaid
import Derived.WalkKit
import Derived.ProofKit
import Derived.OpenShut
import Derived.LoopTactic
import Derived.Deep.QuietTactic
import Derived.BigQuiet
import Derived.Outline
namespace Go.Proofs.YtdkableaooaebaaDoor
namespace microAgain
open Go.ChangeShapes Go.WideShapes Go.ChangeAt Go.RowKit
set_option linter.unusedVariables false

set_option maxHeartbeats 8000000 in
set_option maxRecDepth 100000 in
theorem walk (code : List Ix) (so : Option Addr) (cap : Nat) (zs : List Int) (zo : Option Addr) (zc : Nat) (at' : Int) (rs : List Int) (ro : Option Addr) (rc : Nat) (w : World)
    (hx : Elems w w.heap.size so 5 Ix.cells code) (hcw : ∀ x ∈ code, x.wide) (hz : Nums w w.heap.size zo zs) (hr : Nums w w.heap.size ro rs) (hL : Laid w) :
    Calls Tryd.prog 5 #[.slice so code.length cap, .slice zo zs.length zc, .int .i64 at', .slice ro rs.length rc] w fun e w' => e = .returned (.bool true) ∧ Below w.heap.size w w' := by
  have HU := Lib.hid (up_any w hL)
  by_cases hbig : (1024 : Int) < (code.length : Int) ∨ (¬ ((1024 : Int) < (code.length : Int)) ∧ ((100 : Int) < (zs.length : Int))) ∨ (¬ ((1024 : Int) < (code.length : Int)) ∧ ¬ ((100 : Int) < (zs.length : Int)) ∧ (40 : Int) < (rs.length : Int))
  · clear hx hcw hz hr
    rcases hbig with h1 | ⟨h1, h2⟩ | ⟨h1, h2, h3⟩
    all_goals
      go_enter Tryd.func5, Tryd.ntmps5
      go_wp2_with fail
      refine (HU.out).mono ?_
      rintro e w1 ⟨rfl, hk1⟩
      have HF := Lib.hid (hk1.below (Nat.le_refl _) (fun _ f => f.elim))
      clear hk1 HU
      go_wp2_with fail
      go_ret
      exact ⟨rfl, HF.out⟩
  have l1 : ¬ ((1024 : Int) < (code.length : Int)) := by omega
  have l2 : ¬ ((100 : Int) < (zs.length : Int)) := by omega
  have l3 : ¬ ((40 : Int) < (rs.length : Int)) := by omega
  clear hbig
  have HX := Lib.hid hx
  have HCW := Lib.hid hcw
  have HL := Lib.hid hL
  have HMA : Hid (∀ w', Kept (fun _ => False) w w' → Calls Tryd.prog 8 #[.slice zo zs.length zc, .int .i64 2] w' (MadeTo w' zs 2)) :=
    Lib.hid (fun w' hk => made_any zs 2 ((hz.keep (fun p hp => hk.cell hp (fun f => f))).more hk.size) (by omega) (by decide) (by decide))
  have HSA : Hid (∀ w', Kept (fun _ => False) w w' → Calls Tryd.prog 9 #[.int .i64 at', .slice ro rs.length rc] w' (StartTo w' (firstF at' rs))) :=
    Lib.hid (fun w' hk => start_any at' rs ((hr.keep (fun p hp => hk.cell hp (fun f => f))).more hk.size))
  have HZL : Hid (zs.length ≤ 4096) := Lib.hid (by omega)
  have HCL : Hid (code.length ≤ 1000000000) := Lib.hid (by omega)
  have HCM : Hid (code.length ≤ 1024) := Lib.hid (by omega)
  have HNE := Lib.hid neq_ins
  obtain ⟨i5, hi5, hz5, hn5, hb5⟩ := info_parts info_ins
  have HI5 := Lib.hid hi5; clear hi5
  have HZ5 := Lib.hid hz5; clear hz5
  have HN5 := Lib.hid hn5; clear hn5
  have HB5 := Lib.hid hb5; clear hb5
  obtain ⟨i17, hi17, hz17, hn17, hb17⟩ := info_parts info_frame
  have HI17 := Lib.hid hi17; clear hi17
  have HZ17 := Lib.hid hz17; clear hz17
  have HN17 := Lib.hid hn17; clear hn17
  have HB17 := Lib.hid hb17; clear hb17
  clear hx hcw hL hz hr
  go_enter Tryd.func5, Tryd.ntmps5
  go_wp2_with fail
  refine (HU.out).mono ?_
  rintro e w1 ⟨rfl, hk1⟩
  have HK1 := Lib.hid hk1
  clear hk1 HU
  go_wp2_with fail
  refine ((HMA.out _ HK1.out)).mono ?_
  rintro e w2 ⟨ab, tb, tg, tc, og, rfl, hs, hk2⟩
  have HS2 := Lib.hid hs
  have HK2 := Lib.hid hk2
  have HCA := Lib.hid (clone_any w2 hs.ar HZL.out)
  clear hs hk2 HMA l1 l2 l3
  go_wp2_with fail
  refine (HCA.out).mono ?_
  rintro e w3 ⟨b, ogb, rfl, hb, hgb, hA, hk3⟩
  have HCT := Lib.hid (clone_tab (HS2.out.kept0 hk3).tab (by decide))
  have HK3 := Lib.hid hk3
  have HA3 := Lib.hid hA
  have HB3 := Lib.hid (And.intro hb hgb)
  clear hk3 hA hb hgb HCA
  go_wp2_with fail
  refine (HCT.out).mono ?_
  rintro e w4 ⟨ub, ug, uc, rfl, hub, hug, hU, hk4⟩
  have HSA4 : Hid (Sys w1.heap.size w4 ab tb tg tc og zs (List.replicate 2 Pk.zero)) := Lib.hid ((HS2.out.kept0 HK3.out).kept0 hk4)
  have HSB4 : Hid (Sys w1.heap.size w4 b ub ug uc ogb zs (List.replicate 2 Pk.zero)) := Lib.hid (by
    have hA3 := HA3.out
    have hb := HB3.out.1
    have hgb := HB3.out.2
    have h2 := HK2.out.size
    have h3 := HK3.out.size
    refine ⟨hA3.kept hk4 (fun f => f) (fun _ _ f => f), hU, ?_, ?_⟩
    · rintro g (rfl | hg)
      · have := hA3.lt; exact ⟨by omega, by omega⟩
      · have := (hA3.rowLt g hg).1; exact ⟨by omega, by omega⟩
    · rintro g ((rfl | hg) | rfl | rfl)
      · omega
      · have := hgb g hg; omega
      · omega
      · omega)
  have HAB : Hid (∀ g, Base ab tb tg og g → ¬ Base b ub ug ogb g) := Lib.hid (by
    have hb := HB3.out.1
    have hgb := HB3.out.2
    have h3 := HK3.out.size
    have hlt := HS2.out.lt
    intro g hg
    have := hlt g hg
    rintro ((rfl | hg) | rfl | rfl)
    · omega
    · have := hgb g hg; omega
    · omega
    · omega)
  have HK14 := Lib.hid ((HK2.out.trans HK3.out (fun _ _ f => f)).trans hk4 (fun _ _ f => f))
  clear hub hug hU hk4 HB3 HA3 HK2 HK3 HS2 HCT
  have HX4 : Hid (Elems w4 w1.heap.size so 5 Ix.cells code) := Lib.hid ((HX.out.kept (HK1.out.trans HK14.out (fun _ _ f => f)) (Nat.le_refl _) (fun _ _ f => f)).more HK1.out.size)
  go_wp2_with (at_builtin; refine wpList_append_elems (f := Ix.cells) (ys := code) _ rfl (.tmp 60) (.tmp 61) 22 rfl w4.heap.size 46 i5 (.agg #[.int .i64 0, .int .i64 0, .int .i64 0, .int .i64 0, .int .i64 0]) 5 40 Tryd.underlying22 HI5.out HZ5.out HN5.out HB5.out rfl (by decide) Ix.five (ix_cell _) (.slice (some ⟨w4.heap.size, 0, none⟩) 0 0) 0 [] rfl ?c1 w1.heap.size so cap rfl ?c2 ?c3 ?c4 ?c5 ?_)
  case c1 => exact World.ownsRow_made w4 #[] 0 (Nat.le_refl _) (Nat.zero_le _) rfl
  case c2 => exact HX4.out.kept ((Kept.refl (fun _ => False) w4).alloc _) HK14.out.size (fun _ _ f => f)
  case c3 => have := HCM.out; unfold maxLen; omega
  case c4 => have := HCM.out; omega
  case c5 => exact ((Kept.refl (fun _ => False) w4).alloc (.cells #[] 46)).size
  intro v5 w5 hown hgrow _
  obtain ⟨hk5, so5, cc5, rfl, hC5⟩ := own_code HX4.out.1 hown hgrow
  have HC5 := Lib.hid hC5
  have HK5 := Lib.hid hk5
  clear hown hgrow hk5 hC5 HI5 HZ5 HN5 HB5
  go_wp2_with fail
  refine ((HSA.out _ (HK1.out.trans (HK14.out.trans HK5.out (fun _ _ f => f)) (fun _ _ f => f)))).mono ?_
  rintro e w6 ⟨g6, c6, rfl, hg6, hR6, hk6⟩
  have HR6 := Lib.hid hR6
  have HK6 := Lib.hid hk6
  have HG6 := Lib.hid hg6
  clear hR6 hk6 hg6 HSA
  obtain ⟨f0, hf0⟩ : ∃ f0, firstF at' rs = f0 := ⟨_, rfl⟩
  rw [hf0] at HR6
  clear hf0
  go_wp2_with (at_builtin; refine wpList_append_elems (f := Fr.cells) (ys := [f0]) _ rfl (.tmp 66) (.tmp 67) 29 rfl w6.heap.size 60 i17 (.agg #[.int .i64 0, .int .i64 0, .int .i64 0, .int .i64 0, .int .i64 0, .int .i64 0, .int .i64 0, .int .i64 0, .int .i64 0, .int .i64 0, .int .i64 0, .int .i64 0, .int .i64 0, .int .i64 0, .int .i64 0, .int .i64 0, .int .i64 0]) 17 136 Tryd.underlying29 HI17.out HZ17.out HN17.out HB17.out rfl (by decide) Fr.len (fr_cell _) (.slice (some ⟨w6.heap.size, 0, none⟩) 0 0) 0 [] rfl ?d1 (g6 + 1) (some ⟨g6, 0, none⟩) c6 rfl ?d2 ?d3 ?d4 ?d5 ?_)
  case d1 => exact World.ownsRow_made w6 #[] 0 (Nat.le_refl _) (Nat.zero_le _) rfl
  case d2 => exact Elems.of_row Fr.len (HR6.out.kept ((Kept.refl (fun _ => False) w6).alloc _) (fun f => f)) (show 1 ≤ maxLen by decide)
  case d3 => show 0 + 1 ≤ maxLen; decide
  case d4 => show (0 + 1) * 136 ≤ 140737488355328; decide
  case d5 => exact ((Kept.refl (fun _ => False) w6).alloc (.cells #[] 60)).size
  intro v7 w7 hown hgrow _
  have hor := own_row (f := Fr.cells) (xs := [f0]) (n := 1) Fr.len rfl hown hgrow
  have HK7 := Lib.hid hor.1
  obtain ⟨g7, c7, rfl, hg7, hR7⟩ : ∃ g c, v7 = .slice (some ⟨g, 0, none⟩) 1 c ∧ w6.heap.size ≤ g ∧ Row w7 g c 60 17 Fr.cells [f0] := by
    rcases hor.2 with ⟨c, _, h0⟩ | h
    · cases h0
    · exact h
  have HR7 := Lib.hid hR7
  have HG7 := Lib.hid hg7
  clear hown hgrow hor hR7 hg7 HI17 HZ17 HN17 HB17
  have HK47 := Lib.hid ((HK5.out.trans HK6.out (fun _ _ f => f)).trans HK7.out (fun _ _ f => f))
  have HK17 := Lib.hid (HK14.out.trans HK47.out (fun _ _ f => f))
  have HLA := Lib.hid (HL.out.on0 HK1.out)
  have HSA7 := Lib.hid (HSA4.out.kept0 HK47.out)
  have HSB7 := Lib.hid (HSB4.out.kept0 HK47.out)
  have HLT4 := Lib.hid HSA4.out.lt
  have HLB4 := Lib.hid HSB4.out.lt
  have HZ47 := Lib.hid HK47.out.size
  have HC7 : Hid (CodeIn so5 code (Base ab tb tg og) w7) := Lib.hid (HC5.out.kept (HK6.out.trans HK7.out (fun _ _ f => f)) (fun _ _ f => f.elim) (fun g _ h => HLT4.out g h))
  have HR67 := Lib.hid (HR6.out.kept HK7.out (fun f => f))
  have HZ45 := Lib.hid HK5.out.size
  have HZ56 := Lib.hid HK6.out.size
  have HN6 : Hid (¬ Base ab tb tg og g6 ∧ ¬ Base ab tb tg og g7) := Lib.hid ⟨fun h => by have := HLT4.out _ h; have := HG6.out; have := HZ45.out; omega, fun h => by have := HLT4.out _ h; have := HG7.out; have := HZ45.out; have := HZ56.out; omega⟩
  have HST1 : Hid (Calls Tryd.prog 12 #[.slice so5 code.length cc5, .pointer (some ⟨ab, 0, none⟩), .pointer (some ⟨tb, 0, none⟩), .int .i64 0, .slice (some ⟨g6, 0, none⟩) 1 c6] w7 (StepTo w7 ab tb tg tc og 4096 0 (stepM code 4096 0 0 ⟨zs, List.replicate 2 Pk.zero, [], f0, []⟩))) :=
    Lib.hid (sys_step (cc := cc5) (self := 0) (p := Pk.zero) (bs := []) (f := f0) HSA7.out HK17.out HLA.out rfl rfl HZL.out HR67.out (by decide) HC7.out HCL.out HCW.out)
  have HST2 : Hid (∀ w9, Sys w1.heap.size w9 b ub ug uc ogb zs (List.replicate 2 Pk.zero) → Kept (fun _ => False) w1 w9 → Row w9 g7 c7 60 17 Fr.cells [f0] → Calls Tryd.prog 12 #[.slice so code.length cap, .pointer (some ⟨b, 0, none⟩), .pointer (some ⟨ub, 0, none⟩), .int .i64 0, .slice (some ⟨g7, 0, none⟩) 1 c7] w9 (StepTo w9 b ub ug uc ogb 4096 0 (stepM code 4096 0 0 ⟨zs, List.replicate 2 Pk.zero, [], f0, []⟩))) :=
    Lib.hid (fun w9 hs hk hR => sys_step (cc := cap) (self := 0) (p := Pk.zero) (bs := []) (f := f0) hs hk HLA.out rfl rfl HZL.out hR (by decide) (code_came (HX.out.kept (HK1.out.trans hk (fun _ _ f => f)) (Nat.le_refl _) (fun _ _ f => f)) (HK1.out.trans hk (fun _ _ f => f)).size (fun g hg => Nat.le_trans HK1.out.size (hs.new g hg))) HCL.out HCW.out)
  have HLN := Lib.hid (step_lens code 4096 0 0 ⟨zs, List.replicate 2 Pk.zero, [], f0, []⟩ (Nat.zero_le _) rfl)
  generalize stepM code 4096 0 0 ⟨zs, List.replicate 2 Pk.zero, [], f0, []⟩ = r at HST1 HST2 HLN
  obtain ⟨how, val, s'⟩ := r
  dsimp only at HLN
  go_wp2_with fail
  refine (HST1.out).mono ?_
  rintro e w8 ⟨fg, fc, no, nc, og', rfl, haf⟩
  have HAF := Lib.hid haf
  have HK18 := Lib.hid (haf.keeps HSA7.out HK17.out)
  have HCC : Hid (∀ wr, Kept (fun _ => False) w8 wr → CodeIn so5 code (fun _ => False) wr ∧ CodeIn so code (fun _ => False) wr) := Lib.hid (fun wr hk => ⟨(haf.codeIn HC7.out).kept hk (fun _ _ f => f.elim) (fun _ _ f => f.elim),
    code_came (HX.out.kept ((HK1.out.trans HK18.out (fun _ _ f => f)).trans hk (fun _ _ f => f)) (Nat.le_refl _) (fun _ _ f => f)) ((HK1.out.trans HK18.out (fun _ _ f => f)).trans hk (fun _ _ f => f)).size (fun _ f => f.elim)⟩)
  have HR8 := Lib.hid (And.intro (HR67.out.kept haf.kept HN6.out.1) (HR7.out.kept haf.kept HN6.out.2))
  have HSB8 := Lib.hid (again_other HAB.out haf HSB7.out)
  clear haf HST1 HC7 HC5 HR67 HR6 HR7 HN6 HSA7 HSB7 HSA4 HSB4 HK17 HK14 HK5 HK6 HK7 HG6 HG7 HLT4 HZ45 HZ56 HX4 HLA HL
  go_wp2_with fail
  go_loopw [22] (fun i wr => ∃ k : Nat, i = .int .i64 k ∧ k ≤ code.length ∧ Kept (fun _ => False) w8 wr) (fun i _ => code.length - (intOf i).toNat)
  case atStart => exact ⟨0, rfl, by omega, Kept.refl _ _⟩
  case round =>
    obtain ⟨k, rfl, hk1, hk⟩ := hrel
    have HK8 := Lib.hid hk; clear hk
    by_cases hkk : k < code.length
    · obtain ⟨x, hx⟩ : ∃ x, code[k]? = some x := ⟨_, List.getElem?_eq_getElem hkk⟩
      obtain ⟨hci, hcj⟩ := HCC.out _ HK8.out
      obtain ⟨ga, oa, rfl, hga, x0, x1, x2, x3, x4⟩ := in_cells hci hx
      obtain ⟨gb, ob, rfl, hgb, y0, y1, y2, y3, y4⟩ := in_cells hcj hx
      have hne := HNE.out x
      clear hci hcj hx HST2 HCC
      have k0 : (0 : Int) ≤ (k : Int) := by omega
      have k1 : (k : Int) < (code.length : Int) := by omega
      clear hkk
      go_wp2_with fail
      go_quiet (fail)
      go_wp2_with fail
      go_roundw
      case rel => exact ⟨k + 1, by go_num, by omega, HK8.out.drewN _⟩
      case measure => simp [intOf]; omega
    · have k1 : ¬ ((k : Int) < (code.length : Int)) := by omega
      have HSM := Lib.hid (same_any [f0] 1 rfl (by decide) (HR8.out.1.kept HK8.out (fun f => f)) (HR8.out.2.kept HK8.out (fun f => f)))
      clear HCC HNE hkk hk1
      go_wp2_with fail
      refine (HSM.out).mono ?_
      rintro e w9 ⟨rfl, hk9⟩
      have HK89 := Lib.hid (HK8.out.trans hk9 (fun _ _ f => f))
      clear hk9 HK8 HSM
      have HST3 := Lib.hid (HST2.out w9 (HSB8.out.kept0 HK89.out) (HK18.out.trans HK89.out (fun _ _ f => f)) (HR8.out.2.kept HK89.out (fun f => f)))
      clear HST2
      go_wp2_with fail
      refine (HST3.out).mono ?_
      rintro e w10 ⟨fg2, fc2, no2, nc2, og2, rfl, haf2⟩
      obtain ⟨hrow, hnt, har⟩ := again_end HAB.out (fun g hg => Nat.lt_of_lt_of_le (HLB4.out g hg) HZ47.out) HAF.out HK89.out haf2
      have HROW := Lib.hid hrow
      have HNT := Lib.hid hnt
      have HAR := Lib.hid har
      have HAF2 := Lib.hid haf2
      have HF10 := Lib.hid (HK1.out.trans (haf2.keeps (HSB8.out.kept0 HK89.out) (HK18.out.trans HK89.out (fun _ _ f => f))) (fun _ _ f => f))
      clear hrow hnt har haf2 HST3 HSB8 HK18 HK89 HR8 HAB HLB4 HZ47 HAF
      have HSF : Hid (Calls Tryd.prog 16 #[.slice (some ⟨fg, 0, none⟩) (s'.bs.length + 1) fc, .slice (some ⟨fg2, 0, none⟩) (s'.bs.length + 1) fc2] w10 fun e w' => e = .returned (.bool true) ∧ Kept (fun _ => False) w10 w') :=
        Lib.hid (same_any (s'.bs ++ [s'.f]) (s'.bs.length + 1) (by simp) (by have := HLN.out.1; omega) HROW.out HAF2.out.fr)
      go_wp2_with fail
      refine (HSF.out).mono ?_
      rintro e w11 ⟨rfl, hk11⟩
      have HSN := Lib.hid (sameNotes_any s'.ns s'.ns.length rfl (by have := HLN.out.2; omega) (nt_kept HNT.out hk11 (fun _ _ f => f)) (nt_kept HAF2.out.nt hk11 (fun _ _ f => f)))
      have HK11 := Lib.hid hk11
      clear hk11 HSF HROW HNT
      go_wp2_with fail
      refine (HSN.out).mono ?_
      rintro e w12 ⟨rfl, hk12⟩
      have HK12 := Lib.hid (HK11.out.trans hk12 (fun _ _ f => f))
      clear hk12 HSN HK11
      have HLA1 := Lib.hid (len_any w12 (HAR.out.kept HK12.out (fun f => f) (fun _ _ f => f)))
      have HLA2 := Lib.hid (len_any w12 (HAF2.out.ar.kept HK12.out (fun f => f) (fun _ _ f => f)))
      have HFIN := Lib.hid ((HF10.out.trans HK12.out (fun _ _ f => f)).below (Nat.le_refl _) (fun _ f => f.elim))
      clear HK12 HAR HAF2 HF10
      go_wp2_with fail
      refine (HLA1.out).mono ?_
      rintro e w12' ⟨rfl, rfl⟩
      go_wp2_with fail
      refine (HLA2.out).mono ?_
      rintro e w12' ⟨rfl, rfl⟩
      go_wp2_with fail
      go_ret
      exact ⟨rfl, HFIN.out⟩

theorem own : ownKnob Tryd.prog.godebug = none := by kernel_rfl
theorem laidOut : laidOutB Tryd.prog = true := by kernel_rfl

set_option maxRecDepth 100000 in
theorem lifted (os : Os) (started : os.Started) (H : Type) (enc : TypeId × Value → H) :
    ReturnsInHanded {} Tryd.checked os 5 .any (fun w args => (Rows.microAgainSpec.pre enc Tryd.prog Tryd.f5 [] false w args ∧ laidMetH Tryd.prog rowLaid w) ∧ sizedMet enc Tryd.prog Tryd.f5 (OpenSpec.ofChange Rows.microAgainSpec) false w args) (Rows.microAgainSpec.post enc Tryd.prog Tryd.f5 false true false false) := by
  refine handed_laid (C := Tryd.checked) (X := fun w _ => laidMetH Tryd.prog rowLaid w) (fun _ _ _ hh h => h.of_heap hh) own started (by kernel_rfl) Tryd.func5
    (ChangeSpec.witness_shaped (enc := enc) (C := Tryd.checked) (os := os) (X := fun w _ => laidMetH Tryd.prog rowLaid w) false (World.laidAll Tryd.prog os rowLaid) #[.slice none 0 0, .slice none 0 0, .int .i64 0, .slice none 0 0] 8 (World.laidAll_os _ _ _)
      (World.shaped_of_ZipB (by kernel_rfl) (by kernel_rfl)) (by kernel_rfl) (by kernel_rfl) (by kernel_rfl)
      (by rw [MakeChecks.laidMetH_plain _ _ _ (by kernel_rfl)]; exact laidMet_laidAll _ (by kernel_rfl) (by kernel_rfl))) ?_
  intro W base args ds gs before hval0 hW hL hsh
  rw [MakeChecks.laidMetH_plain _ _ _ (by kernel_rfl)] at hL
  have hLaid := laid_of hL hsh
  have hval : ∀ (j : Nat) t v, Tryd.f5.params[j]? = some t → args[j]? = some v → Value.okWide Tryd.prog W .any base t v := hval0
  have hW' := hW
  obtain ⟨p, q, hA0, hV, rfl, hfz, hnd⟩ := hW
  have hA : DataW.TrodAll enc Tryd.prog W 0 (fun _ => true) true Tryd.f5.params.toList args.toList ds p := hA0
  rw [Tryd.params5] at hA hval
  obtain ⟨v0, vs0, d0, ds0, p0, q0, hargs, rfl, rfl, h0, r0⟩ := trodAll_cons hA
  obtain ⟨v1, vs1, d1, ds1, p1, q1, rfl, rfl, rfl, h1, r1⟩ := trodAll_cons r0
  obtain ⟨v2, vs2, d2, ds2, p2, q2, rfl, rfl, rfl, h2, r2⟩ := trodAll_cons r1
  obtain ⟨v3, vs3, d3, ds3, p3, q3, rfl, rfl, rfl, h3, r3⟩ := trodAll_cons r2
  obtain ⟨rfl, rfl, rfl⟩ := trodAll_nil r3
  obtain rfl : args = #[v0, v1, v2, v3] := by cases args; simp_all
  obtain ⟨rfl, rfl⟩ := trodVars_none hV
  have k0 := h0
  have lt0 : ∀ x ∈ p0, x.block < W.heap.size := by obtain ⟨m, hm⟩ := k0; exact DataW.trod_lt m _ _ _ hm
  obtain ⟨s0, len0, cap0, rfl⟩ := okWide_slice Tryd.underlying22 (hval 0 22 v0 rfl rfl)
  obtain ⟨xs0, rfl, hx0, hw0⟩ := code_of k0
  have k1 := h1
  have lt1 : ∀ x ∈ p1, x.block < W.heap.size := by obtain ⟨m, hm⟩ := k1; exact DataW.trod_lt m _ _ _ hm
  obtain ⟨s1, len1, cap1, rfl⟩ := okWide_slice Tryd.underlying23 (hval 1 23 v1 rfl rfl)
  obtain ⟨xs1, rfl, hx1, _⟩ := nums_of k1
  obtain ⟨a2, rfl, rfl, rfl, w2⟩ := open_int Tryd.underlying3 (hval 2 3 v2 rfl rfl) h2
  have k3 := h3
  have lt3 : ∀ x ∈ p3, x.block < W.heap.size := by obtain ⟨m, hm⟩ := k3; exact DataW.trod_lt m _ _ _ hm
  obtain ⟨s3, len3, cap3, rfl⟩ := okWide_slice Tryd.underlying23 (hval 3 23 v3 rfl rfl)
  obtain ⟨xs3, rfl, hx3, _⟩ := nums_of k3
  clear hA0 hval0
  refine (walk xs0 s0 cap0 xs1 s1 cap1 a2 xs3 s3 cap3 W hx0 hw0 hx1 hx3 hLaid).mono fun e W' ⟨he, bel⟩ => ?_
  subst he
  exact ⟨_, rfl, _, _, _, [], _, [], hW', trodAll_mk1 (shut_bool Tryd.underlying4 _), (trodAll_cons_mk (Below.trod laidOut (by kernel_rfl) (of_decide_eq_true (by kernel_rfl)) k0 bel lt0) (trodAll_cons_mk (Below.trod laidOut (by kernel_rfl) (of_decide_eq_true (by kernel_rfl)) k1 bel lt1) (trodAll_cons_mk (shut_int Tryd.underlying3 w2) (trodAll_cons_mk (Below.trod laidOut (by kernel_rfl) (of_decide_eq_true (by kernel_rfl)) k3 bel lt3) trodAll_mk0)))), rfl, bel.frame _, fun h => by cases h⟩

theorem over : Rows.microAgainRow.holds Tryd.pinned (OpenSpec.ofChange Rows.microAgainSpec) :=
  OpenClaim.holds_of_wide 5 Tryd.f5 rfl rfl rfl rfl rfl rfl rfl ⟨rfl, rfl, rfl, rfl, rfl⟩ rfl rfl rfl rfl rfl (by kernel_rfl) Tryd.func5 (by kernel_rfl)
    (of_decide_eq_true (by kernel_rfl)) (by unfold Func.isWrapper; first | (rw [if_pos (by decide +kernel)]; kernel_rfl) | (rw [if_neg (by decide +kernel)]; exact ⟨rfl, rfl⟩))
    (fun os started H enc _ => lifted os started H enc)

end microAgain
/-- The row's statement. -/
theorem microAgain_row : Rows.MicroAgainSaid := microAgain.over
/-- The statement: the card. -/
theorem microAgain_holds : Rows.MicroAgainCardSaid :=
  Claim7.holds_tied_plain_at .later [] Rows.microAgainCard.laidKinds true Rows.microAgainCard.stood.harness Rows.microAgainCard.stood.looks
    microAgain_row (fun _ h => by cases h) (by kernel_rfl) (fun _ h => by cases h) microAgain_row_tie rfl ⟨rfl, rfl⟩ (by kernel_rfl) rfl
    (fun f fn hf hfn => by
      obtain rfl : f = 5 := Option.some.inj ((show Tryd.prog.funcNamed "thole/tholelaw09.MicroAgain" = some 5 by kernel_rfl).symm.trans hf) |>.symm
      obtain rfl : fn = Tryd.f5 := (Option.some.inj (Tryd.func5.symm.trans hfn)).symm
      exact ⟨by kernel_rfl, fun j t ht => by
        rw [Tryd.params5] at ht
        have hm : t ∈ [22, 23, 3, 23] := by simpa using Array.mem_of_getElem? ht
        have hall : ([22, 23, 3, 23].all fun u => !Tryd.prog.wantsStandIn u) = true := by kernel_rfl
        exact (show Tryd.prog.wantsStandIn t = false by simpa using List.all_eq_true.1 hall t hm)⟩)
    (by kernel_rfl)
end Go.Proofs.YtdkableaooaebaaDoor
