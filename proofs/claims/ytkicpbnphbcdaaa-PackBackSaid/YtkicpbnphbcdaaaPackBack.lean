/-
  For every input the statement PackBack answers true: what was put is got as it was; what was got is put as those bytes; with a byte more they are none's.
  Conditions: none.
-/
import Derived.Test.YtkicpbnphbcdaaaBytesArg
import Derived.WalkKit
import Derived.ProofKit
import Derived.OpenShut
namespace Go.Proofs.Ytkicpbnphbcdaaa
namespace packBack
open Go.ChangeShapes Go.WideShapes Go.ChangeAt Go.RowKit
set_option linter.unusedVariables false

set_option maxHeartbeats 8000000 in
set_option maxRecDepth 100000 in
theorem walk (x : Sc) (bs : List Nat) (s : Option Addr) (cap : Nat) (m : Int) (hm : (Lit.int .u8 m).wf = true) (w : World) (hx : Lies w w.heap.size x) (hE : Elems w w.heap.size s 1 bC bs) (hb : ∀ b ∈ bs, b < 256) (hc : bs.length ≤ cap) :
    Calls Try.prog 5 #[x.agg, .slice s bs.length cap, .int .u8 m] w fun e w' => e = .returned (.bool true) ∧ Below w.heap.size w w' := by
  have hm2 := bounds_u8 hm
  clear hm
  obtain ⟨W0, hW0⟩ : ∃ W0, w.alloc (.cells #[.slice x.os x.obs.length x.oc, .slice x.ps x.prs.length x.pc, .slice x.ks x.pis.length x.kc] 26) = W0 := ⟨_, rfl⟩
  have hk0 : Kept (fun _ => False) w W0 := by rw [← hW0]; exact (Kept.refl _ w).alloc _
  have hs0 : W0.heap.size = w.heap.size + 1 := by rw [← hW0]; simp
  have hb0 : W0.heap[w.heap.size]? = some (.cells #[.slice x.os x.obs.length x.oc, .slice x.ps x.prs.length x.pc, .slice x.ks x.pis.length x.kc] 26 (0, 0)) := by rw [← hW0]; exact heap_alloc_new w _
  have HX := Lib.hid (fun (w' : World) (hk : Kept (fun _ => False) W0 w') => hx.kept (hk0.trans hk (fun _ _ f => f)) (Nat.le_refl _) (fun _ _ f => f))
  have HE := Lib.hid (fun (w' : World) (hk : Kept (fun _ => False) W0 w') => hE.kept (hk0.trans hk (fun _ _ f => f)) (Nat.le_refl _) (fun _ _ f => f))
  have HP := Lib.hid (fun (w' : World) (hk : Kept (fun _ => False) W0 w') => res_cells ((hk.block w.heap.size (by omega) (fun f => f)).trans hb0))
  have HFIN := Lib.hid (fun (w' : World) (hk : Kept (fun _ => False) W0 w') => (hk0.trans hk (fun _ _ f => f)).below (Nat.le_refl _) (fun _ f => f.elim))
  have HSZ := Lib.hid (fun (w' : World) (hk : Kept (fun _ => False) W0 w') => (show w.heap.size ≤ w'.heap.size from Nat.le_trans (by omega) hk.size))
  have HW0 := Lib.hid hW0
  have HB := Lib.hid hb
  have hmax : bs.length ≤ 9223372036854775807 := by have := hE.1; unfold maxLen at this; exact this
  have HC := Lib.hid hc
  obtain ⟨i0, hi, hz, hn, hby⟩ := info_parts Try.infoByte
  have HI := Lib.hid hi
  have HZ := Lib.hid hz
  have HN := Lib.hid hn
  have HBY := Lib.hid hby
  clear hx hE hb hc hk0 hs0 hb0 hW0 hi hz hn hby
  unfold Sc.agg
  go_enter Try.func5, Try.ntmps5
  go_wp2_with fail
  rw [HW0.out]
  clear HW0
  refine (packUp_any _).mono ?_
  rintro e w1 ⟨rfl, hk1⟩
  obtain ⟨p0, p1, p2⟩ := HP.out w1 hk1
  have HK1 := Lib.hid hk1
  clear hk1
  cases hfx : fewF x
  · go_wp2_with fail
    refine (few_any (x := x) (HX.out w1 HK1.out) (HSZ.out w1 HK1.out) false hfx).mono ?_
    rintro e w2 ⟨rfl, hk2⟩
    have HF := Lib.hid (HFIN.out w2 (HK1.out.trans hk2 (fun _ _ f => f)))
    clear hk2
    go_wp2_with fail
    go_ret
    exact ⟨rfl, HF.out⟩
  go_wp2_with fail
  refine (few_any (x := x) (HX.out w1 HK1.out) (HSZ.out w1 HK1.out) true hfx).mono ?_
  rintro e w2 ⟨rfl, hk2⟩
  have HK2 := Lib.hid (HK1.out.trans hk2 (fun _ _ f => f))
  clear hk2 p0 p1 p2 hfx
  by_cases h4 : (4000 : Int) < (bs.length : Int)
  · have HF := Lib.hid (HFIN.out w2 HK2.out)
    go_wp2_with fail
    go_ret
    exact ⟨rfl, HF.out⟩
  obtain ⟨p0, p1, p2⟩ := HP.out w2 HK2.out
  cases hmx : mayF x
  · go_wp2_with fail
    refine (put_not (x := x) (HX.out w2 HK2.out) (HSZ.out w2 HK2.out) hmx).mono ?_
    rintro e w3 ⟨c, hc, rfl, hk3⟩
    have HK3 := Lib.hid (HK2.out.trans hk3 (fun _ _ f => f))
    clear hk3 p0 p1 p2 hmx hc
    go_wp2_with fail
    refine (getTop_any (HE.out w3 HK3.out) HB.out HC.out (HSZ.out w3 HK3.out)).mono ?_
    rintro e w4 ho
    rcases get_cases ho with ⟨c5, hc5, rfl, hk4⟩ | ⟨p, hp, hok, hl, hg, y, rfl, hy, how, hk4⟩
    · have HF := Lib.hid (HFIN.out _ ((HK3.out.trans hk4 (fun _ _ f => f)).alloc (.cells #[.slice none 0 0, .slice none 0 0, .slice none 0 0] 26)))
      clear ho hk4 hc5
      go_wp2_with fail
      go_ret
      exact ⟨rfl, HF.out⟩
    · have hk5 : Kept (fun _ => False) w4 (w4.alloc (.cells #[.slice y.os y.obs.length y.oc, .slice y.ps y.prs.length y.pc, .slice y.ks y.pis.length y.kc] 26)) := (Kept.refl _ w4).alloc _
      have HY := Lib.hid (how.lies.kept hk5 (Nat.le_refl _) (fun _ _ f => f))
      have HK4 := Lib.hid (HK3.out.trans hk4 (fun _ _ f => f))
      have HMY := Lib.hid (may_of hy hl hg)
      have HPY := Lib.hid hy
      have HPB := Lib.hid hp
      clear ho hk4 how hk5 hl hg hok hy hp
      unfold Sc.agg
      go_wp2_with fail
      refine (put_may (x := y) HY.out (by simp) HMY.out).mono ?_
      rintro e w6 ⟨A, c, rfl, ho, hk6⟩
      obtain ⟨A1, c1, e1, _, hEx⟩ := ho.elems (by have := may_len HMY.out; unfold maxLen; omega)
      simp only [Value.slice.injEq, true_and] at e1
      obtain ⟨rfl, rfl⟩ := e1
      have hk7 : Kept (fun _ => False) W0 w6 := (HK4.out.alloc _).trans hk6 (fun _ _ f => f)
      have d1 : (convert 29 9 (.slice A (scE byteTok (partsOf y)).length c)).run Try.prog w6 = .ok (.string (strOf bs)) w6 := by
        rw [conv_bytes hEx, HPY.out, ← HPB.out]
      have d2 := conv_bytes (c := cap) (HE.out w6 hk7)
      have HF := Lib.hid (HFIN.out w6 hk7)
      clear ho hEx hk6 hk7
      go_wp2_with fail
      go_ret
      exact ⟨rfl, HF.out⟩
  have hq2 : ∀ (w : World), (binOp .neq 31 (.iface 43 (.int .i64 2)) (.iface 43 (.int .i64 2))).run Try.prog w = .ok (.bool false) w := fun w => neq_codes w 2 2
  have HQ2 := Lib.hid hq2
  clear hq2
  go_wp2_with fail
  refine (put_may (x := x) (HX.out w2 HK2.out) (HSZ.out w2 HK2.out) hmx).mono ?_
  rintro e w3 ⟨A, c, rfl, hox, hk3⟩
  have hlen := may_len hmx
  obtain ⟨A1, c1, e1, hcc, hEx⟩ := hox.elems (by unfold maxLen; omega)
  simp only [Value.slice.injEq, true_and] at e1
  obtain ⟨rfl, rfl⟩ := e1
  have HEX := Lib.hid hEx
  have HCC := Lib.hid hcc
  have HLEN := Lib.hid hlen
  have HMX := Lib.hid hmx
  have HK3 := Lib.hid (HK2.out.trans hk3 (fun _ _ f => f))
  clear hk3 p0 p1 p2 hox hEx hcc hlen hmx
  go_wp2_with fail
  refine (getTop_any HEX.out (scE_lt _) HCC.out (Nat.le_refl _)).mono ?_
  rintro e w4 ho
  obtain ⟨y, rfl, hy, how, hk4⟩ := get_back (may_ok HMX.out) (may_large HMX.out) (may_good HMX.out) ho
  have hk5 : Kept (fun _ => False) w4 (w4.alloc (.cells #[.slice y.os y.obs.length y.oc, .slice y.ps y.prs.length y.pc, .slice y.ks y.pis.length y.kc] 26)) := (Kept.refl _ w4).alloc _
  have HY := Lib.hid (fun (w' : World) (hk : Kept (fun _ => False) (w4.alloc (.cells #[.slice y.os y.obs.length y.oc, .slice y.ps y.prs.length y.pc, .slice y.ks y.pis.length y.kc] 26)) w') => how.lies.kept (hk5.trans hk (fun _ _ f => f)) (Nat.le_refl _) (fun _ _ f => f))
  have HPY := Lib.hid hy
  have HK5 := Lib.hid ((HK3.out.trans hk4 (fun _ _ f => f)).trans hk5 (fun _ _ f => f))
  have HEX5 := Lib.hid ((HEX.out.kept hk4 (Nat.le_refl _) (fun _ _ f => f)).kept hk5 hk4.size (fun _ _ f => f))
  have HYB := Lib.hid (heap_alloc_new w4 (.cells #[.slice y.os y.obs.length y.oc, .slice y.ps y.prs.length y.pc, .slice y.ks y.pis.length y.kc] 26))
  have HZ4 : Hid (w3.heap.size ≤ w4.heap.size) := Lib.hid hk4.size
  clear ho hk4 how hk5 hy
  unfold Sc.agg
  go_wp2_with (at_builtin; refine wpList_append_elems (f := bC) (ys := scE byteTok (partsOf x)) _ rfl (.tmp 43) (.tmp 44) 29 rfl (w4.heap.size + 1) 5 i0 (.int .u8 0) 1 1 Try.underlying29 HI.out HZ.out HN.out HBY.out rfl (by decide) bC_one (bC_cell _) _ 0 [] rfl ?c1 w3.heap.size A c rfl ?c2 ?c3 ?c4 ?c5 ?_)
  case c1 =>
    have h := World.ownsRow_lit (base := w4.heap.size + 1) (e := 5) (size := 1) (w4.alloc (.cells #[.slice y.os y.obs.length y.oc, .slice y.ps y.prs.length y.pc, .slice y.ks y.pis.length y.kc] 26)) #[] 0 (by simp) (Nat.zero_le _) rfl
    rw [World.size_alloc] at h
    exact h
  case c2 => exact HEX5.out.kept ((Kept.refl (fun _ => False) _).alloc _) (by have := HZ4.out; simp; omega) (fun _ _ f => f)
  case c3 => have := HLEN.out; unfold maxLen; omega
  case c4 => have := HLEN.out; omega
  case c5 => simp
  intro v1 w5 hown1 hg1 hv1
  try simp only [Nat.zero_add, List.nil_append] at hown1
  have hO1 : Own (w4.heap.size + 1) w5 v1 (scE byteTok (partsOf x)) := hown1
  have hk5 : Kept (fun _ => False) (w4.alloc (.cells #[.slice y.os y.obs.length y.oc, .slice y.ps y.prs.length y.pc, .slice y.ks y.pis.length y.kc] 26)) w5 := ((Kept.refl (fun _ => False) _).alloc _).grown hg1 (fun k hk e => by simp [Value.ownBlock] at e hk; omega)
  have HO1 := Lib.hid hO1
  have HKY5 := Lib.hid hk5
  have hmN : ∃ m' : Nat, m = (m' : Int) ∧ m' < 256 := ⟨m.toNat, by omega, by omega⟩
  obtain ⟨m', rfl, hm'⟩ := hmN
  have HM' := Lib.hid hm'
  clear hown1 hg1 hv1 hO1 hk5 hm'
  go_wp2_with (at_builtin; refine wpList_push _ rfl (.tmp 45) (.tmp 47) rfl (w4.heap.size + 1) v1 (scE byteTok (partsOf x)) _ m' rfl rfl ?c6 HO1.out ?c7 ?c8 ?_)
  case c6 => rfl
  case c7 => have := HLEN.out; omega
  case c8 => have := HKY5.out.size; simp at this; omega
  intro v2 w6 hp2
  have hk6 : Kept (fun _ => False) (w4.alloc (.cells #[.slice y.os y.obs.length y.oc, .slice y.ps y.prs.length y.pc, .slice y.ks y.pis.length y.kc] 26)) w6 := HKY5.out.trans hp2.kept (fun k hk e => by have := (HO1.out.lt e).1; simp at hk; omega)
  obtain ⟨A2, c2, rfl, hc2, hE2⟩ := hp2.own.elems (by have := HLEN.out; unfold maxLen; rw [List.length_append]; simp; omega)
  have HE2 := Lib.hid hE2
  have HC2 := Lib.hid hc2
  have HKY6 := Lib.hid hk6
  clear hp2 hk6 hE2 hc2 HO1 HKY5
  go_wp2_with fail
  refine (getTop_len (bs := scE byteTok (partsOf x) ++ [m']) (by rw [List.length_append]; rfl) HE2.out (fun b hb => by
    rcases List.mem_append.1 hb with hb | hb
    · exact scE_lt _ b hb
    · simp only [List.mem_cons, List.not_mem_nil, or_false] at hb; rw [hb]; exact HM'.out) HC2.out (Nat.le_refl _)).mono ?_
  rintro e w7 ho
  obtain ⟨rfl, hk7⟩ := get_more (may_ok HMX.out) ho
  have hk8 : Kept (fun _ => False) (w4.alloc (.cells #[.slice y.os y.obs.length y.oc, .slice y.ps y.prs.length y.pc, .slice y.ks y.pis.length y.kc] 26)) (w7.alloc (.cells #[.slice none 0 0, .slice none 0 0, .slice none 0 0] 26)) := (HKY6.out.trans hk7 (fun _ _ f => f)).alloc _
  obtain ⟨p0, p1, p2⟩ := HP.out _ (HK5.out.trans hk8 (fun _ _ f => f))
  obtain ⟨q0, q1, q2⟩ := res_cells ((hk8.block w4.heap.size (by simp) (fun f => f)).trans HYB.out)
  have HK8 := Lib.hid (HK5.out.trans hk8 (fun _ _ f => f))
  have HSAME := Lib.hid (same_is (y := x) (x := y) (B := w4.heap.size) (HY.out _ hk8) ((HX.out _ HK8.out).more (by have h1 := HSZ.out w2 HK2.out; have h2 := HZ4.out; have h3 := HSZ.out w3 HK3.out; omega)) (by have := hk8.size; simp at this; simp; omega) HPY.out.symm)
  clear ho hk7 hk8
  go_wp2_with fail
  refine (HSAME.out).mono ?_
  rintro e w3 ⟨rfl, hk9⟩
  have HK3 := Lib.hid (HK8.out.trans hk9 (fun _ _ f => f))
  have hq3 := HQ2.out
  clear hk9 p0 p1 p2 q0 q1 q2
  go_wp2_with fail
  refine (getTop_any (HE.out w3 HK3.out) HB.out HC.out (HSZ.out w3 HK3.out)).mono ?_
  rintro e w4 ho
  rcases get_cases ho with ⟨c5, hc5, rfl, hk4⟩ | ⟨p, hp, hok, hl, hg, y, rfl, hy, how, hk4⟩
  · have HF := Lib.hid (HFIN.out _ ((HK3.out.trans hk4 (fun _ _ f => f)).alloc (.cells #[.slice none 0 0, .slice none 0 0, .slice none 0 0] 26)))
    clear ho hk4 hc5
    go_wp2_with fail
    go_ret
    exact ⟨rfl, HF.out⟩
  · have hk5 : Kept (fun _ => False) w4 (w4.alloc (.cells #[.slice y.os y.obs.length y.oc, .slice y.ps y.prs.length y.pc, .slice y.ks y.pis.length y.kc] 26)) := (Kept.refl _ w4).alloc _
    have HY := Lib.hid (how.lies.kept hk5 (Nat.le_refl _) (fun _ _ f => f))
    have HK4 := Lib.hid (HK3.out.trans hk4 (fun _ _ f => f))
    have HMY := Lib.hid (may_of hy hl hg)
    have HPY := Lib.hid hy
    have HPB := Lib.hid hp
    clear ho hk4 how hk5 hl hg hok hy hp
    unfold Sc.agg
    go_wp2_with fail
    refine (put_may (x := y) HY.out (by simp) HMY.out).mono ?_
    rintro e w6 ⟨A, c, rfl, ho, hk6⟩
    obtain ⟨A1, c1, e1, _, hEx⟩ := ho.elems (by have := may_len HMY.out; unfold maxLen; omega)
    simp only [Value.slice.injEq, true_and] at e1
    obtain ⟨rfl, rfl⟩ := e1
    have hk7 : Kept (fun _ => False) W0 w6 := (HK4.out.alloc _).trans hk6 (fun _ _ f => f)
    have d1 : (convert 29 9 (.slice A (scE byteTok (partsOf y)).length c)).run Try.prog w6 = .ok (.string (strOf bs)) w6 := by
      rw [conv_bytes hEx, HPY.out, ← HPB.out]
    have d2 := conv_bytes (c := cap) (HE.out w6 hk7)
    have HF := Lib.hid (HFIN.out w6 hk7)
    clear ho hEx hk6 hk7
    go_wp2_with fail
    go_ret
    exact ⟨rfl, HF.out⟩

theorem own : ownKnob Try.prog.godebug = none := by kernel_rfl
theorem laidOut : laidOutB Try.prog = true := by kernel_rfl

set_option maxRecDepth 100000 in
theorem lifted (os : Os) (started : os.Started) (H : Type) (enc : TypeId × Value → H) :
    ReturnsInHanded {} Try.checked os 5 .any (Rows.packBackSpec.pre6 enc Try.prog Try.f5 Rows.packBackRow.domain false) (Rows.packBackSpec.post enc Try.prog Try.f5 false true false false) := by
  refine returnsInHanded_of_change (C := Try.checked) own started (by kernel_rfl) Try.func5
    (ChangeSpec.witness6 (enc := enc) (C := Try.checked) false ⟨#[], #[.agg #[.slice none 0 0, .slice none 0 0, .slice none 0 0], .slice none 0 0, .int .u8 0], []⟩ 8 (by kernel_rfl) (by kernel_rfl) (by kernel_rfl) (by kernel_rfl)) ?_
  intro W base args ds gs before hval0 hW hcnd _
  have hval : ∀ (j : Nat) t v, Try.f5.params[j]? = some t → args[j]? = some v → Value.okWide Try.prog W .any base t v := hval0
  have hW' := hW
  obtain ⟨p, q, hA0, hV, rfl, hfz, hnd⟩ := hW
  have hA : DataW.TrodAll enc Try.prog W 0 (fun _ => true) true Try.f5.params.toList args.toList ds p := hA0
  rw [Try.params5] at hA hval
  obtain ⟨v0, vs0, d0, ds0, p0, q0, hargs, rfl, rfl, h0, r0⟩ := trodAll_cons hA
  obtain ⟨v1, vs1, d1, ds1, p1, q1, rfl, rfl, rfl, h1, r1⟩ := trodAll_cons r0
  obtain ⟨v2, vs2, d2, ds2, p2, q2, rfl, rfl, rfl, h2, r2⟩ := trodAll_cons r1
  obtain ⟨rfl, rfl, rfl⟩ := trodAll_nil r2
  obtain rfl : args = #[v0, v1, v2] := by cases args; simp_all
  obtain ⟨rfl, rfl⟩ := trodVars_none hV
  have k0 := h0
  have lt0 : ∀ x ∈ p0, x.block < W.heap.size := by obtain ⟨m, hm⟩ := k0; exact DataW.trod_lt m _ _ _ hm
  obtain ⟨x0, rfl, hx0⟩ := sc_of (okWide_struct Try.underlying26 (hval 0 26 v0 rfl rfl)) k0
  have k1 := h1
  have lt1 : ∀ x ∈ p1, x.block < W.heap.size := by obtain ⟨m, hm⟩ := k1; exact DataW.trod_lt m _ _ _ hm
  obtain ⟨s1, len1, cap1, rfl⟩ := okWide_slice Try.underlying29 (hval 1 29 v1 rfl rfl)
  obtain ⟨bs1, rfl, hx1, hb1, hc1⟩ := bytes_of k1
  obtain ⟨a2, rfl, rfl, rfl, w2⟩ := open_int Try.underlying5 (hval 2 5 v2 rfl rfl) h2
  clear hA0 hval0
  refine (walk x0 bs1 s1 cap1 a2 w2 W hx0 hx1 hb1 hc1).mono fun e W' ⟨he, bel⟩ => ?_
  subst he
  exact ⟨_, rfl, _, _, _, [], _, [], hW', trodAll_mk1 (shut_bool Try.underlying4 _), (trodAll_cons_mk (Below.trod laidOut (by kernel_rfl) (of_decide_eq_true (by kernel_rfl)) k0 bel lt0) (trodAll_cons_mk (Below.trod laidOut (by kernel_rfl) (of_decide_eq_true (by kernel_rfl)) k1 bel lt1) (trodAll_cons_mk (shut_int Try.underlying5 w2) trodAll_mk0))), rfl, bel.frame _, fun h => by cases h⟩

theorem over : Rows.packBackRow.holds Try.pinned (OpenSpec.ofChange Rows.packBackSpec) :=
  OpenClaim.holds_of_wide 5 Try.f5 rfl rfl rfl rfl rfl rfl rfl ⟨rfl, rfl, rfl, rfl, rfl⟩ rfl rfl rfl rfl rfl (by kernel_rfl) Try.func5 (by kernel_rfl)
    (of_decide_eq_true (by kernel_rfl)) (by unfold Func.isWrapper; first | (rw [if_pos (by decide +kernel)]; kernel_rfl) | (rw [if_neg (by decide +kernel)]; exact ⟨rfl, rfl⟩))
    (fun os started H enc _ => lifted os started H enc)

end packBack
/-- The statement. -/
theorem packBack_holds : Rows.PackBackSaid := packBack.over
end Go.Proofs.Ytkicpbnphbcdaaa
