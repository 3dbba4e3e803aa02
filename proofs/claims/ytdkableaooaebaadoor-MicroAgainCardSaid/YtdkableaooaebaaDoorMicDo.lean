/-
  What the program's act and do come to at any instruction that may be.
  Conditions: the step's row of frames has 1 to 16 of them; the thread is there, and isn't blocked; at most 1000 marks.
-/
import Derived.Test.YtdkableaooaebaaDoorMicMark
namespace Go.Proofs.YtdkableaooaebaaDoor
open Go.RowKit

theorem reg_of {i : Nat} {ch : UInt8} {n b : Int} (hb : 0 ≤ b) (h : regOk i ch n b = true) : 0 ≤ n ∧ n < 16 := by
  unfold regOk at h
  split at h
  · rw [Bool.and_eq_true, decide_eq_true_eq, decide_eq_true_eq] at h
    omega
  · rw [beq_iff_eq] at h
    omega
theorem may_of {x : Ix} (h : x.may = true) : (1 ≤ x.op ∧ x.op ≤ 22) ∧ (0 ≤ x.a ∧ x.a < 16) ∧ (0 ≤ x.b ∧ x.b < 16) ∧ (0 ≤ x.c ∧ x.c < 16) ∧ (x.op = 7 → x.a < 14) := by
  unfold Ix.may mayP fitsAt at h
  simp only [Bool.and_eq_true, decide_eq_true_eq] at h
  obtain ⟨⟨h1, h2⟩, ⟨⟨h3, h4⟩, h5⟩, _⟩ := h
  refine ⟨⟨h1, h2⟩, reg_of (by unfold behindAt; split <;> omega) h3, reg_of (by omega) h4, reg_of (by omega) h5, fun h7 => ?_⟩
  rw [h7] at h3
  have e : hasC (7 : Int).toNat 65 = true := by decide
  unfold regOk at h3
  rw [if_pos e, Bool.and_eq_true, decide_eq_true_eq, decide_eq_true_eq] at h3
  have e2 : behindAt (7 : Int).toNat = 2 := by decide
  rw [e2] at h3
  omega

/-- What holds of a step at all times. -/
structure Fine (L : Sp) (d : Nat) (s : Ms) : Prop where
  most : 0 ≤ L.most ∧ L.most ≤ 4096
  zs : (s.zs.length : Int) ≤ L.most
  thr : ∃ p, s.ps[L.self]? = some p ∧ p.blocked = false
  bs : s.bs.length ≤ 15
  ns : s.ns.length ≤ d
  d : d ≤ 200
  code : L.code.length ≤ 1000000000

section
variable {L : Sp} {col : Nat → Nat} {k : Kp} {d : Nat} {s : Ms} {w : World}
theorem act_any (h : On L col k d s w) (hF : Fine L d s) (op : Int) (a b c : Nat) (n : Int) (ha : a < 16) (hb : b < 16) (hc : c < 16) (h7 : op = 7 → a < 14) (hop : 1 ≤ op ∧ op ≤ 22) (hno : ¬ (8 ≤ op ∧ op ≤ 13)) :
    Calls Tryd.prog 38 #[.pointer (some ⟨L.sb, 0, none⟩), .agg #[.int .i64 op, .int .i64 a, .int .i64 b, .int .i64 c, .int .i64 n]] w fun e w' => e = .returned (.int .i64 (actM L.most L.now L.self ⟨op, a, b, c, n⟩ s).1) ∧ OnMo L col d w (actM L.most L.now L.self ⟨op, a, b, c, n⟩ s).2 w' := by
  obtain ⟨p, hp, hnb⟩ := hF.thr
  have hbl := hF.bs
  by_cases h5 : op = 5
  · subst h5; exact act_5 h hbl a b c n ha hb
  by_cases h6 : op = 6
  · subst h6; exact act_6 h hbl a b c n ha hb
  by_cases h7' : op = 7
  · subst h7'; exact act_7 h hbl a b c n ha hb (h7 rfl)
  by_cases h14 : op = 14
  · subst h14; exact act_14 h hbl a b c n ha hp hnb
  by_cases h15 : op = 15
  · subst h15; exact act_15 h hbl a b c n ha
  by_cases h20 : op = 20
  · subst h20
    have e : actM L.most L.now L.self ⟨20, a, b, c, n⟩ s = (0, s.setThr L.self (s.thr L.self).broken) := rfl
    rw [e, thr_at hp]
    exact act_20 h hbl a b c n hp
  by_cases h21 : op = 21
  · subst h21; exact act_21 h hbl a b c n ha (by have := hF.ns; have := hF.d; omega)
  by_cases h22 : op = 22
  · subst h22; exact (act_22 h hbl a b c n).mono fun e w' ⟨h1, h2⟩ => ⟨h1, OnMo.same h h2⟩
  have e : actM L.most L.now L.self ⟨op, a, b, c, n⟩ s = (0, (valM L.most L.now L.self ⟨op, a, b, c, n⟩ s).2.put a (valM L.most L.now L.self ⟨op, a, b, c, n⟩ s).1) := by
    unfold actM
    rw [if_neg (by show ¬ (5 ≤ op ∧ op ≤ 7); omega), if_neg h14, if_neg h15, if_neg h20, if_neg h21, if_neg h22]
  rw [e]
  exact act_val h hbl op a b c n ha hb hc hF.most.1 hF.most.2 hp (by omega)

theorem act_keeps (most now : Int) (self : Nat) (x : Ix) (s : Ms) : (actM most now self x s).2.f.pc = s.f.pc ∧ (actM most now self x s).2.bs = s.bs := by
  unfold actM accM parkM unparkM
  have hv := val_keeps most now self x s
  repeat' split
  all_goals first | exact ⟨rfl, rfl⟩ | exact ⟨(show (valM most now self x s).2.f.pc = s.f.pc by rw [hv.1]), hv.2.1⟩

set_option maxHeartbeats 2000000 in
theorem do_act (h : On L col k d s w) (hF : Fine L d s) (op : Int) (a b c : Nat) (n : Int) (ha : a < 16) (hb : b < 16) (hc : c < 16) (h7 : op = 7 → a < 14) (hop : 1 ≤ op ∧ op ≤ 22) (hno : ¬ (8 ≤ op ∧ op ≤ 13)) (h0 : 0 ≤ s.f.pc) (h1 : s.f.pc ≤ 1000000000) :
    Calls Tryd.prog 31 #[.pointer (some ⟨L.sb, 0, none⟩), .agg #[.int .i64 op, .int .i64 a, .int .i64 b, .int .i64 c, .int .i64 n]] w fun e w' => e = .returned (.int .i64 (doM L.most L.now L.self ⟨op, a, b, c, n⟩ s).1) ∧ OnMo L col d w (doM L.most L.now L.self ⟨op, a, b, c, n⟩ s).2 w' := by
  have HA := Lib.hid (act_any (h.alloc (.cells #[.int .i64 op, .int .i64 a, .int .i64 b, .int .i64 c, .int .i64 n] 46)) hF op a b c n ha hb hc h7 hop hno)
  have HK := Lib.hid ((Kept.refl (fun _ => False) w).alloc (.cells #[.int .i64 op, .int .i64 a, .int .i64 b, .int .i64 c, .int .i64 n] 46))
  have HD : Hid (doM L.most L.now L.self ⟨op, a, b, c, n⟩ s = if (actM L.most L.now L.self ⟨op, a, b, c, n⟩ s).1 = 3 then actM L.most L.now L.self ⟨op, a, b, c, n⟩ s else ((actM L.most L.now L.self ⟨op, a, b, c, n⟩ s).1, (actM L.most L.now L.self ⟨op, a, b, c, n⟩ s).2.next)) := Lib.hid (by
    unfold doM
    rw [if_neg (by show ¬ (8 ≤ op ∧ op ≤ 11); omega), if_neg (by show ¬ op = 12; omega), if_neg (by show ¬ op = 13; omega)])
  have hkeep := act_keeps L.most L.now L.self ⟨op, a, b, c, n⟩ s
  obtain ⟨v, hv⟩ : ∃ v, actM L.most L.now L.self ⟨op, a, b, c, n⟩ s = v := ⟨_, rfl⟩
  rw [hv] at HA HD hkeep
  obtain ⟨how, s'⟩ := v
  have HKP := Lib.hid hkeep
  have HBL := Lib.hid hF.bs
  have e8 : (op == 8) = false := by rw [beq_eq_false_iff_ne]; omega
  have e9 : (op == 9) = false := by rw [beq_eq_false_iff_ne]; omega
  have e10 : (op == 10) = false := by rw [beq_eq_false_iff_ne]; omega
  have e11 : (op == 11) = false := by rw [beq_eq_false_iff_ne]; omega
  have e12 : (op == 12) = false := by rw [beq_eq_false_iff_ne]; omega
  have e13 : (op == 13) = false := by rw [beq_eq_false_iff_ne]; omega
  have hw : IntKind.i64.wrap (s.f.pc + 1) = s.f.pc + 1 := IntWalk.i64_in _ (by omega)
  clear hv hkeep hF h hno hop h7
  go_enter Tryd.func31, Tryd.ntmps31
  go_wp2_with fail
  refine (HA.out).mono ?_
  rintro e w2 ⟨rfl, ho⟩
  obtain ⟨col2, k2, ho2, hg2⟩ := ho
  have H2 := Lib.hid ho2
  have HG2 := Lib.hid ((Goes.of0 HK.out).trans hg2)
  clear ho2 hg2 HA
  by_cases h3 : how = 3
  · subst h3
    have HX : Hid (doM L.most L.now L.self ⟨op, a, b, c, n⟩ s = (3, s')) := Lib.hid (by rw [HD.out, if_pos rfl])
    go_wp2_with fail
    go_ret
    exact ⟨by rw [HX.out]; rfl, by rw [HX.out]; exact ⟨col2, k2, H2.out, HG2.out⟩⟩
  · have HX : Hid (doM L.most L.now L.self ⟨op, a, b, c, n⟩ s = (how, s'.next)) := Lib.hid (by rw [HD.out, if_neg h3])
    have q3 : (how != 3) = true := by rw [bne_iff_ne]; exact h3
    clear h3
    have HLA := Lib.hid (last_any H2.out (by have := HBL.out; have e : s'.bs = s.bs := HKP.out.2; rw [e]; exact this))
    go_wp2_with fail
    refine HLA.out.mono ?_
    rintro e w3 ⟨rfl, hk3⟩
    have H3 := Lib.hid (H2.out.kept0 hk3)
    have HG3 := Lib.hid (HG2.out.trans (Goes.of0 hk3))
    have y0 := H3.out.pcAt
    have f0 := H3.out.free (s'.bs.length * 17)
    have ep : s'.f.pc = s.f.pc := HKP.out.1
    rw [ep] at y0
    have HF : Hid (OnMo L col d w s'.next (w3.setCell ⟨k2.fg, s'.bs.length * 17, none⟩ (.int .i64 (s.f.pc + 1)))) := Lib.hid (by
      obtain ⟨h4, h5⟩ := H3.out.goTo (s.f.pc + 1)
      refine ⟨col2, k2, ?_, HG3.out.trans h5⟩
      unfold Ms.next
      rw [ep]
      exact h4)
    clear hk3 HLA
    go_wp2_with fail
    go_ret
    exact ⟨by rw [HX.out]; rfl, by rw [HX.out]; exact HF.out⟩

set_option maxHeartbeats 2000000 in
theorem do_any (h : On L col k d s w) (hF : Fine L d s) (x : Ix) (hm : x.may = true) (h0 : 0 ≤ s.f.pc) (h1 : s.f.pc ≤ 1000000000) :
    Calls Tryd.prog 31 #[.pointer (some ⟨L.sb, 0, none⟩), x.agg] w fun e w' => e = .returned (.int .i64 (doM L.most L.now L.self x s).1) ∧ OnMo L col d w (doM L.most L.now L.self x s).2 w' := by
  obtain ⟨hop, hra, hrb, hrc, h7⟩ := may_of hm
  obtain ⟨op, a, b, c, n⟩ := x
  obtain ⟨a, rfl⟩ : ∃ a' : Nat, a = a' := ⟨a.toNat, by have := hra; dsimp only at this; omega⟩
  obtain ⟨b, rfl⟩ : ∃ b' : Nat, b = b' := ⟨b.toNat, by have := hrb; dsimp only at this; omega⟩
  obtain ⟨c, rfl⟩ : ∃ c' : Nat, c = c' := ⟨c.toNat, by have := hrc; dsimp only at this; omega⟩
  dsimp only at hop hra hrb hrc h7
  have ha : a < 16 := by omega
  have hb : b < 16 := by omega
  have hc : c < 16 := by omega
  by_cases hno : ¬ (8 ≤ op ∧ op ≤ 13)
  · exact do_act h hF op a b c n ha hb hc (fun e => by have := h7 e; omega) hop hno h0 h1
  have h2 := h.alloc (.cells #[.int .i64 op, .int .i64 a, .int .i64 b, .int .i64 c, .int .i64 n] 46)
  have HK := Lib.hid ((Kept.refl (fun _ => False) w).alloc (.cells #[.int .i64 op, .int .i64 a, .int .i64 b, .int .i64 c, .int .i64 n] 46))
  have hbl := hF.bs
  clear hm h7 hop
  by_cases hj : op ≤ 11
  · have HD : Hid (doM L.most L.now L.self ⟨op, a, b, c, n⟩ s = (0, jumpM ⟨op, a, b, c, n⟩ s)) := Lib.hid (by unfold doM; rw [if_pos (by show 8 ≤ op ∧ op ≤ 11; omega)])
    have HJ := Lib.hid (jump_any h2 hbl op a b c n ha hb h0 h1)
    clear h2 h hF
    have hcs : op = 8 ∨ op = 9 ∨ op = 10 ∨ op = 11 := by omega
    clear hno hj
    rcases hcs with rfl | rfl | rfl | rfl
    all_goals
      go_enter Tryd.func31, Tryd.ntmps31
      go_wp2_with fail
      refine (HJ.out).mono ?_
      rintro e w2 ⟨rfl, ho⟩
      have HX := Lib.hid (OnMo.of0 HK.out ho.mo)
      clear ho
      go_wp2_with fail
      go_ret
      exact ⟨by rw [HD.out]; rfl, by rw [HD.out]; exact HX.out⟩
  by_cases h12 : op = 12
  · subst h12
    by_cases h15 : s.bs.length = 15
    · have HD : Hid (doM L.most L.now L.self ⟨12, a, b, c, n⟩ s = (3, s)) := Lib.hid (by
        unfold doM
        rw [if_neg (by show ¬ (8 ≤ (12 : Int) ∧ (12 : Int) ≤ 11); omega), if_pos rfl]
        unfold enterM
        rw [if_pos (by omega)])
      have HE := Lib.hid (enter_not h2 h15 12 a b c n)
      have HS := Lib.hid h2
      clear h2 h hF
      go_enter Tryd.func31, Tryd.ntmps31
      go_wp2_with fail
      refine (HE.out).mono ?_
      rintro e w2 ⟨rfl, hk⟩
      have HX := Lib.hid (OnMo.of0 HK.out (OnMo.same HS.out hk))
      clear hk
      go_wp2_with fail
      go_ret
      exact ⟨by rw [HD.out]; rfl, by rw [HD.out]; exact HX.out⟩
    · have HD : Hid (doM L.most L.now L.self ⟨12, a, b, c, n⟩ s = (0, { s with bs := s.bs ++ [s.f.go (s.f.pc + 1)], f := ⟨n, s.f.r⟩ })) := Lib.hid (by
        unfold doM
        rw [if_neg (by show ¬ (8 ≤ (12 : Int) ∧ (12 : Int) ≤ 11); omega), if_pos rfl]
        unfold enterM
        rw [if_neg (by omega)])
      have HE := Lib.hid (enter_any h2 (by omega) 12 a b c n h0 h1)
      clear h2 h hF
      go_enter Tryd.func31, Tryd.ntmps31
      go_wp2_with fail
      refine (HE.out).mono ?_
      rintro e w2 ⟨rfl, ho⟩
      have HX := Lib.hid (OnMo.of0 HK.out ho)
      clear ho
      go_wp2_with fail
      go_ret
      exact ⟨by rw [HD.out]; rfl, by rw [HD.out]; exact HX.out⟩
  obtain rfl : op = 13 := by omega
  rcases List.eq_nil_or_concat s.bs with hnil | ⟨bs', g, hcat⟩
  · have HD : Hid (doM L.most L.now L.self ⟨13, a, b, c, n⟩ s = (3, s)) := Lib.hid (by
      unfold doM
      rw [if_neg (by show ¬ (8 ≤ (13 : Int) ∧ (13 : Int) ≤ 11); omega), if_neg (by show ¬ ((13 : Int) = 12); omega), if_pos rfl]
      unfold leaveM
      rw [hnil]
      rfl)
    have HE := Lib.hid (leave_not h2 hnil)
    have HS := Lib.hid (OnMo.same h HK.out)
    clear h2 h hF
    go_enter Tryd.func31, Tryd.ntmps31
    go_wp2_with fail
    refine (HE.out).mono ?_
    rintro e w2 ⟨rfl, rfl⟩
    go_wp2_with fail
    go_ret
    exact ⟨by rw [HD.out]; rfl, by rw [HD.out]; exact HS.out⟩
  · have hcat' : s.bs = bs' ++ [g] := by rw [hcat, List.concat_eq_append]
    have HD : Hid (doM L.most L.now L.self ⟨13, a, b, c, n⟩ s = (0, { s with bs := bs', f := (g.put 0 (s.f.r 0)).put 1 (s.f.r 1) })) := Lib.hid (by
      unfold doM
      rw [if_neg (by show ¬ (8 ≤ (13 : Int) ∧ (13 : Int) ≤ 11); omega), if_neg (by show ¬ ((13 : Int) = 12); omega), if_pos rfl]
      unfold leaveM
      rw [hcat', List.getLast?_concat, List.dropLast_concat])
    have HE := Lib.hid (leave_any h2 hcat' hbl)
    clear h2 h hF
    go_enter Tryd.func31, Tryd.ntmps31
    go_wp2_with fail
    refine (HE.out).mono ?_
    rintro e w2 ⟨rfl, ho⟩
    have HX := Lib.hid (OnMo.of0 HK.out ho.mo)
    clear ho
    go_wp2_with fail
    go_ret
    exact ⟨by rw [HD.out]; rfl, by rw [HD.out]; exact HX.out⟩
end

end Go.Proofs.YtdkableaooaebaaDoor
