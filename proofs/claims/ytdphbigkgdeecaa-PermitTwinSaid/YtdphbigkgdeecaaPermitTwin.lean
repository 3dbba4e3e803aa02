/-
  For every input the statement PermitTwin answers true: a table and its twin go their own ways.
  Conditions: none.
-/
import Derived.Test.YtdphbigkgdeecaaScript3
import Derived.Test.YtdphbigkgdeecaaAlike
import Derived.Test.YtdphbigkgdeecaaTabClone
import Derived.WalkKit
import Derived.ProofKit
import Derived.OpenShut
import Derived.LoopTactic
namespace Go.Proofs.Ytdphbigkgdeecaa
namespace permitTwin
open Go.ChangeShapes Go.WideShapes Go.ChangeAt Go.RowKit
set_option linter.unusedVariables false

/-- A table and another's model that stand alike; a twin and the first one's model that do; all made since W, and apart. -/
structure Quad (W w : World) (b g c mb mg mc b' g' c' mb' mg' mc' : Nat) (s s' : Int × List Pk) : Prop where
  one : Both w b g c mb mg mc s.1 s.2
  two : Both w b' g' c' mb' mg' mc' s'.1 s'.2
  apart : ∀ k, Foot b g mb mg k → ¬ Foot b' g' mb' mg' k
  kept : Kept (fun k => W.heap.size ≤ k) W w
  new : ∀ k, Foot b' g' mb' mg' k → W.heap.size ≤ k

theorem Quad.done {W w w' : World} {b g c mb mg mc b' g' c' mb' mg' mc' : Nat} {s s' s2 : Int × List Pk} {e : Ending} (h : Quad W w b g c mb mg mc b' g' c' mb' mg' mc' s s') (hd : Done w b' g' c' mb' mg' mc' s2 e w') : Quad W w' b g c mb mg mc b' g' c' mb' mg' mc' s s2 :=
  ⟨h.one.kept hd.2.2 (fun k h1 h2 => h.apart k h1 h2), hd.2.1, h.apart, h.kept.trans hd.2.2 (fun i _ e => h.new i e), h.new⟩

theorem take_end {α : Type} (xs : List α) (k m : Nat) (h1 : k ≤ xs.length) (h2 : k ≤ m) (h3 : ¬ k < xs.length ∨ ¬ k < m) : xs.take k = xs.take m := by
  rcases Nat.lt_or_ge k m with h | h
  · rw [List.take_of_length_le (by omega), List.take_of_length_le (by omega)]
  · rw [show k = m from by omega]

set_option maxHeartbeats 8000000 in
set_option maxRecDepth 100000 in
theorem walk (a0 : Int) (s : Option Addr) (len cap : Nat) (s2 : Option Addr) (len2 cap2 : Nat) (w : World) (w0 : (Lit.int .i64 a0).wf = true)
    (hs : ∃ xs, xs.length = len ∧ Elems w w.heap.size s 3 Dd.cells xs ∧ ∀ x ∈ xs, Dd.In x) (hs2 : ∃ xs, xs.length = len2 ∧ Elems w w.heap.size s2 3 Dd.cells xs ∧ ∀ x ∈ xs, Dd.In x) :
    Calls Try.prog 6 #[.int .i64 a0, .slice s len cap, .slice s2 len2 cap2] w fun e w' => e = .returned (.bool true) ∧ Below w.heap.size w w' := by
  have b0 := bounds_i64 w0
  clear w0
  obtain ⟨xs, rfl, hx, hin⟩ := hs
  obtain ⟨ys, rfl, hy, hiny⟩ := hs2
  have hxm := hx.1
  have hym := hy.1
  unfold maxLen at hxm hym
  have HX := Lib.hid hx; clear hx
  have HIN := Lib.hid hin; clear hin
  have HY := Lib.hid hy; clear hy
  have HINY := Lib.hid hiny; clear hiny
  have hp := pickF_in a0 8 (by omega)
  obtain ⟨m, hm⟩ : ∃ m : Nat, pickF a0 8 = m := ⟨(pickF a0 8).toNat, by omega⟩
  obtain ⟨n, hn⟩ : ∃ n : Nat, n = 1 + m := ⟨_, rfl⟩
  have hm7 : m ≤ 7 := by omega
  have hn1 : 1 ≤ n := by omega
  have hn2 : n ≤ 8 := by omega
  have hnm : (1 : Int) + (m : Int) = (n : Int) := by omega
  have HM := Lib.hid hm; clear hm
  have HNM := Lib.hid hnm; clear hnm hn hp
  obtain ⟨i0, hi, hz0, hz1, hz2⟩ := info_parts Try.infoPark
  have HI := Lib.hid hi; clear hi
  have HZ0 := Lib.hid hz0; clear hz0
  have HZ1 := Lib.hid hz1; clear hz1
  have HZ2 := Lib.hid hz2; clear hz2
  have hmk : ∀ (w : World), w = w := fun _ => rfl
  clear hmk
  go_enter Try.func6, Try.ntmps6
  go_wp2_with fail
  refine (up_any _).mono ?_
  rintro e w1 ⟨rfl, hk⟩
  have HK1 := Lib.hid hk; clear hk
  go_wp2_with fail
  refine (pick_any a0 8 _ (by omega) (by omega) (by omega) (by omega)).mono ?_
  rintro e w2 ⟨rfl, rfl⟩
  rw [HM.out]
  go_wp2_with fail
  rw [HNM.out]
  refine (new_in n w1 hn1 hn2).mono ?_
  rintro e w2 ⟨b, g, rfl, hb, hg, hT, hk2⟩
  have hs1 := HK1.out.size
  have HK2 := Lib.hid (HK1.out.trans hk2 (fun _ _ f => f))
  have HT := Lib.hid hT
  clear hk2 hT
  go_wp2_with (at_make; refine wpList_make_full _ rfl (.tmp 29) (.tmp 29) 31 rfl 0 41 i0 (.agg #[.bool false, .bool false, .bool false, .int .i64 0]) 4 Try.underlying31 HI.out HZ0.out HZ1.out .i64 .i64 n n n rfl rfl rfl rfl ?c1 ?c2 (Nat.zero_le _) ?_)
  case c1 => rw [HZ2.out]; omega
  case c2 => unfold maxLen; omega
  intro w3 hown hgrow
  have hruns := Runs.made (W := w) HT.out (HK2.out.mono (fun _ _ f => f.elim)) (by omega) (by omega) hown hgrow hn2
  have HRUNS := Lib.hid hruns
  clear hruns hown hgrow
  go_wp2_with fail
  go_loopw [11] (fun i wr => ∃ k : Nat, i = .int .i64 k ∧ k ≤ xs.length ∧ k ≤ 40 ∧ Runs w wr b g n w3.heap.size w2.heap.size n (run (fresh n) (xs.take k))) (fun i _ => 40 - (intOf i).toNat)
  case atStart => exact ⟨0, rfl, by omega, by omega, HRUNS.out⟩
  case round =>
    clear HRUNS HK1 HK2 HT
    obtain ⟨k, rfl, hk1, hk2, hr⟩ := hrel
    generalize w3.heap.size = mb at *
    generalize w2.heap.size = mg at *
    by_cases hkk : k < xs.length ∧ k < 40
    · obtain ⟨hk3, hk4⟩ := hkk
      have hk5 : (k : Int) < 40 := by omega
      obtain ⟨x, hx⟩ : ∃ x, xs[k]? = some x := ⟨_, List.getElem?_eq_getElem hk3⟩
      have hxi := HIN.out x (List.mem_of_getElem? hx)
      obtain ⟨sg, off, rfl, hsg, c0, c1, c2⟩ := deed_at (HX.out.kept hr.2.1 (Nat.le_refl _) (fun k h1 h2 => by omega)) hx
      have hnow := fresh_now n (xs.take k)
      have hnext := run_next (fresh n) xs k x hx
      have HXI := Lib.hid hxi; clear hxi
      have HNX := Lib.hid hnext; clear hnext
      have HR := Lib.hid hr; clear hr
      have HXX := Lib.hid hx; clear hx
      go_wp2_with fail
      refine (one_any HR.out.1 hnow.1 hnow.2 HXI.out.t HXI.out.n.hi).mono ?_
      rintro e w4 hd
      have HR4 := Lib.hid (HR.out.done hd)
      obtain ⟨rfl, _, _⟩ := hd
      clear c0 c1 c2
      go_wp2_with fail
      go_roundw
      case rel => exact ⟨k + 1, by go_num, by omega, by omega, by rw [HNX.out]; exact HR4.out⟩
      case measure => simp [intOf]; omega
    · have hcase : (xs.length ≤ 40 ∧ k = xs.length) ∨ (40 < xs.length ∧ k = 40) := by omega
      rw [take_end xs k 40 hk1 hk2 (by omega)] at hr
      have hsn := fresh_now n (xs.take 40)
      have hsl := fresh_len n (xs.take 40)
      generalize hS : run (fresh n) (xs.take 40) = S at hr hsn hsl
      have HS := Lib.hid hS
      have HSL := Lib.hid hsl
      have HSN := Lib.hid hsn
      have HR := Lib.hid hr
      clear hS hsl hsn hr hkk
      rcases hcase with ⟨hA, hk3⟩ | ⟨hA, hk3⟩
      all_goals
        subst hk3
        clear hk1 hk2
        go_wp2_with fail
        refine (clone_tab HR.out.1.tab (by rw [HSL.out]; exact hn1)).mono ?_
        rintro e w5 ⟨ub, ug, uc, rfl, hub, hug, hU, hk5⟩
        have HR5 := Lib.hid (HR.out.off hk5)
        have HU := Lib.hid hU
        have HLT := Lib.hid (fun j => HR.out.1.lt (k := j))
        have hz5 := hk5.size
        have hz6 : w.heap.size ≤ w5.heap.size := HR5.out.2.1.size
        clear hU hk5
        go_wp2_with fail
        refine (new_in n w5 hn1 hn2).mono ?_
        rintro e w6 ⟨nb, ng, rfl, hnb, hng, hN, hk6⟩
        have HN := Lib.hid hN
        have HK6 := Lib.hid hk6
        clear hN hk6
        go_wp2_with (at_make; refine wpList_make_full _ rfl (.tmp 65) (.tmp 65) 31 rfl 0 41 i0 (.agg #[.bool false, .bool false, .bool false, .int .i64 0]) 4 Try.underlying31 HI.out HZ0.out HZ1.out .i64 .i64 n n n rfl rfl rfl rfl ?_ ?_ (Nat.zero_le _) ?_)
        · rw [HZ2.out]; omega
        · unfold maxLen; omega
        intro w7 hown hgrow
        have HRUNS := Lib.hid (Runs.made (W := w5) HN.out (HK6.out.mono (fun _ _ f => f.elim)) hnb hng hown hgrow hn2)
        clear hown hgrow
        go_wp2_with fail
        clear HK6 HN
        have H7 : True := trivial
        go_loopw [17] (fun i wr => ∃ k : Nat, i = .int .i64 k ∧ k ≤ xs.length ∧ k ≤ 40 ∧ Runs w5 wr nb ng n w7.heap.size w6.heap.size n (run (fresh n) (xs.take k))) (fun i _ => 40 - (intOf i).toNat)
        case atStart => exact ⟨0, rfl, by omega, by omega, HRUNS.out⟩
        case round =>
          clear HRUNS
          obtain ⟨k, rfl, hk1, hk2, hr⟩ := hrel
          generalize w7.heap.size = nmb at *
          generalize w6.heap.size = nmg at *
          by_cases hkk : k < xs.length ∧ k < 40
          · obtain ⟨hk3, hk4⟩ := hkk
            have hk5 : (k : Int) < 40 := by omega
            obtain ⟨x, hx⟩ : ∃ x, xs[k]? = some x := ⟨_, List.getElem?_eq_getElem hk3⟩
            have hxi := HIN.out x (List.mem_of_getElem? hx)
            have hkw := HR5.out.2.1.trans hr.2.1 (fun i hi e => by omega)
            obtain ⟨sg, off, rfl, hsg, c0, c1, c2⟩ := deed_at (HX.out.kept hkw (Nat.le_refl _) (fun k h1 h2 => by omega)) hx
            have hnow := fresh_now n (xs.take k)
            have hnext := run_next (fresh n) xs k x hx
            have HXI := Lib.hid hxi; clear hxi
            have HNX := Lib.hid hnext; clear hnext
            have HRR := Lib.hid hr; clear hr
            have HXX := Lib.hid hx; clear hx hkw
            go_wp2_with fail
            refine (one_any HRR.out.1 hnow.1 hnow.2 HXI.out.t HXI.out.n.hi).mono ?_
            rintro e w8 hd
            have HR8 := Lib.hid (HRR.out.done hd)
            obtain ⟨rfl, _, _⟩ := hd
            clear c0 c1 c2
            go_wp2_with fail
            go_roundw
            case rel => exact ⟨k + 1, by go_num, by omega, by omega, by rw [HNX.out]; exact HR8.out⟩
            case measure => simp [intOf]; omega
          · rw [take_end xs k 40 hk1 hk2 (by omega), HS.out] at hr
            have hq : Quad w wr b g n nmb nmg n ub ug uc mb mg n S S := by
              have hk : Kept (fun k => w5.heap.size ≤ k) w5 wr := hr.2.1
              have hN : ∀ k, Foot nb ng nmb nmg k → w5.heap.size ≤ k := hr.2.2
              have l1 := HR5.out.1.tab.lt
              have l2 := HR5.out.1.ref.lt
              have l3 := HU.out.lt
              have l4 := HLT.out
              have m1 := hN nmb (.inr (.inr (.inl rfl)))
              have m2 := hN nmg (.inr (.inr (.inr rfl)))
              have o1 := HR5.out.2.2 mb (.inr (.inr (.inl rfl)))
              have o2 := HR5.out.2.2 mg (.inr (.inr (.inr rfl)))
              have p1 := l4 b (.inl rfl)
              have p2 := l4 g (.inr (.inl rfl))
              have p3 := l4 mb (.inr (.inr (.inl rfl)))
              have p4 := l4 mg (.inr (.inr (.inr rfl)))
              have z := HR5.out.2.1.size
              have zr := HR.out.2.1.size
              have d1 := HR5.out.1.ne1
              have d2 := HR5.out.1.ne2
              have d3 := HR5.out.1.ne3
              have d4 := HR5.out.1.ne4
              refine ⟨⟨HR5.out.1.tab.kept hk (by omega) (by omega), hr.1.ref, by omega, by omega, by omega, by omega⟩, ⟨HU.out.kept hk (by omega) (by omega), HR5.out.1.ref.kept hk (by omega) (by omega), by omega, by omega, by omega, by omega⟩, ?_, HR5.out.2.1.trans hk (fun i hi e => by omega), ?_⟩
              · intro k h1 h2
                rcases h1 with rfl | rfl | rfl | rfl <;> rcases h2 with h2 | h2 | h2 | h2 <;> omega
              · intro k h2
                rcases h2 with h2 | h2 | h2 | h2 <;> omega
            have HQ := Lib.hid hq
            clear hq hr
            have hcase : (xs.length ≤ 40 ∧ k = xs.length) ∨ (40 < xs.length ∧ k = 40) := by omega
            rcases hcase with ⟨hB, rfl⟩ | ⟨hB, rfl⟩ <;> first | (exfalso; omega) | skip
            clear hB hkk hk1 hk2 HR HR5 HU HLT
            go_wp2_with fail
            go_loopw [19] (fun i wr => ∃ k : Nat, ∃ s' : Int × List Pk, i = .int .i64 k ∧ k ≤ ys.length ∧ k ≤ 40 ∧ Quad w wr b g n nmb nmg n ub ug uc mb mg n S s' ∧ 0 ≤ s'.1 ∧ s'.1 ≤ 9223372036854775807) (fun i _ => 40 - (intOf i).toNat)
            case atStart => exact ⟨0, S, rfl, by omega, by omega, HQ.out, HSN.out.1, HSN.out.2⟩
            case round =>
              clear HQ
              obtain ⟨k, s', rfl, hk1, hk2, hq, hn0, hnx⟩ := hrel
              by_cases hk3 : k < ys.length
              · by_cases hk4 : k < 40
                · have hk5 : (k : Int) < 40 := by omega
                  obtain ⟨x, hx⟩ : ∃ x, ys[k]? = some x := ⟨_, List.getElem?_eq_getElem hk3⟩
                  have hxi := HINY.out x (List.mem_of_getElem? hx)
                  obtain ⟨sg, off, rfl, hsg, c0, c1, c2⟩ := deed_at (HY.out.kept hq.kept (Nat.le_refl _) (fun k h1 h2 => by omega)) hx
                  have HXI := Lib.hid hxi; clear hxi
                  have HQQ := Lib.hid hq; clear hq
                  have HNN := Lib.hid (step_now s'.1 s'.2 x.t x.i x.n hn0 hnx)
                  have HXX := Lib.hid hx; clear hx
                  go_wp2_with fail
                  refine (one_any HQQ.out.two hn0 hnx HXI.out.t HXI.out.n.hi).mono ?_
                  rintro e w8 hd
                  have HQ8 := Lib.hid (HQQ.out.done hd)
                  obtain ⟨rfl, _, _⟩ := hd
                  clear c0 c1 c2
                  go_wp2_with fail
                  go_roundw
                  case rel =>
                    have hrel2 : ∃ k' : Nat, ∃ s'' : Int × List Pk, Value.int .i64 ((k : Int) + 1) = .int .i64 k' ∧ k' ≤ ys.length ∧ k' ≤ 40 ∧ Quad w w8 b g n nmb nmg n ub ug uc mb mg n S s'' ∧ 0 ≤ s''.1 ∧ s''.1 ≤ 9223372036854775807 := ⟨k + 1, _, by go_num, by omega, by omega, HQ8.out, HNN.out.1, HNN.out.2⟩
                    first | exact hrel2 | ((repeat apply Exists.intro); exact ⟨hrel2, rfl⟩)
                  case measure => simp [intOf]; omega
                · have hk5 : ¬ ((k : Int) < 40) := by omega
                  have HQQ := Lib.hid hq; clear hq
                  go_wp2_with fail
                  refine (alike_any HQQ.out.one).mono ?_
                  rintro e w9 ⟨rfl, hk9⟩
                  have HF := Lib.hid ((HQQ.out.kept.trans hk9 (fun _ _ f => f.elim)).below (Nat.le_refl _) (fun _ h => h))
                  clear hk9
                  go_wp2_with fail
                  go_ret
                  exact ⟨rfl, HF.out⟩
              · have HQQ := Lib.hid hq; clear hq
                go_wp2_with fail
                refine (alike_any HQQ.out.one).mono ?_
                rintro e w9 ⟨rfl, hk9⟩
                have HF := Lib.hid ((HQQ.out.kept.trans hk9 (fun _ _ f => f.elim)).below (Nat.le_refl _) (fun _ h => h))
                clear hk9
                go_wp2_with fail
                go_ret
                exact ⟨rfl, HF.out⟩

theorem own : ownKnob Try.prog.godebug = none := by kernel_rfl
theorem laidOut : laidOutB Try.prog = true := by kernel_rfl

set_option maxRecDepth 100000 in
theorem lifted (os : Os) (started : os.Started) (H : Type) (enc : TypeId × Value → H) :
    ReturnsInHanded {} Try.checked os 6 .any (Rows.permitTwinSpec.pre6 enc Try.prog Try.f6 Rows.permitTwinRow.domain false) (Rows.permitTwinSpec.post enc Try.prog Try.f6 false true false false) := by
  refine returnsInHanded_of_change (C := Try.checked) own started (by kernel_rfl) Try.func6
    (ChangeSpec.witness6 (enc := enc) (C := Try.checked) false ⟨#[], #[.int .i64 0, .slice none 0 0, .slice none 0 0], []⟩ 8 (by kernel_rfl) (by kernel_rfl) (by kernel_rfl) (by kernel_rfl)) ?_
  intro W base args ds gs before hval0 hW hcnd _
  have hval : ∀ (j : Nat) t v, Try.f6.params[j]? = some t → args[j]? = some v → Value.okWide Try.prog W .any base t v := hval0
  have hW' := hW
  obtain ⟨p, q, hA0, hV, rfl, hfz, hnd⟩ := hW
  have hA : DataW.TrodAll enc Try.prog W 0 (fun _ => true) true Try.f6.params.toList args.toList ds p := hA0
  rw [Try.params6] at hA hval
  obtain ⟨v0, vs0, d0, ds0, p0, q0, hargs, rfl, rfl, h0, r0⟩ := trodAll_cons hA
  obtain ⟨v1, vs1, d1, ds1, p1, q1, rfl, rfl, rfl, h1, r1⟩ := trodAll_cons r0
  obtain ⟨v2, vs2, d2, ds2, p2, q2, rfl, rfl, rfl, h2, r2⟩ := trodAll_cons r1
  obtain ⟨rfl, rfl, rfl⟩ := trodAll_nil r2
  obtain rfl : args = #[v0, v1, v2] := by cases args; simp_all
  obtain ⟨rfl, rfl⟩ := trodVars_none hV
  obtain ⟨a0, rfl, rfl, rfl, w0⟩ := open_int Try.underlying3 (hval 0 3 v0 rfl rfl) h0
  have k1 := h1
  have lt1 : ∀ x ∈ p1, x.block < W.heap.size := by obtain ⟨m, hm⟩ := k1; exact DataW.trod_lt m _ _ _ hm
  obtain ⟨s1, len1, cap1, rfl⟩ := okWide_slice Try.underlying22 (hval 1 22 v1 rfl rfl)
  have k2 := h2
  have lt2 : ∀ x ∈ p2, x.block < W.heap.size := by obtain ⟨m, hm⟩ := k2; exact DataW.trod_lt m _ _ _ hm
  obtain ⟨s2, len2, cap2, rfl⟩ := okWide_slice Try.underlying22 (hval 2 22 v2 rfl rfl)
  clear hA0 hval0
  refine (walk a0 s1 len1 cap1 s2 len2 cap2 W w0 (deeds_of k1) (deeds_of k2)).mono fun e W' ⟨he, bel⟩ => ?_
  subst he
  exact ⟨_, rfl, _, _, _, [], _, [], hW', trodAll_mk1 (shut_bool Try.underlying4 _), (trodAll_cons_mk (shut_int Try.underlying3 w0) (trodAll_cons_mk (Below.trod laidOut (by kernel_rfl) (of_decide_eq_true (by kernel_rfl)) k1 bel lt1) (trodAll_cons_mk (Below.trod laidOut (by kernel_rfl) (of_decide_eq_true (by kernel_rfl)) k2 bel lt2) trodAll_mk0))), rfl, bel.frame _, fun h => by cases h⟩

theorem over : Rows.permitTwinRow.holds Try.pinned (OpenSpec.ofChange Rows.permitTwinSpec) :=
  OpenClaim.holds_of_wide 6 Try.f6 rfl rfl rfl rfl rfl rfl rfl ⟨rfl, rfl, rfl, rfl, rfl⟩ rfl rfl rfl rfl rfl (by kernel_rfl) Try.func6 (by kernel_rfl)
    (of_decide_eq_true (by kernel_rfl)) (by unfold Func.isWrapper; first | (rw [if_pos (by decide +kernel)]; kernel_rfl) | (rw [if_neg (by decide +kernel)]; exact ⟨rfl, rfl⟩))
    (fun os started H enc _ => lifted os started H enc)

end permitTwin
/-- The statement. -/
theorem permitTwin_holds : Rows.PermitTwinSaid := permitTwin.over
end Go.Proofs.Ytdphbigkgdeecaa
