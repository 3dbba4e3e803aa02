/-
  For every input the statement ClockDues answers true: whether any deadline is due, and the first of any.
  Conditions: none.
-/
import Derived.Test.YtfgdajbjcbhaaaaClockUp
import Derived.WalkKit
import Derived.ProofKit
import Derived.OpenShut
import Derived.LoopTactic
import Derived.Deep.QuietTactic
import Derived.BigQuiet
namespace Go.Proofs.Ytfgdajbjcbhaaaa
namespace clockDues
open Go.ChangeShapes Go.WideShapes Go.ChangeAt Go.RowKit
set_option linter.unusedVariables false

theorem below_of {W w : World} (h : Kept (fun k => W.heap.size ≤ k) W w) : Below W.heap.size W w := h.below (Nat.le_refl _) (fun _ h => h)

theorem walk (a0 : Int) (w0 : (Lit.int .i64 a0).wf = true) (xs : List Int) (s : Option Addr) (c : Nat) (w : World) (hN : Nums w w.heap.size s xs) (hin : ∀ x ∈ xs, -9223372036854775808 ≤ x ∧ x ≤ 9223372036854775807) :
    Calls Try.prog 4 #[.int .i64 a0, .slice s xs.length c] w fun e w' => e = .returned (.bool true) ∧ Below w.heap.size w w' := by
  have b0 := bounds_i64 w0
  clear w0
  have hm := hN.1
  unfold maxLen at hm
  by_cases hbig : 1000 < xs.length
  · have hbig2 : (1000 : Int) < (xs.length : Int) := by omega
    go_enter Try.func4, Try.ntmps4
    go_wp2_with fail
    refine (clockUp_any _).mono ?_
    rintro e w1 ⟨rfl, hk⟩
    go_wp2_with fail
    go_ret
    exact ⟨rfl, below_of hk⟩
  have hbig2 : ¬ ((1000 : Int) < (xs.length : Int)) := by omega
  obtain ⟨i0, hi, hz0, hz1, hz2⟩ := info_parts Try.infoNum
  have HI := Lib.hid hi; clear hi
  have HZ0 := Lib.hid hz0; clear hz0
  have HZ1 := Lib.hid hz1; clear hz1
  have HZ2 := Lib.hid hz2; clear hz2
  have HN := Lib.hid hN; clear hN
  have HIN := Lib.hid hin; clear hin
  go_enter Try.func4, Try.ntmps4
  go_wp2_with fail
  refine (clockUp_any _).mono ?_
  rintro e w1 ⟨rfl, hk⟩
  have HK := Lib.hid hk; clear hk
  go_wp2_with fail
  go_loopw [6, 7] (fun f i wr => ∃ k : Nat, i = .int .i64 k ∧ f = .int .i64 (firstF (xs.take k)) ∧ k ≤ xs.length ∧ Kept (fun k => w.heap.size ≤ k) w wr) (fun _ i _ => xs.length - (intOf i).toNat)
  case atStart => exact ⟨0, rfl, rfl, by omega, HK.out⟩
  case round =>
    clear HK
    obtain ⟨k, rfl, rfl, hk, hK⟩ := hrel
    have hlo := firstF_lo (xs.take k)
    have hbel := below_of hK
    have HK := Lib.hid hK; clear hK
    by_cases hk1 : k < xs.length
    · have hk2 : (k : Int) < (xs.length : Int) := by omega
      obtain ⟨g, off, rfl, hg, hcell⟩ := HN.out.2 k hk1
      rw [← hbel.cell (p := ⟨g, off + k, none⟩) hg] at hcell
      have hst := firstF_take xs k hk1
      generalize hf : firstF (xs.take k) = f at *
      generalize hx : xs.getD k 0 = x at *
      have HST := Lib.hid hst; clear hst hf hx hbel
      rcases (by omega : x < 0 ∨ (0 ≤ x ∧ x ≤ a0) ∨ (0 ≤ x ∧ a0 < x)) with hx | ⟨hx, hx2⟩ | ⟨hx, hx2⟩
      · have h4 : decide (0 ≤ x) = false := by simpa using hx
        have hd : dueF a0 x = false := by simp [dueF, h4]
        have HD := Lib.hid hd; clear hd
        go_wp2_with fail
        go_quiet ((go_at_call 10; exact Calls.quiet_of_same (due_back a0 x _ _ HD.out)))
        go_wp2_with fail
        go_roundw
        case rel => exact ⟨k + 1, by go_num, by rw [HST.out, nearF, if_neg (by omega)], by omega, HK.out.drewN _⟩
        case measure => simp [intOf]; omega
      all_goals
        rcases (by omega : f = -1 ∨ (¬ f = -1 ∧ x < f) ∨ (¬ f = -1 ∧ f ≤ x)) with hf | ⟨hf, hf2⟩ | ⟨hf, hf2⟩
        all_goals
          first
          | (have hd : dueF a0 x = true := by simp [dueF, hx, hx2]
             have HD := Lib.hid hd; clear hd)
          | (have hd : dueF a0 x = false := by simp [dueF, hx, hx2]
             have h4 : decide (x ≤ a0) = false := by simpa using hx2
             have HD := Lib.hid hd; clear hd)
          first
          | subst hf
          | (have h5 : decide (x < f) = false := by simpa using hf2)
          | skip
          go_wp2_with fail
          go_quiet ((go_at_call 10; exact Calls.quiet_of_same (due_back a0 x _ _ HD.out)))
          go_wp2_with fail
          go_roundw
          case rel => exact ⟨k + 1, by go_num, by rw [HST.out, nearF]; first | rw [if_pos (by omega)] | rw [if_neg (by omega)], by omega, HK.out.drewN _⟩
          case measure => simp [intOf]; omega
    · have hk2 : ¬ ((k : Int) < (xs.length : Int)) := by omega
      have htk : xs.take k = xs := List.take_of_length_le (by omega)
      rw [htk]
      clear htk hlo
      generalize hf : firstF xs = f at *
      have HF := Lib.hid hf; clear hf
      go_wp2_with (at_builtin; refine wpList_append_nums _ rfl (.tmp 63) (.tmp 64) 29 rfl 0 2 i0 (.int .i64 0) 8 Try.underlying29 HI.out HZ0.out HZ1.out HZ2.out rfl _ 0 [] rfl ?c1 w.heap.size s c xs rfl ?c2 ?c3 ?c4 ?c5 ?_)
      case c1 => exact World.ownsRow_lit _ #[] 0 (Nat.zero_le _) (Nat.zero_le _) rfl
      case c2 => exact (HN.out.below hbel (Nat.le_refl _)).keep fun p hp => Below.cell ((Below.refl w.heap.size wr).alloc hbel.size _) hp
      case c3 => unfold maxLen; omega
      case c4 => omega
      intro v' w2 hown hg hv'
      obtain ⟨A, c', rfl, hN2⟩ := Nums.made (xs := xs) hown (by simp) (by simp) (by unfold maxLen; omega)
      have hb2 : Kept (fun k => w.heap.size ≤ k) w w2 := (HK.out.alloc _).grown hg (fun k _ e => by simp [Value.ownBlock] at e; have := hbel.size; omega)
      have HB2 := Lib.hid hb2
      have HN2 := Lib.hid hN2
      clear hown hg hv' HK hbel hb2 hN2
      go_wp2_with fail
      refine (first_any _ c' _ HN2.out rfl).mono ?_
      rintro e wx ⟨rfl, rfl⟩
      rw [HF.out]
      go_wp2_with fail
      go_loopw [10] (fun i wr => ∃ k : Nat, i = .int .i64 k ∧ k ≤ xs.length ∧ Kept (fun _ => False) w2 wr) (fun i _ => xs.length - (intOf i).toNat)
      case atStart => exact ⟨0, rfl, by omega, Kept.refl _ _⟩
      case round =>
        obtain ⟨j, rfl, hj, hK⟩ := hrel
        have HK := Lib.hid hK; clear hK
        by_cases hj1 : j < xs.length
        · have hj2 : (j : Int) < (xs.length : Int) := by omega
          obtain ⟨g, off, rfl, hg, hcell⟩ := HN.out.2 j hj1
          obtain ⟨g2, off2, rfl, hg2, hcell2⟩ := HN2.out.2 j hj1
          rw [← (below_of HB2.out).cell (p := ⟨g, off + j, none⟩) hg, ← HK.out.cell (p := ⟨g, off + j, none⟩) (Nat.lt_of_lt_of_le hg HB2.out.size) (fun f => f)] at hcell
          rw [← HK.out.cell (p := ⟨g2, off2 + j, none⟩) hg2 (fun f => f)] at hcell2
          generalize xs.getD j 0 = x at *
          go_wp2_with fail
          go_quiet (fail)
          go_wp2_with fail
          go_roundw
          case rel => exact ⟨j + 1, by go_num, by omega, HK.out.drewN _⟩
          case measure => simp [intOf]; omega
        · have hj2 : ¬ ((j : Int) < (xs.length : Int)) := by omega
          go_wp2_with fail
          go_ret
          exact ⟨rfl, below_of (HB2.out.trans HK.out (fun _ _ f => f.elim))⟩

theorem own : ownKnob Try.prog.godebug = none := by kernel_rfl
theorem laidOut : laidOutB Try.prog = true := by kernel_rfl

set_option maxRecDepth 100000 in
theorem lifted (os : Os) (started : os.Started) (H : Type) (enc : TypeId × Value → H) :
    ReturnsInHanded {} Try.checked os 4 .any (Rows.clockDuesSpec.pre6 enc Try.prog Try.f4 Rows.clockDuesRow.domain false) (Rows.clockDuesSpec.post enc Try.prog Try.f4 false true false false) := by
  refine returnsInHanded_of_change (C := Try.checked) own started (by kernel_rfl) Try.func4
    (ChangeSpec.witness6 (enc := enc) (C := Try.checked) false ⟨#[], #[.int .i64 0, .slice none 0 0], []⟩ 8 (by kernel_rfl) (by kernel_rfl) (by kernel_rfl) (by kernel_rfl)) ?_
  intro W base args ds gs before hval0 hW hcnd _
  have hval : ∀ (j : Nat) t v, Try.f4.params[j]? = some t → args[j]? = some v → Value.okWide Try.prog W .any base t v := hval0
  have hW' := hW
  obtain ⟨p, q, hA0, hV, rfl, hfz, hnd⟩ := hW
  have hA : DataW.TrodAll enc Try.prog W 0 (fun _ => true) true Try.f4.params.toList args.toList ds p := hA0
  rw [Try.params4] at hA hval
  obtain ⟨v0, vs0, d0, ds0, p0, q0, hargs, rfl, rfl, h0, r0⟩ := trodAll_cons hA
  obtain ⟨v1, vs1, d1, ds1, p1, q1, rfl, rfl, rfl, h1, r1⟩ := trodAll_cons r0
  obtain ⟨rfl, rfl, rfl⟩ := trodAll_nil r1
  obtain rfl : args = #[v0, v1] := by cases args; simp_all
  obtain ⟨rfl, rfl⟩ := trodVars_none hV
  obtain ⟨a0, rfl, rfl, rfl, w0⟩ := open_int Try.underlying2 (hval 0 2 v0 rfl rfl) h0
  have k1 := h1
  have lt1 : ∀ x ∈ p1, x.block < W.heap.size := by obtain ⟨m, hm⟩ := k1; exact DataW.trod_lt m _ _ _ hm
  obtain ⟨s1, len1, cap1, rfl⟩ := okWide_slice Try.underlying29 (hval 1 29 v1 rfl rfl)
  obtain ⟨xs1, rfl, hx1, hi1⟩ := nums_of k1
  clear hA0 hval0
  refine (walk a0 w0 xs1 s1 cap1 W hx1 hi1).mono fun e W' ⟨he, bel⟩ => ?_
  subst he
  exact ⟨_, rfl, _, _, _, [], _, [], hW', trodAll_mk1 (shut_bool Try.underlying4 _), (trodAll_cons_mk (shut_int Try.underlying2 w0) (trodAll_cons_mk (Below.trod laidOut (by kernel_rfl) (of_decide_eq_true (by kernel_rfl)) k1 bel lt1) trodAll_mk0)), rfl, bel.frame _, fun h => by cases h⟩

theorem over : Rows.clockDuesRow.holds Try.pinned (OpenSpec.ofChange Rows.clockDuesSpec) :=
  OpenClaim.holds_of_wide 4 Try.f4 rfl rfl rfl rfl rfl rfl rfl ⟨rfl, rfl, rfl, rfl, rfl⟩ rfl rfl rfl rfl rfl (by kernel_rfl) Try.func4 (by kernel_rfl)
    (of_decide_eq_true (by kernel_rfl)) (by unfold Func.isWrapper; first | (rw [if_pos (by decide +kernel)]; kernel_rfl) | (rw [if_neg (by decide +kernel)]; exact ⟨rfl, rfl⟩))
    (fun os started H enc _ => lifted os started H enc)

end clockDues
/-- The statement. -/
theorem clockDues_holds : Rows.ClockDuesSaid := clockDues.over
end Go.Proofs.Ytfgdajbjcbhaaaa
