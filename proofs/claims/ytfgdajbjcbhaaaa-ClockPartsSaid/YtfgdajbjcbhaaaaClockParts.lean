/-
  For every input the statement ClockParts answers true: the first of two lists is the first of their firsts.
  Conditions: none.
-/
import Derived.Test.YtfgdajbjcbhaaaaClockUp
import Derived.WalkKit
import Derived.ProofKit
import Derived.OpenShut
import Derived.LoopTactic
import Derived.Deep.QuietTactic
import Derived.BigQuiet
namespace Go.Proofs.Ytfgdajbjcbhaaaa
namespace clockParts
open Go.ChangeShapes Go.WideShapes Go.ChangeAt Go.RowKit
set_option linter.unusedVariables false

theorem below_of {W w : World} (h : Kept (fun k => W.heap.size ≤ k) W w) : Below W.heap.size W w := h.below (Nat.le_refl _) (fun _ h => h)

set_option maxHeartbeats 1000000 in
theorem walk (xs ys : List Int) (s t : Option Addr) (c d : Nat) (w : World) (hN : Nums w w.heap.size s xs) (hM : Nums w w.heap.size t ys) :
    Calls Try.prog 6 #[.slice s xs.length c, .slice t ys.length d] w fun e w' => e = .returned (.bool true) ∧ Below w.heap.size w w' := by
  have hm := hN.1
  have hm2 := hM.1
  unfold maxLen at hm hm2
  by_cases hbig : 1000 < xs.length
  · have hbig2 : (1000 : Int) < (xs.length : Int) := by omega
    go_enter Try.func6, Try.ntmps6
    go_wp2_with fail
    refine (clockUp_any _).mono ?_
    rintro e w1 ⟨rfl, hk⟩
    go_wp2_with fail
    go_ret
    exact ⟨rfl, below_of hk⟩
  have hbig2 : ¬ ((1000 : Int) < (xs.length : Int)) := by omega
  by_cases hbig3 : 1000 < ys.length
  · have hbig4 : (1000 : Int) < (ys.length : Int) := by omega
    go_enter Try.func6, Try.ntmps6
    go_wp2_with fail
    refine (clockUp_any _).mono ?_
    rintro e w1 ⟨rfl, hk⟩
    go_wp2_with fail
    go_ret
    exact ⟨rfl, below_of hk⟩
  have hbig4 : decide ((1000 : Int) < (ys.length : Int)) = false := decide_eq_false (by omega)
  obtain ⟨i0, hi, hz0, hz1, hz2⟩ := info_parts Try.infoNum
  have HI := Lib.hid hi; clear hi
  have HZ0 := Lib.hid hz0; clear hz0
  have HZ1 := Lib.hid hz1; clear hz1
  have HZ2 := Lib.hid hz2; clear hz2
  have HN := Lib.hid hN; clear hN
  have HM := Lib.hid hM; clear hM
  go_enter Try.func6, Try.ntmps6
  go_wp2_with fail
  refine (clockUp_any _).mono ?_
  rintro e w1 ⟨rfl, hk⟩
  have HK := Lib.hid hk; clear hk
  have hbel := below_of HK.out
  go_wp2_with (at_builtin; refine wpList_append_nums _ rfl (.tmp 17) (.tmp 18) 29 rfl w.heap.size 2 i0 (.int .i64 0) 8 Try.underlying29 HI.out HZ0.out HZ1.out HZ2.out rfl _ 0 [] rfl ?c1 w.heap.size s c xs rfl ?c2 ?c3 ?c4 ?c5 ?_)
  case c1 => exact World.ownsRow_lit _ #[] 0 hbel.size (Nat.zero_le _) rfl
  case c2 => exact (HN.out.below hbel (Nat.le_refl _)).keep fun p hp => Below.cell ((Below.refl w.heap.size w1).alloc hbel.size _) hp
  case c3 => unfold maxLen; omega
  case c4 => omega
  case c5 => exact Nat.le_trans hbel.size (by simp)
  intro v' w2 hown hg hv'
  have hb2 : Kept (fun k => w.heap.size ≤ k) w w2 := (HK.out.alloc _).grown hg (fun k _ e => by simp [Value.ownBlock] at e; have := hbel.size; omega)
  have hb2' := below_of hb2
  have HB2 := Lib.hid hb2
  have HO : Hid (w2.ownsRow w.heap.size 2 1 v' xs.length (xs.map (Value.int .i64))) := Lib.hid hown
  clear hown hg hv' HK hbel hb2
  go_wp2_with (at_builtin; refine wpList_append_nums _ rfl (.tmp 19) (.tmp 20) 29 rfl w.heap.size 2 i0 (.int .i64 0) 8 Try.underlying29 HI.out HZ0.out HZ1.out HZ2.out rfl v' xs.length (xs.map (Value.int .i64)) rfl ?c10 w.heap.size t d ys rfl ?c6 ?c7 ?c8 ?c9 ?_)
  case c10 => exact HO.out
  case c6 => exact HM.out.below hb2' (Nat.le_refl _)
  case c7 => unfold maxLen; omega
  case c8 => omega
  case c9 => exact hb2'.size
  intro v2 w3 hown hg hv'
  have hl := HO.out.lt
  obtain ⟨A, c', rfl, hN3⟩ := Nums.made (xs := xs ++ ys) hown (by simp) (by simp) (by unfold maxLen; simp; omega)
  have hb3 : Kept (fun k => w.heap.size ≤ k) w w3 := HB2.out.grown hg (fun k hk e => by have := hl k e; omega)
  have hb3' := below_of hb3
  have HB3 := Lib.hid hb3
  have HN3 := Lib.hid hN3
  clear hown hg hv' hb3 hN3 HO hl hb2'
  go_wp2_with fail
  refine (first_any _ c' _ HN3.out (by simp)).mono ?_
  rintro e wx ⟨rfl, rfl⟩
  rw [firstF_append]
  go_wp2_with fail
  refine (first_any _ c _ (HN.out.below hb3' (Nat.le_refl _)) rfl).mono ?_
  rintro e wx ⟨rfl, rfl⟩
  go_wp2_with fail
  refine (first_any _ d _ (HM.out.below hb3' (Nat.le_refl _)) rfl).mono ?_
  rintro e wx ⟨rfl, rfl⟩
  have hN : Nums (w3.alloc (.cells #[.int .i64 (firstF xs), .int .i64 (firstF ys)] 2)) (w3.heap.size + 1) (some ⟨w3.heap.size, 0, none⟩) [firstF xs, firstF ys] := by
    refine ⟨by simp [maxLen], fun i hi => ⟨_, 0, rfl, by omega, ?_⟩⟩
    rw [cell_at _ _ _ _ _ (heap_alloc_new w3 _)]
    match i, hi with
    | 0, _ => rfl
    | 1, _ => rfl
  go_wp2_with fail
  refine (first_any (xs := [firstF xs, firstF ys]) 2 2 _ hN rfl).mono ?_
  rintro e wx ⟨rfl, rfl⟩
  go_wp2_with fail
  go_ret
  exact ⟨rfl, below_of (HB3.out.alloc _)⟩

theorem own : ownKnob Try.prog.godebug = none := by kernel_rfl
theorem laidOut : laidOutB Try.prog = true := by kernel_rfl

set_option maxRecDepth 100000 in
theorem lifted (os : Os) (started : os.Started) (H : Type) (enc : TypeId × Value → H) :
    ReturnsInHanded {} Try.checked os 6 .any (Rows.clockPartsSpec.pre6 enc Try.prog Try.f6 Rows.clockPartsRow.domain false) (Rows.clockPartsSpec.post enc Try.prog Try.f6 false true false false) := by
  refine returnsInHanded_of_change (C := Try.checked) own started (by kernel_rfl) Try.func6
    (ChangeSpec.witness6 (enc := enc) (C := Try.checked) false ⟨#[], #[.slice none 0 0, .slice none 0 0], []⟩ 8 (by kernel_rfl) (by kernel_rfl) (by kernel_rfl) (by kernel_rfl)) ?_
  intro W base args ds gs before hval0 hW hcnd _
  have hval : ∀ (j : Nat) t v, Try.f6.params[j]? = some t → args[j]? = some v → Value.okWide Try.prog W .any base t v := hval0
  have hW' := hW
  obtain ⟨p, q, hA0, hV, rfl, hfz, hnd⟩ := hW
  have hA : DataW.TrodAll enc Try.prog W 0 (fun _ => true) true Try.f6.params.toList args.toList ds p := hA0
  rw [Try.params6] at hA hval
  obtain ⟨v0, vs0, d0, ds0, p0, q0, hargs, rfl, rfl, h0, r0⟩ := trodAll_cons hA
  obtain ⟨v1, vs1, d1, ds1, p1, q1, rfl, rfl, rfl, h1, r1⟩ := trodAll_cons r0
  obtain ⟨rfl, rfl, rfl⟩ := trodAll_nil r1
  obtain rfl : args = #[v0, v1] := by cases args; simp_all
  obtain ⟨rfl, rfl⟩ := trodVars_none hV
  have k0 := h0
  have lt0 : ∀ x ∈ p0, x.block < W.heap.size := by obtain ⟨m, hm⟩ := k0; exact DataW.trod_lt m _ _ _ hm
  obtain ⟨s0, len0, cap0, rfl⟩ := okWide_slice Try.underlying29 (hval 0 29 v0 rfl rfl)
  obtain ⟨xs0, rfl, hx0, hi0⟩ := nums_of k0
  have k1 := h1
  have lt1 : ∀ x ∈ p1, x.block < W.heap.size := by obtain ⟨m, hm⟩ := k1; exact DataW.trod_lt m _ _ _ hm
  obtain ⟨s1, len1, cap1, rfl⟩ := okWide_slice Try.underlying29 (hval 1 29 v1 rfl rfl)
  obtain ⟨xs1, rfl, hx1, hi1⟩ := nums_of k1
  clear hA0 hval0
  refine (walk xs0 xs1 s0 s1 cap0 cap1 W hx0 hx1).mono fun e W' ⟨he, bel⟩ => ?_
  subst he
  exact ⟨_, rfl, _, _, _, [], _, [], hW', trodAll_mk1 (shut_bool Try.underlying4 _), (trodAll_cons_mk (Below.trod laidOut (by kernel_rfl) (of_decide_eq_true (by kernel_rfl)) k0 bel lt0) (trodAll_cons_mk (Below.trod laidOut (by kernel_rfl) (of_decide_eq_true (by kernel_rfl)) k1 bel lt1) trodAll_mk0)), rfl, bel.frame _, fun h => by cases h⟩

theorem over : Rows.clockPartsRow.holds Try.pinned (OpenSpec.ofChange Rows.clockPartsSpec) :=
  OpenClaim.holds_of_wide 6 Try.f6 rfl rfl rfl rfl rfl rfl rfl ⟨rfl, rfl, rfl, rfl, rfl⟩ rfl rfl rfl rfl rfl (by kernel_rfl) Try.func6 (by kernel_rfl)
    (of_decide_eq_true (by kernel_rfl)) (by unfold Func.isWrapper; first | (rw [if_pos (by decide +kernel)]; kernel_rfl) | (rw [if_neg (by decide +kernel)]; exact ⟨rfl, rfl⟩))
    (fun os started H enc _ => lifted os started H enc)

end clockParts
/-- The statement. -/
theorem clockParts_holds : Rows.ClockPartsSaid := clockParts.over
end Go.Proofs.Ytfgdajbjcbhaaaa
