/-
  For every input the statement PermitPlays answers true: whatever is done, one behind the other, threads stand as the document's model says.
  Conditions: none.
-/
import Derived.Test.YtdphbigkgdeecaaScript3
import Derived.Test.YtdphbigkgdeecaaAlike
import Derived.WalkKit
import Derived.ProofKit
import Derived.OpenShut
import Derived.LoopTactic
namespace Go.Proofs.Ytdphbigkgdeecaa
namespace permitPlays
open Go.ChangeShapes Go.WideShapes Go.ChangeAt Go.RowKit
set_option linter.unusedVariables false

set_option maxHeartbeats 2000000 in
set_option maxRecDepth 100000 in
theorem walk (a0 : Int) (s : Option Addr) (len cap : Nat) (w : World) (w0 : (Lit.int .i64 a0).wf = true) (hs : ∃ xs, xs.length = len ∧ Elems w w.heap.size s 3 Dd.cells xs ∧ ∀ x ∈ xs, Dd.In x) :
    Calls Try.prog 3 #[.int .i64 a0, .slice s len cap] w fun e w' => e = .returned (.bool true) ∧ Below w.heap.size w w' := by
  have b0 := bounds_i64 w0
  clear w0
  have he := codes_eq
  obtain ⟨xs, rfl, hx, hin⟩ := hs
  have hxm := hx.1
  unfold maxLen at hxm
  have HX := Lib.hid hx; clear hx
  have HIN := Lib.hid hin; clear hin
  by_cases h1 : a0 < 1
  · go_enter Try.func3, Try.ntmps3
    go_wp2_with fail
    refine (up_any _).mono ?_
    rintro e w1 ⟨rfl, hk⟩
    go_wp2_with fail
    refine (new_out a0 w1 (.inl h1)).mono ?_
    rintro e w2 ⟨rfl, rfl⟩
    go_wp2_with fail
    go_ret
    exact ⟨rfl, hk.below (Nat.le_refl _) (fun _ f => f.elim)⟩
  by_cases h2 : 8 < a0
  · go_enter Try.func3, Try.ntmps3
    go_wp2_with fail
    refine (up_any _).mono ?_
    rintro e w1 ⟨rfl, hk⟩
    go_wp2_with fail
    refine (new_out a0 w1 (.inr h2)).mono ?_
    rintro e w2 ⟨rfl, rfl⟩
    go_wp2_with fail
    go_ret
    exact ⟨rfl, hk.below (Nat.le_refl _) (fun _ f => f.elim)⟩
  obtain ⟨n, rfl⟩ : ∃ n : Nat, a0 = n := ⟨a0.toNat, by omega⟩
  have hn1 : 1 ≤ n := by omega
  have hn2 : n ≤ 8 := by omega
  have q1 : ((n : Int) < 1) = False := by simp; omega
  have q2 : (8 < (n : Int)) = False := by simp; omega
  clear h1 h2
  obtain ⟨i0, hi, hz0, hz1, hz2⟩ := info_parts Try.infoPark
  have HI := Lib.hid hi; clear hi
  have HZ0 := Lib.hid hz0; clear hz0
  have HZ1 := Lib.hid hz1; clear hz1
  have HZ2 := Lib.hid hz2; clear hz2
  go_enter Try.func3, Try.ntmps3
  go_wp2_with fail
  refine (up_any _).mono ?_
  rintro e w1 ⟨rfl, hk⟩
  go_wp2_with fail
  refine (new_in n w1 hn1 hn2).mono ?_
  rintro e w2 ⟨b, g, rfl, hb, hg, hT, hk2⟩
  have hK2 := hk.trans hk2 (fun _ _ f => f)
  have HK2 := Lib.hid hK2
  have HT := Lib.hid hT
  have hs1 := hk.size
  have hs2 := hk2.size
  clear hK2 hk hk2 hT
  go_wp2_with (at_make; refine wpList_make_full _ rfl (.tmp 38) (.tmp 38) 31 rfl 0 41 i0 (.agg #[.bool false, .bool false, .bool false, .int .i64 0]) 4 Try.underlying31 HI.out HZ0.out HZ1.out .i64 .i64 n n n rfl rfl rfl rfl ?c1 ?c2 (Nat.zero_le _) ?_)
  case c1 => rw [HZ2.out]; omega
  case c2 => unfold maxLen; omega
  intro w3 hown hgrow
  have hruns := Runs.made (W := w) HT.out (HK2.out.mono (fun _ _ f => f.elim)) (by omega) (by omega) hown hgrow hn2
  have HRUNS := Lib.hid hruns
  clear hruns hown hgrow
  go_wp2_with fail
  go_loopw [9] (fun i wr => ∃ k : Nat, i = .int .i64 k ∧ k ≤ xs.length ∧ k ≤ 100 ∧ Runs w wr b g n w3.heap.size w2.heap.size n (run (fresh n) (xs.take k))) (fun i _ => 100 - (intOf i).toNat)
  case atStart => exact ⟨0, rfl, by omega, by omega, HRUNS.out⟩
  case round =>
    clear HRUNS
    obtain ⟨k, rfl, hk1, hk2, hr⟩ := hrel
    generalize w3.heap.size = mb at *
    generalize w2.heap.size = mg at *
    by_cases hk3 : k < xs.length
    · by_cases hk4 : k < 100
      · have hk5 : (k : Int) < 100 := by omega
        obtain ⟨x, hx⟩ : ∃ x, xs[k]? = some x := ⟨_, List.getElem?_eq_getElem hk3⟩
        have hxi := HIN.out x (List.mem_of_getElem? hx)
        obtain ⟨sg, off, rfl, hsg, c0, c1, c2⟩ := deed_at (HX.out.kept hr.2.1 (Nat.le_refl _) (fun k h1 h2 => by omega)) hx
        have hnow := fresh_now n (xs.take k)
        have hnext := run_next (fresh n) xs k x hx
        have HXI := Lib.hid hxi; clear hxi
        have HNX := Lib.hid hnext; clear hnext
        have HR := Lib.hid hr; clear hr
        have HXX := Lib.hid hx; clear hx
        go_wp2_with fail
        refine (one_any HR.out.1 hnow.1 hnow.2 HXI.out.t HXI.out.n.hi).mono ?_
        rintro e w4 hd
        have HR4 := Lib.hid (HR.out.done hd)
        obtain ⟨rfl, _, _⟩ := hd
        clear c0 c1 c2
        go_wp2_with fail
        refine (alike_any HR4.out.1).mono ?_
        rintro e w5 ⟨rfl, hk6⟩
        have HK6 := Lib.hid hk6; clear hk6
        go_wp2_with fail
        go_roundw
        case rel => exact ⟨k + 1, by go_num, by omega, by omega, by rw [HNX.out]; exact HR4.out.off HK6.out⟩
        case measure => simp [intOf]; omega
      · have hk5 : ¬ ((k : Int) < 100) := by omega
        go_wp2_with fail
        go_ret
        exact ⟨rfl, hr.below⟩
    · go_wp2_with fail
      go_ret
      exact ⟨rfl, hr.below⟩

theorem own : ownKnob Try.prog.godebug = none := by kernel_rfl
theorem laidOut : laidOutB Try.prog = true := by kernel_rfl

set_option maxRecDepth 100000 in
theorem lifted (os : Os) (started : os.Started) (H : Type) (enc : TypeId × Value → H) :
    ReturnsInHanded {} Try.checked os 3 .any (Rows.permitPlaysSpec.pre6 enc Try.prog Try.f3 Rows.permitPlaysRow.domain false) (Rows.permitPlaysSpec.post enc Try.prog Try.f3 false true false false) := by
  refine returnsInHanded_of_change (C := Try.checked) own started (by kernel_rfl) Try.func3
    (ChangeSpec.witness6 (enc := enc) (C := Try.checked) false ⟨#[], #[.int .i64 0, .slice none 0 0], []⟩ 8 (by kernel_rfl) (by kernel_rfl) (by kernel_rfl) (by kernel_rfl)) ?_
  intro W base args ds gs before hval0 hW hcnd _
  have hval : ∀ (j : Nat) t v, Try.f3.params[j]? = some t → args[j]? = some v → Value.okWide Try.prog W .any base t v := hval0
  have hW' := hW
  obtain ⟨p, q, hA0, hV, rfl, hfz, hnd⟩ := hW
  have hA : DataW.TrodAll enc Try.prog W 0 (fun _ => true) true Try.f3.params.toList args.toList ds p := hA0
  rw [Try.params3] at hA hval
  obtain ⟨v0, vs0, d0, ds0, p0, q0, hargs, rfl, rfl, h0, r0⟩ := trodAll_cons hA
  obtain ⟨v1, vs1, d1, ds1, p1, q1, rfl, rfl, rfl, h1, r1⟩ := trodAll_cons r0
  obtain ⟨rfl, rfl, rfl⟩ := trodAll_nil r1
  obtain rfl : args = #[v0, v1] := by cases args; simp_all
  obtain ⟨rfl, rfl⟩ := trodVars_none hV
  obtain ⟨a0, rfl, rfl, rfl, w0⟩ := open_int Try.underlying3 (hval 0 3 v0 rfl rfl) h0
  have k1 := h1
  have lt1 : ∀ x ∈ p1, x.block < W.heap.size := by obtain ⟨m, hm⟩ := k1; exact DataW.trod_lt m _ _ _ hm
  obtain ⟨s1, len1, cap1, rfl⟩ := okWide_slice Try.underlying22 (hval 1 22 v1 rfl rfl)
  clear hA0 hval0
  refine (walk a0 s1 len1 cap1 W w0 (deeds_of k1)).mono fun e W' ⟨he, bel⟩ => ?_
  subst he
  exact ⟨_, rfl, _, _, _, [], _, [], hW', trodAll_mk1 (shut_bool Try.underlying4 _), (trodAll_cons_mk (shut_int Try.underlying3 w0) (trodAll_cons_mk (Below.trod laidOut (by kernel_rfl) (of_decide_eq_true (by kernel_rfl)) k1 bel lt1) trodAll_mk0)), rfl, bel.frame _, fun h => by cases h⟩

theorem over : Rows.permitPlaysRow.holds Try.pinned (OpenSpec.ofChange Rows.permitPlaysSpec) :=
  OpenClaim.holds_of_wide 3 Try.f3 rfl rfl rfl rfl rfl rfl rfl ⟨rfl, rfl, rfl, rfl, rfl⟩ rfl rfl rfl rfl rfl (by kernel_rfl) Try.func3 (by kernel_rfl)
    (of_decide_eq_true (by kernel_rfl)) (by unfold Func.isWrapper; first | (rw [if_pos (by decide +kernel)]; kernel_rfl) | (rw [if_neg (by decide +kernel)]; exact ⟨rfl, rfl⟩))
    (fun os started H enc _ => lifted os started H enc)

end permitPlays
/-- The statement. -/
theorem permitPlays_holds : Rows.PermitPlaysSaid := permitPlays.over
end Go.Proofs.Ytdphbigkgdeecaa
