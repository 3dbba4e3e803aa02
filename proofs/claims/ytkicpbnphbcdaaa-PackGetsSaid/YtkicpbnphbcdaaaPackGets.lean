/-
  For every input the statement PackGets answers true: the script of any bytes, or what is amiss.
  Conditions: none.
-/
import Derived.Test.YtkicpbnphbcdaaaRefGet
import Derived.WalkKit
import Derived.ProofKit
import Derived.OpenShut
namespace Go.Proofs.Ytkicpbnphbcdaaa
namespace packGets
open Go.ChangeShapes Go.WideShapes Go.ChangeAt Go.RowKit
set_option linter.unusedVariables false

/-- What Get leaves, with the number of its error. -/
theorem got {w w' : World} {bs : List Nat} {e : Ending} (h : GetOut w bs e w') :
    ∃ (y : Sc) (gv : Value), e = .returned (.tuple #[y.agg, gv]) ∧ ((codeB bs = 0 ∧ gv = .nilIface) ∨ ∃ c : Nat, 1 ≤ c ∧ c ≤ 8 ∧ codeB bs = (c : Int) ∧ gv = .iface 43 (.int .i64 (c : Int))) ∧ partsOf y = gotP bs ∧ Lies w' w'.heap.size y ∧ Kept (fun _ => False) w w' := by
  by_cases h1 : (scP byteTok (some bs)).2 = some []
  · obtain ⟨p, hp⟩ : ∃ p, (scP byteTok (some bs)).1 = p := ⟨_, rfl⟩
    have hsc : scP byteTok (some bs) = (p, some []) := Prod.ext hp h1
    obtain ⟨q1, q2⟩ := codeB_yes hsc
    have h2 := h.2.1 h1
    have h3 := h.2.2.1 h1
    have h4 := h.2.2.2 h1
    rw [hp] at h2 h3 h4
    cases hl : largeP p
    · cases hg : goodP p
      · obtain ⟨rfl, hk⟩ := h3 hl hg
        exact ⟨zeroSc, _, rfl, .inr ⟨1, by decide, by decide, by rw [q1, hl, hg]; rfl, rfl⟩, (gotP_no (by rw [q2, hl, hg]; rfl)).symm, (owned_none 0 _).lies, hk⟩
      · obtain ⟨y, rfl, hy, how, hk⟩ := h4 hl hg
        exact ⟨y, _, rfl, .inl ⟨by rw [q1, hl, hg]; rfl, rfl⟩, by rw [hy, gotP_yes hsc (by rw [q2, hl, hg]; rfl)], how.lies, hk⟩
    · obtain ⟨rfl, hk⟩ := h2 hl
      exact ⟨zeroSc, _, rfl, .inr ⟨8, by decide, by decide, by rw [q1, hl]; rfl, rfl⟩, (gotP_no (by rw [q2, hl]; rfl)).symm, (owned_none 0 _).lies, hk⟩
  · obtain ⟨rfl, hk⟩ := h.1 h1
    have hn := codeB_no h1
    exact ⟨zeroSc, _, rfl, .inr ⟨2, by decide, by decide, hn.1, rfl⟩, (gotP_no hn.2).symm, (owned_none 0 _).lies, hk⟩

set_option maxHeartbeats 4000000 in
set_option maxRecDepth 100000 in
theorem walk (bs : List Nat) (s : Option Addr) (cap : Nat) (w : World) (hE : Elems w w.heap.size s 1 bC bs) (hb : ∀ b ∈ bs, b < 256) (hc : bs.length ≤ cap) :
    Calls Try.prog 4 #[.slice s bs.length cap] w fun e w' => e = .returned (.bool true) ∧ Below w.heap.size w w' := by
  have HE := Lib.hid (fun (w' : World) (hk : Kept (fun _ => False) w w') => hE.kept hk (Nat.le_refl _) (fun _ _ f => f))
  have HFIN := Lib.hid (fun (w' : World) (hk : Kept (fun _ => False) w w') => hk.below (Nat.le_refl _) (fun _ f => f.elim))
  have HB := Lib.hid hb
  have HC := Lib.hid hc
  have hmax : bs.length ≤ 9223372036854775807 := by have := hE.1; unfold maxLen at this; exact this
  clear hE hb hc
  go_enter Try.func4, Try.ntmps4
  go_wp2_with fail
  refine (packUp_any _).mono ?_
  rintro e w1 ⟨rfl, hk1⟩
  have HK1 := Lib.hid hk1
  clear hk1
  by_cases h4 : (4000 : Int) < (bs.length : Int)
  · have HF := Lib.hid (HFIN.out w1 HK1.out)
    go_wp2_with fail
    go_ret
    exact ⟨rfl, HF.out⟩
  have h5 : bs.length ≤ 4000 := by omega
  have HG := Lib.hid (getTop_any (HE.out w1 HK1.out) HB.out HC.out HK1.out.size)
  go_wp2_with fail
  refine (HG.out).mono ?_
  rintro e w2 ho
  obtain ⟨y, gv, rfl, hcode, hy, hly, hk2⟩ := got ho
  obtain ⟨W3, hW3⟩ : ∃ W3, w2.alloc (.cells #[.slice y.os y.obs.length y.oc, .slice y.ps y.prs.length y.pc, .slice y.ks y.pis.length y.kc] 26) = W3 := ⟨_, rfl⟩
  have hb3 : W3.heap[w2.heap.size]? = some (.cells #[.slice y.os y.obs.length y.oc, .slice y.ps y.prs.length y.pc, .slice y.ks y.pis.length y.kc] 26 (0, 0)) := by rw [← hW3]; exact heap_alloc_new w2 _
  have hz3 : W3.heap.size = w2.heap.size + 1 := by rw [← hW3]; simp
  have hk23 : Kept (fun _ => False) w2 W3 := by rw [← hW3]; exact (Kept.refl _ w2).alloc _
  have HY := Lib.hid (hly.kept hk23 (Nat.le_refl _) (fun _ _ f => f))
  have HB3 := Lib.hid hb3
  have HZ3 := Lib.hid hz3
  have HK3 := Lib.hid ((HK1.out.trans hk2 (fun _ _ f => f)).trans hk23 (fun _ _ f => f))
  have HPY := Lib.hid hy
  have HCODE := Lib.hid hcode
  have HR := Lib.hid (refGet_any (HE.out W3 HK3.out) HB.out HC.out HK3.out.size h5)
  clear ho hcode hy hly hk2 hb3 hz3 hk23 HG
  unfold Sc.agg
  go_wp2_with fail
  refine (HR.out).mono ?_
  rintro e w4 ⟨z, k, rfl, hkc, hz, hlz, hk4⟩
  clear hW3
  obtain ⟨W5, hW5⟩ : ∃ W5, w4.alloc (.cells #[.slice z.os z.obs.length z.oc, .slice z.ps z.prs.length z.pc, .slice z.ks z.pis.length z.kc] 26) = W5 := ⟨_, rfl⟩
  have hb5 : W5.heap[w4.heap.size]? = some (.cells #[.slice z.os z.obs.length z.oc, .slice z.ps z.prs.length z.pc, .slice z.ks z.pis.length z.kc] 26 (0, 0)) := by rw [← hW5]; exact heap_alloc_new w4 _
  have hz5 : W5.heap.size = w4.heap.size + 1 := by rw [← hW5]; simp
  have hk45 : Kept (fun _ => False) w4 W5 := by rw [← hW5]; exact (Kept.refl _ w4).alloc _
  have hk35 : Kept (fun _ => False) W3 W5 := hk4.trans hk45 (fun _ _ f => f)
  have HSAME := Lib.hid (same_is (x := z) (y := y) (B := W5.heap.size) ((hlz.kept hk45 (Nat.le_refl _) (fun _ _ f => f)).more (by omega)) (((HY.out.kept hk35 (by have := HZ3.out; omega) (fun _ _ f => f))).more (by have := HZ3.out; have := hk35.size; omega)) (Nat.le_refl _) (HPY.out.trans hz.symm))
  obtain ⟨p0, p1, p2⟩ := res_cells hb5
  obtain ⟨q0, q1, q2⟩ := res_cells ((hk35.block w2.heap.size (by have := HZ3.out; omega) (fun f => f)).trans HB3.out)
  have HK5 := Lib.hid (HK3.out.trans hk35 (fun _ _ f => f))
  have HKC := Lib.hid hkc
  have hkn : (k = 0 ∧ gv = .nilIface) ∨ ∃ c : Nat, 1 ≤ c ∧ c ≤ 8 ∧ k = (c : Int) ∧ gv = .iface 43 (.int .i64 (c : Int)) := by
    rw [hkc]; exact HCODE.out
  clear hkc hz hlz hk4 hb5 hz5 hk45 hk35 HR HCODE HKC
  rcases hkn with ⟨rfl, rfl⟩ | ⟨c, hc1, hc8, rfl, rfl⟩
  · unfold Sc.agg
    go_wp2_with fail
    refine (code_nil _).mono ?_
    rintro e wx ⟨rfl, rfl⟩
    go_wp2_with fail
    refine (HSAME.out).mono ?_
    rintro e w6 ⟨rfl, hk6⟩
    have HF := Lib.hid (HFIN.out w6 (HK5.out.trans hk6 (fun _ _ f => f)))
    clear hk6
    go_wp2_with fail
    go_ret
    exact ⟨rfl, HF.out⟩
  · unfold Sc.agg
    have HC1 := Lib.hid hc1
    have HC8 := Lib.hid hc8
    clear hc1 hc8
    go_wp2_with fail
    refine (code_of c HC1.out HC8.out _).mono ?_
    rintro e wx ⟨rfl, rfl⟩
    go_wp2_with fail
    refine (HSAME.out).mono ?_
    rintro e w6 ⟨rfl, hk6⟩
    have HF := Lib.hid (HFIN.out w6 (HK5.out.trans hk6 (fun _ _ f => f)))
    clear hk6
    go_wp2_with fail
    go_ret
    exact ⟨rfl, HF.out⟩

theorem own : ownKnob Try.prog.godebug = none := by kernel_rfl
theorem laidOut : laidOutB Try.prog = true := by kernel_rfl

set_option maxRecDepth 100000 in
theorem lifted (os : Os) (started : os.Started) (H : Type) (enc : TypeId × Value → H) :
    ReturnsInHanded {} Try.checked os 4 .any (Rows.packGetsSpec.pre6 enc Try.prog Try.f4 Rows.packGetsRow.domain false) (Rows.packGetsSpec.post enc Try.prog Try.f4 false true false false) := by
  refine returnsInHanded_of_change (C := Try.checked) own started (by kernel_rfl) Try.func4
    (ChangeSpec.witness6 (enc := enc) (C := Try.checked) false ⟨#[], #[.slice none 0 0], []⟩ 8 (by kernel_rfl) (by kernel_rfl) (by kernel_rfl) (by kernel_rfl)) ?_
  intro W base args ds gs before hval0 hW hcnd _
  have hval : ∀ (j : Nat) t v, Try.f4.params[j]? = some t → args[j]? = some v → Value.okWide Try.prog W .any base t v := hval0
  have hW' := hW
  obtain ⟨p, q, hA0, hV, rfl, hfz, hnd⟩ := hW
  have hA : DataW.TrodAll enc Try.prog W 0 (fun _ => true) true Try.f4.params.toList args.toList ds p := hA0
  rw [Try.params4] at hA hval
  obtain ⟨v0, vs0, d0, ds0, p0, q0, hargs, rfl, rfl, h0, r0⟩ := trodAll_cons hA
  obtain ⟨rfl, rfl, rfl⟩ := trodAll_nil r0
  obtain rfl : args = #[v0] := by cases args; simp_all
  obtain ⟨rfl, rfl⟩ := trodVars_none hV
  have k0 := h0
  have lt0 : ∀ x ∈ p0, x.block < W.heap.size := by obtain ⟨m, hm⟩ := k0; exact DataW.trod_lt m _ _ _ hm
  obtain ⟨s0, len0, cap0, rfl⟩ := okWide_slice Try.underlying29 (hval 0 29 v0 rfl rfl)
  obtain ⟨bs0, rfl, hx0, hb0, hc0⟩ := bytes_of k0
  clear hA0 hval0
  refine (walk bs0 s0 cap0 W hx0 hb0 hc0).mono fun e W' ⟨he, bel⟩ => ?_
  subst he
  exact ⟨_, rfl, _, _, _, [], _, [], hW', trodAll_mk1 (shut_bool Try.underlying4 _), (trodAll_cons_mk (Below.trod laidOut (by kernel_rfl) (of_decide_eq_true (by kernel_rfl)) k0 bel lt0) trodAll_mk0), rfl, bel.frame _, fun h => by cases h⟩

theorem over : Rows.packGetsRow.holds Try.pinned (OpenSpec.ofChange Rows.packGetsSpec) :=
  OpenClaim.holds_of_wide 4 Try.f4 rfl rfl rfl rfl rfl rfl rfl ⟨rfl, rfl, rfl, rfl, rfl⟩ rfl rfl rfl rfl rfl (by kernel_rfl) Try.func4 (by kernel_rfl)
    (of_decide_eq_true (by kernel_rfl)) (by unfold Func.isWrapper; first | (rw [if_pos (by decide +kernel)]; kernel_rfl) | (rw [if_neg (by decide +kernel)]; exact ⟨rfl, rfl⟩))
    (fun os started H enc _ => lifted os started H enc)

end packGets
/-- The statement. -/
theorem packGets_holds : Rows.PackGetsSaid := packGets.over
end Go.Proofs.Ytkicpbnphbcdaaa
