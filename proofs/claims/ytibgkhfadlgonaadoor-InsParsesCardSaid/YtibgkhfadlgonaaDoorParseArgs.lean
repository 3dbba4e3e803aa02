/-
  The document's Parse: all that an instruction has.
  Conditions: the words lie in blocks that were there.
-/
import Derived.Test.YtibgkhfadlgonaaDoorParseArg
namespace Go.Proofs.YtibgkhfadlgonaaDoor
open Go.RowKit

set_option maxHeartbeats 4000000 in
set_option maxRecDepth 100000 in
theorem arg_end {w wr : World} {i : Nat} {s t : ByteArray} {v6 v7 v8 v9 : Value} {u : Nat → Value} {Q : Exit → Act → World → Prop} (hi : ¬ i < t.size)
    (hend : Hid (∀ a', (∃ u', a' = frP s w.heap.size v6 v7 v8 v9 (.string t) (.int .i64 i) u') → Q (.exit 6) a' wr)) :
    Code.wp Tryd.prog parseD Q (frP s w.heap.size v6 v7 v8 v9 (.string t) (.int .i64 i) u) wr := by
  unfold frP
  conv => arg 2; whnf
  go_wp2_with fail
  exact hend.out _ (frP_of (by kernel_rfl))

theorem str_at {l : Str} {i : Nat} {h : UInt8} (hi : l[i]? = some h) : ∃ hs : i < (strS l).size, (strS l)[i].toNat = h.toNat := by
  have h1 := (List.getElem?_eq_some_iff.1 hi).1
  have hs : i < (strS l).size := by rw [strS_size]; exact h1
  refine ⟨hs, ?_⟩
  have := bytesS_at (strS l) i hs
  rw [bytesS_str, hi] at this
  simp only [Option.some.injEq] at this
  rw [← this]
theorem sC_at {w : World} {B : Nat} {A : Option Addr} {ws : List Str} (h : Elems w B A 1 sC ws) {k : Nat} {x : Str} (hx : ws[k]? = some x) : ∃ g off, A = some ⟨g, off, none⟩ ∧ g < B ∧ w.cell? ⟨g, off + k, none⟩ = some (.string (strS x)) := by
  obtain ⟨g, off, e, hb, hc⟩ := h.2 k x hx
  have h0 := hc 0 _ rfl
  rw [Nat.mul_one, Nat.add_zero] at h0
  exact ⟨g, off, e, hb, h0⟩
theorem sC_same {w : World} {B g off : Nat} {ws : List Str} (h : Elems w B (some ⟨g, off, none⟩) 1 sC ws) {k : Nat} {x : Str} (hx : ws[k]? = some x) : w.cell? ⟨g, off + k, none⟩ = some (.string (strS x)) := by
  obtain ⟨g', off', e, _, hc⟩ := sC_at h hx
  simp only [Option.some.injEq, Addr.mk.injEq, and_true] at e
  obtain ⟨rfl, rfl⟩ := e
  exact hc

theorem args_drop {has : Str} {r : List Str} {i : Nat} {h : UInt8} {v : Str} (hh : has[i]? = some h) (hv : r[i]? = some v) (y : Ln) : argsL (has.drop i) (r.drop i) y = (argL h v y).bind (argsL (has.drop (i + 1)) (r.drop (i + 1))) := by
  obtain ⟨h1, h2⟩ := List.getElem?_eq_some_iff.1 hh
  obtain ⟨h3, h4⟩ := List.getElem?_eq_some_iff.1 hv
  rw [List.drop_eq_getElem_cons h1, List.drop_eq_getElem_cons h3, h2, h4]
  rfl

theorem args_loop {w wr : World} {g off n c : Nat} {s : ByteArray} {v7 v8 v9 : Value} {u : Nat → Value} {Q : Exit → Act → World → Prop} {l : Str} {y0 : Ln} {has w0 : Str} {r : List Str}
    (hv : VarL w wr y0) (hlen : has.length = r.length) (hn : n = r.length + 1) (h1000 : has.length ≤ 1000) (hset : ∀ h ∈ has, h.toNat = 65 ∨ h.toNat = 66 ∨ h.toNat = 67 ∨ h.toNat = 78 ∨ h.toNat = 84) (hword : ∀ v ∈ r, v.length ≤ 100000)
    (hel : ∀ w', Kept (fun q => q = w.heap.size + 1) wr w' → Elems w' w'.heap.size (some ⟨g, off, none⟩) 1 sC (w0 :: r))
    (hbad : argsL has r y0 = none → parseL l = none) (hret : Hid (RetL w l Q))
    (hend : Hid (∀ a' w' y, (∃ v11 u', a' = frP s w.heap.size (.slice (some ⟨g, off, none⟩) n c) v7 v8 v9 (.string (strS has)) v11 u') → VarL w w' y → Kept (fun q => q = w.heap.size + 1) wr w' → argsL has r y0 = some y → Q (.exit 6) a' w')) :
    Code.wp Tryd.prog (Code.loop parseD) Q (frP s w.heap.size (.slice (some ⟨g, off, none⟩) n c) v7 v8 v9 (.string (strS has)) (.int .i64 ((0 : Nat) : Int)) u) wr := by
  refine wp_loop (fun a' w' => ∃ (i : Nat) (y : Ln) (u : Nat → Value), a' = frP s w.heap.size (.slice (some ⟨g, off, none⟩) n c) v7 v8 v9 (.string (strS has)) (.int .i64 i) u ∧ i ≤ has.length ∧ VarL w w' y ∧ Kept (fun q => q = w.heap.size + 1) wr w' ∧ argsL has r y0 = argsL (has.drop i) (r.drop i) y)
    (fun a' _ => has.length - (intOf (a'.tmps.getD 11 undef)).toNat) ?_ ?_
  · exact ⟨0, y0, u, rfl, by omega, hv, Kept.refl _ _, rfl⟩
  rintro _ w1 ⟨i, y, u, rfl, hi, hv1, hk, hargs⟩
  have hts : (strS has).size = has.length := strS_size has
  by_cases hih : i < has.length
  case neg =>
    obtain rfl : i = has.length := by omega
    refine arg_end (by rw [hts]; omega) (Lib.hid ?_)
    rintro a' ⟨u', rfl⟩
    refine hend.out _ _ y ⟨_, u', rfl⟩ hv1 hk ?_
    rw [hargs, List.drop_length]; cases r.drop has.length <;> rfl
  obtain ⟨h, hh⟩ : ∃ h, has[i]? = some h := ⟨_, List.getElem?_eq_getElem hih⟩
  obtain ⟨v, hvv⟩ : ∃ v, r[i]? = some v := ⟨_, List.getElem?_eq_getElem (by omega)⟩
  have hw1 : (w0 :: r)[i + 1]? = some v := by simpa using hvv
  have hcell := sC_same (hel w1 hk) hw1
  have hg : ∀ w', Kept (fun _ => False) w1 w' → w'.cell? ⟨g, off + (i + 1), none⟩ = some (.string (strS v)) := fun w' hk' => sC_same (hel w' (hk.trans hk' (fun _ _ f => f.elim))) hw1
  obtain ⟨hit, hK⟩ := str_at hh
  have hvl := hword v (List.mem_of_getElem? hvv)
  have hw : WordIs v ((regL v).getD (-1)) ((numL v).getD 0) (numL v).isSome (isName v) := ⟨rfl, rfl, rfl, rfl⟩
  rw [args_drop hh hvv] at hargs
  have hret' : Hid (RetL w l (Exit.then (fun a' w' => (∃ (i : Nat) (y : Ln) (u : Nat → Value), a' = frP s w.heap.size (.slice (some ⟨g, off, none⟩) n c) v7 v8 v9 (.string (strS has)) (.int .i64 i) u ∧ i ≤ has.length ∧ VarL w w' y ∧ Kept (fun q => q = w.heap.size + 1) wr w' ∧ argsL has r y0 = argsL (has.drop i) (r.drop i) y) ∧ has.length - (intOf (a'.tmps.getD 11 undef)).toNat < has.length - (intOf ((frP s w.heap.size (.slice (some ⟨g, off, none⟩) n c) v7 v8 v9 (.string (strS has)) (.int .i64 i) u).tmps.getD 11 undef)).toNat) Q)) :=
    Lib.hid (fun a' w' ok he hf => hret.out a' w' ok he hf)
  have hmu : ∀ u' : Nat → Value, has.length - (intOf ((frP s w.heap.size (.slice (some ⟨g, off, none⟩) n c) v7 v8 v9 (.string (strS has)) (.int .i64 ((i : Int) + 1)) u').tmps.getD 11 undef)).toNat < has.length - (intOf ((frP s w.heap.size (.slice (some ⟨g, off, none⟩) n c) v7 v8 v9 (.string (strS has)) (.int .i64 i) u).tmps.getD 11 undef)).toNat := by
    intro u'
    show has.length - (intOf (.int .i64 ((i : Int) + 1))).toNat < has.length - (intOf (.int .i64 (i : Int))).toNat
    simp [intOf]; omega
  rcases hset h (List.mem_of_getElem? hh) with k | k | k | k | k
  · rcases hr : regL v with _ | x
    · refine arg_A_bad hv1 hcell hg hit (by rw [hK, k]) (by omega) (by rw [hts]; omega) hw hvl (by rw [hr]; decide) (hbad (by rw [hargs]; unfold argL; rw [if_pos k, hr]; rfl)) hret'
    · have := regL_range hr
      refine arg_A_good hv1 hcell hg hit (by rw [hK, k]) (by omega) (by rw [hts]; omega) hw hvl (by rw [hr]; exact this.1) (Lib.hid ?_)
      rintro a' w' ⟨u', rfl⟩ hv2 hk2
      rw [hr] at hv2
      exact ⟨⟨i + 1, _, u', rfl, by omega, hv2, hk.trans hk2 (fun _ _ e => e), by rw [hargs]; unfold argL; rw [if_pos k, hr]; rfl⟩, hmu u'⟩
  · rcases hr : regL v with _ | x
    · refine arg_B_bad hv1 hcell hg hit (by rw [hK, k]) (by omega) (by rw [hts]; omega) hw hvl (by rw [hr]; decide) (hbad (by rw [hargs]; unfold argL; rw [if_neg (by omega), if_pos k, hr]; rfl)) hret'
    · have := regL_range hr
      refine arg_B_good hv1 hcell hg hit (by rw [hK, k]) (by omega) (by rw [hts]; omega) hw hvl (by rw [hr]; exact this.1) (Lib.hid ?_)
      rintro a' w' ⟨u', rfl⟩ hv2 hk2
      rw [hr] at hv2
      exact ⟨⟨i + 1, _, u', rfl, by omega, hv2, hk.trans hk2 (fun _ _ e => e), by rw [hargs]; unfold argL; rw [if_neg (by omega), if_pos k, hr]; rfl⟩, hmu u'⟩
  · rcases hr : regL v with _ | x
    · refine arg_C_bad hv1 hcell hg hit (by rw [hK, k]) (by omega) (by rw [hts]; omega) hw hvl (by rw [hr]; decide) (hbad (by rw [hargs]; unfold argL; rw [if_neg (by omega), if_neg (by omega), if_pos k, hr]; rfl)) hret'
    · have := regL_range hr
      refine arg_C_good hv1 hcell hg hit (by rw [hK, k]) (by omega) (by rw [hts]; omega) hw hvl (by rw [hr]; exact this.1) (Lib.hid ?_)
      rintro a' w' ⟨u', rfl⟩ hv2 hk2
      rw [hr] at hv2
      exact ⟨⟨i + 1, _, u', rfl, by omega, hv2, hk.trans hk2 (fun _ _ e => e), by rw [hargs]; unfold argL; rw [if_neg (by omega), if_neg (by omega), if_pos k, hr]; rfl⟩, hmu u'⟩
  · rcases hr : numL v with _ | x
    · refine arg_N_bad hv1 hcell hg hit (by rw [hK, k]) (by omega) (by rw [hts]; omega) hw hvl (by rw [hr]; rfl) (hbad (by rw [hargs]; unfold argL; rw [if_neg (by omega), if_neg (by omega), if_neg (by omega), if_pos k, hr]; rfl)) hret'
    · refine arg_N_good hv1 hcell hg hit (by rw [hK, k]) (by omega) (by rw [hts]; omega) hw hvl (by rw [hr]; rfl) (Lib.hid ?_)
      rintro a' w' ⟨u', rfl⟩ hv2 hk2
      rw [hr] at hv2
      exact ⟨⟨i + 1, _, u', rfl, by omega, hv2, hk.trans hk2 (fun _ _ e => e), by rw [hargs]; unfold argL; rw [if_neg (by omega), if_neg (by omega), if_neg (by omega), if_pos k, hr]; rfl⟩, hmu u'⟩
  · rcases hr : isName v with _ | _
    · refine arg_T_bad hv1 hcell hg hit (by rw [hK, k]) (by omega) (by rw [hts]; omega) hw hvl hr (hbad (by rw [hargs]; unfold argL; rw [if_neg (by omega), if_neg (by omega), if_neg (by omega), if_neg (by omega), if_neg (by rw [hr]; simp)]; rfl)) hret'
    · refine arg_T_good hv1 hcell hg hit (by rw [hK, k]) (by omega) (by rw [hts]; omega) hw hvl hr (Lib.hid ?_)
      rintro a' w' ⟨u', rfl⟩ hv2 hk2
      exact ⟨⟨i + 1, _, u', rfl, by omega, hv2, hk.trans hk2 (fun _ _ e => e), by rw [hargs]; unfold argL; rw [if_neg (by omega), if_neg (by omega), if_neg (by omega), if_neg (by omega), if_pos hr]; rfl⟩, hmu u'⟩

end Go.Proofs.YtibgkhfadlgonaaDoor
