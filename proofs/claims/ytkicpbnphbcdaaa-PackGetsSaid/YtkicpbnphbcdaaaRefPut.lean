/-
  What the document's answer of layer 6 comes to: a script's bytes.
  Conditions: the script lies in blocks that were there, and may be.
-/
import Derived.Test.YtkicpbnphbcdaaaRefNums
import Derived.Test.YtkicpbnphbcdaaaBytesArg
namespace Go.Proofs.Ytkicpbnphbcdaaa
open Go.RowKit

theorem listE_in {α : Type} {enc : α → List Int} {ok : α → Prop} (h : ∀ x, ok x → ∀ n ∈ enc x, InR n) {xs : List α} (hok : listOk ok xs) : ∀ n ∈ listE intTok enc xs, InR n := by
  intro n hn
  rcases List.mem_append.1 hn with hn | hn
  · have e : intTok.e (xs.length : Int) = [(xs.length : Int)] := rfl
    rw [e] at hn
    simp only [List.mem_cons, List.not_mem_nil, or_false] at hn
    have := hok.1
    subst hn
    exact ⟨by omega, by omega⟩
  · obtain ⟨x, hx, hn⟩ := List.mem_flatMap.1 hn
    exact h x (hok.2 x hx) n hn
/-- Each number of a script that can be written has 64 bits. -/
theorem nums_in {p : Parts} (hok : scOk p) : ∀ n ∈ scE intTok p, InR n := by
  have h1 : ∀ x, obOk x → ∀ n ∈ obE intTok x, InR n := by
    intro x hx n hn
    have e : obE intTok x = [x.kind, truthN x.fair, x.n] := rfl
    rw [e] at hn
    simp only [List.mem_cons, List.not_mem_nil, or_false] at hn
    rcases hn with rfl | rfl | rfl
    · exact hx.1
    · exact truth_in _
    · exact hx.2
  have h2 : ∀ x, clOk x → ∀ n ∈ clE intTok x, InR n := by
    intro x hx n hn
    have e : clE intTok x = [x.kind, x.obj, x.n, x.wait, truthN x.breaks] := rfl
    rw [e] at hn
    simp only [List.mem_cons, List.not_mem_nil, or_false] at hn
    rcases hn with rfl | rfl | rfl | rfl | rfl
    · exact hx.1
    · exact hx.2.1
    · exact hx.2.2.1
    · exact hx.2.2.2
    · exact truth_in _
  have h3 : ∀ x, piOk x → ∀ n ∈ piE intTok x, InR n := by
    intro x hx n hn
    have e : piE intTok x = [x.kind, x.n] := rfl
    rw [e] at hn
    simp only [List.mem_cons, List.not_mem_nil, or_false] at hn
    rcases hn with rfl | rfl
    · exact hx.1
    · exact hx.2
  intro n hn
  simp only [scE, List.mem_append] at hn
  rcases hn with (hn | hn) | hn
  · exact listE_in h1 hok.1 n hn
  · exact listE_in (fun xs hxs => listE_in h2 hxs) hok.2.1 n hn
  · exact listE_in h3 hok.2.2 n hn
theorem flat_more (l : List Int) : l.length ≤ (l.flatMap numB).length := by
  induction l with
  | nil => simp
  | cons n l ih =>
    rw [List.flatMap_cons, List.length_append, List.length_cons]
    have := dig_pos (foldN n)
    unfold numB
    unfold numB at ih
    omega
theorem nums_few {x : Sc} (h : mayF x = true) : (numsOf x).length ≤ 100000 := by
  have h1 := flat_more (numsOf x)
  have h2 := may_len h
  rw [scE_flat] at h2
  unfold numsOf at h1 ⊢
  omega
theorem flat_few {l : List Int} (h : ∀ n ∈ l, InR n) : (l.flatMap numB).length ≤ l.length * 10 := by
  have : ∀ n ∈ l, (numB n).length ≤ 10 := fun n hn => numB_len (h n hn)
  exact flat_le numB 10 l this

set_option maxHeartbeats 1000000 in
theorem refPut_any {w : World} {B : Nat} {x : Sc} (h : Lies w B x) (hB : B ≤ w.heap.size) (hm : mayF x = true) : Calls Try.prog 13 #[x.agg] w (BytesTo w (scE byteTok (partsOf x))) := by
  have hin := nums_in (may_ok hm)
  have hfew := nums_few hm
  have hfl := scE_flat (partsOf x)
  have HC := Lib.hid (refNumbers_any (h.kept ((Kept.refl (fun _ => False) w).alloc (.cells #[.slice x.os x.obs.length x.oc, .slice x.ps x.prs.length x.pc, .slice x.ks x.pis.length x.kc] 26)) hB (fun _ _ f => f)) (by simp; omega) (by omega))
  rw [hfl]
  have hff := flat_few hin
  have hnl : numsOf x = scE intTok (partsOf x) := rfl
  rw [← hnl] at hin hff ⊢
  generalize numsOf x = l at *
  have HIN := Lib.hid hin
  have hlm : l.length ≤ 100000 := hfew
  obtain ⟨i0, hi, hz, hn, hby⟩ := info_parts Try.infoByte
  have HI := Lib.hid hi
  have HZ := Lib.hid hz
  have HN := Lib.hid hn
  have HBY := Lib.hid hby
  clear h hm hin hfl hnl hi hz hn hby hfew hff
  go_enter Try.func13, Try.ntmps13
  go_wp2_with fail
  refine (HC.out).mono ?_
  rintro e w1 ⟨v0, rfl, hown, hk1⟩
  obtain ⟨A, c, rfl, hcc, hE⟩ := hown.elems (by unfold maxLen; omega)
  have hkw : Kept (fun _ => False) w w1 := ((Kept.refl _ w).alloc _).trans hk1 (fun _ _ f => f)
  have HE := Lib.hid (fun (w' : World) (hk : Kept (fun k => w1.heap.size ≤ k) w1 w') => hE.kept hk (Nat.le_refl _) (fun k hk' e => by omega))
  have HKW := Lib.hid hkw
  clear hown hk1 hE hkw hcc
  go_wp2_with fail
  go_loopw [3, 5] (fun v i wr => ∃ k : Nat, i = .int .i64 k ∧ k ≤ l.length ∧ Own w1.heap.size wr v ((l.take k).flatMap numB) ∧ Kept (fun k => w1.heap.size ≤ k) w1 wr) (fun _ i _ => l.length - (intOf i).toNat)
  case atStart => exact ⟨0, rfl, by omega, own_nil _ _, Kept.refl _ _⟩
  case round =>
    obtain ⟨k, rfl, hk1, hown, hk⟩ := hrel
    have HO := Lib.hid hown
    have HK := Lib.hid hk
    clear hown hk
    by_cases hkk : k < l.length
    · obtain ⟨n, hn⟩ : ∃ n, l[k]? = some n := ⟨_, List.getElem?_eq_getElem hkk⟩
      obtain ⟨g, off, rfl, hg, hcell⟩ := (HE.out _ HK.out).2 k n hn
      have c0 : wr.cell? ⟨g, off + k, none⟩ = some (.int .i64 n) := by have := hcell 0 _ rfl; rwa [Nat.mul_one, Nat.add_zero] at this
      have hkl : (k : Int) < (l.length : Int) := by omega
      have hk0 : (0 : Int) ≤ (k : Int) := by omega
      have HNN := Lib.hid hn
      have HLK : Hid (((l.take k).flatMap numB).length ≤ 1000000) := Lib.hid (by
        have := flat_few (l := l.take k) (fun n hn => HIN.out n (List.mem_of_mem_take hn))
        rw [List.length_take] at this
        omega)
      have HNI := Lib.hid (HIN.out n (List.mem_of_getElem? hn))
      obtain ⟨d, hd⟩ : ∃ d, (l.take k).flatMap numB = d := ⟨_, rfl⟩
      have HD := Lib.hid hd
      rw [hd] at HLK HO
      clear hn hcell hd
      go_wp2_with fail
      refine (refNumber_any n HNI.out wr).mono ?_
      rintro e w2 ⟨v2, rfl, hown2, hk2⟩
      have HNL : Hid ((numB n).length ≤ 10) := Lib.hid (numB_len HNI.out)
      obtain ⟨A2, c2, rfl, hc2, hE2⟩ := hown2.elems (by have := HNL.out; unfold maxLen; omega)
      have HE2 := Lib.hid hE2
      have HO2 : Hid (Own w1.heap.size w2 u3 d) := Lib.hid (own_kept HO.out hk2 (fun _ _ f => f))
      have HK2 := Lib.hid (HK.out.trans hk2 (fun _ _ f => f.elim))
      clear hown2 hk2 hc2 hE2
      go_wp2_with (at_builtin; refine wpList_append_elems (f := bC) (ys := numB n) _ rfl (.tmp 14) (.tmp 19) 29 rfl w1.heap.size 5 i0 (.int .u8 0) 1 1 Try.underlying29 HI.out HZ.out HN.out HBY.out rfl (by decide) bC_one (bC_cell _) _ d.length (flat bC d) rfl ?c1 w2.heap.size A2 c2 rfl ?c2 ?c3 ?c4 ?c5 ?_)
      case c1 => exact HO2.out
      case c2 => exact HE2.out
      case c3 => have := HLK.out; have := HNL.out; unfold maxLen; omega
      case c4 => have := HLK.out; have := HNL.out; omega
      case c5 => exact HK2.out.size
      intro v' w3 hown3 hg3 hv3
      have hfin : ∃ k' : Nat, Value.int .i64 ((k : Int) + 1) = .int .i64 k' ∧ k' ≤ l.length ∧ Own w1.heap.size w3 v' ((l.take k').flatMap numB) ∧ Kept (fun k => w1.heap.size ≤ k) w1 w3 :=
        ⟨k + 1, by go_num, by omega, by
          unfold Own
          rw [take_step numB HNN.out, HD.out, bC_flat, List.length_append]
          exact hown3, HK2.out.grown hg3 (fun i hi e => (HO2.out.lt e).1)⟩
      have HF := Lib.hid hfin
      clear hfin hown3 hg3 hv3
      go_wp2_with fail
      go_roundw
      case rel => exact HF.out
      case measure => simp [intOf]; omega
    · have hfin : BytesTo w (l.flatMap numB) (.returned u3) wr := ⟨u3, rfl, by
        have h := HO.out
        rw [List.take_of_length_le (by omega)] at h
        refine ⟨h.1, ?_⟩
        rcases h.2 with h3 | ⟨g, cap, cur, h3, hbb, h4⟩
        · exact .inl h3
        · exact .inr ⟨g, cap, cur, h3, by have := HKW.out.size; omega, h4⟩, HKW.out.trans HK.out (fun i hi e => by have := HKW.out.size; omega)⟩
      have HF := Lib.hid hfin
      clear hfin HO
      go_wp2_with fail
      go_ret
      exact HF.out

end Go.Proofs.Ytkicpbnphbcdaaa
