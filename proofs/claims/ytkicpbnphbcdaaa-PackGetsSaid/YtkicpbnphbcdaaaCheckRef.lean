/-
  The document's answer of layer 5: Few, and Check of a script.
  Conditions: the script lies in blocks that were there.
-/
import Derived.Test.YtkicpbnphbcdaaaCheck
import Derived.Test.YtkicpbnphbcdaaaCallRef
import Derived.Deep.QuietTactic
import Derived.BigQuiet
import Derived.StillTailTactics
namespace Go.Proofs.Ytkicpbnphbcdaaa
open Go.RowKit

def fewP (p : Pr) : Bool := decide (p.ops.length ≤ 100)
def fewF (x : Sc) : Bool := decide (x.obs.length ≤ 100) && decide (x.prs.length ≤ 100) && decide (x.pis.length ≤ 8000) && x.prs.all fewP

section
variable {w : World} {B : Nat} {x : Sc}

set_option maxHeartbeats 400000 in
theorem few_any (h : Lies w B x) (hB : B ≤ w.heap.size) (r : Bool) (hr : fewF x = r) :
    Calls Try.prog 9 #[x.agg] w fun e w' => e = .returned (.bool r) ∧ Kept (fun _ => False) w w' := by
  have hm1 := h.prs.row.1
  unfold maxLen at hm1
  have HX := Lib.hid (h.kept ((Kept.refl (fun _ => False) w).alloc (.cells #[.slice x.os x.obs.length x.oc, .slice x.ps x.prs.length x.pc, .slice x.ks x.pis.length x.kc] 26)) hB (fun _ _ f => f)); clear h
  unfold fewF at hr
  by_cases h1 : x.obs.length ≤ 100
  case neg =>
    have h1' : (100 : Int) < (x.obs.length : Int) := by omega
    rw [decide_eq_false h1] at hr
    obtain rfl : false = r := hr
    go_enter Try.func9, Try.ntmps9
    go_wp2_with fail
    go_ret
    exact ⟨rfl, (Kept.refl _ w).alloc _⟩
  have h1' : ¬ ((100 : Int) < (x.obs.length : Int)) := by omega
  rw [decide_eq_true h1, Bool.true_and] at hr
  clear h1
  by_cases h2 : x.prs.length ≤ 100
  case neg =>
    have h2' : (100 : Int) < (x.prs.length : Int) := by omega
    rw [decide_eq_false h2] at hr
    obtain rfl : false = r := hr
    go_enter Try.func9, Try.ntmps9
    go_wp2_with fail
    go_ret
    exact ⟨rfl, (Kept.refl _ w).alloc _⟩
  have h2' : ¬ ((100 : Int) < (x.prs.length : Int)) := by omega
  rw [decide_eq_true h2, Bool.true_and] at hr
  clear h2
  by_cases h3 : x.pis.length ≤ 8000
  case neg =>
    have h3' : (8000 : Int) < (x.pis.length : Int) := by omega
    rw [decide_eq_false h3] at hr
    obtain rfl : false = r := hr
    go_enter Try.func9, Try.ntmps9
    go_wp2_with fail
    go_ret
    exact ⟨rfl, (Kept.refl _ w).alloc _⟩
  have h3' : ¬ ((8000 : Int) < (x.pis.length : Int)) := by omega
  rw [decide_eq_true h3, Bool.true_and] at hr
  clear h3
  have HR := Lib.hid hr; clear hr
  go_enter Try.func9, Try.ntmps9
  go_wp2_with fail
  go_loopw [3] (fun i wr => ∃ k : Nat, i = .int .i64 k ∧ k ≤ x.prs.length ∧ (x.prs.take k).all fewP = true ∧ wr = w.alloc (.cells #[.slice x.os x.obs.length x.oc, .slice x.ps x.prs.length x.pc, .slice x.ks x.pis.length x.kc] 26)) (fun i _ => x.prs.length - (intOf i).toNat)
  case atStart => exact ⟨0, rfl, by omega, rfl, rfl⟩
  case round =>
    obtain ⟨k, rfl, hk1, hall, rfl⟩ := hrel
    have HALL := Lib.hid hall; clear hall
    by_cases hkk : k < x.prs.length
    · obtain ⟨p, hp⟩ : ∃ p, x.prs[k]? = some p := ⟨_, List.getElem?_eq_getElem hkk⟩
      obtain ⟨g, off, hps, hg, c0⟩ := pr_at HX.out.prs.row hp
      obtain ⟨os, oc, obs, ps, pc, prs, ks, kc, pis⟩ := x
      obtain rfl : ps = some ⟨g, off, none⟩ := hps
      have hkk2 : k < prs.length := hkk
      have HP := Lib.hid hp; clear hp
      by_cases hf : p.ops.length ≤ 100
      · have hf' : ¬ ((100 : Int) < (p.ops.length : Int)) := by omega
        have hs : fewP p = true := decide_eq_true hf
        clear hf
        go_wp2_with fail
        go_roundw
        case rel => exact ⟨k + 1, by go_num, by omega, by rw [all_next fewP HP.out, HALL.out, hs]; rfl, by first | rfl | trivial⟩
        case measure => simp [intOf]; omega
      · have hf' : (100 : Int) < (p.ops.length : Int) := by omega
        have hs : fewP p = false := decide_eq_false hf
        obtain rfl : false = r := by rw [← HR.out, all_false HP.out hs]
        clear hf
        go_wp2_with fail
        go_ret
        exact ⟨rfl, (Kept.refl _ w).alloc _⟩
    · obtain rfl : true = r := by rw [← HR.out, all_done hkk HALL.out]
      go_wp2_with fail
      go_ret
      exact ⟨rfl, (Kept.refl _ w).alloc _⟩

set_option maxHeartbeats 400000 in
theorem ref_large (h : Lies w B x) (hB : B ≤ w.heap.size) (hr : largeF x = true) :
    Calls Try.prog 11 #[x.agg] w fun e w' => e = .returned (.int .i64 8) ∧ Kept (fun _ => False) w w' := by
  have hm1 := h.prs.row.1
  unfold maxLen at hm1
  have HX := Lib.hid (h.kept ((Kept.refl (fun _ => False) w).alloc (.cells #[.slice x.os x.obs.length x.oc, .slice x.ps x.prs.length x.pc, .slice x.ks x.pis.length x.kc] 26)) hB (fun _ _ f => f)); clear h
  unfold largeF at hr
  by_cases h1 : x.obs.length ≤ 6
  case neg =>
    have h1' : (6 : Int) < (x.obs.length : Int) := by omega
    clear hr h1
    go_enter Try.func11, Try.ntmps11
    go_wp2_with fail
    go_ret
    exact ⟨rfl, (Kept.refl _ w).alloc _⟩
  have h1' : ¬ ((6 : Int) < (x.obs.length : Int)) := by omega
  rw [decide_eq_true h1, Bool.true_and] at hr
  clear h1
  by_cases h2 : x.prs.length ≤ 8
  case neg =>
    have h2' : (8 : Int) < (x.prs.length : Int) := by omega
    clear hr h2
    go_enter Try.func11, Try.ntmps11
    go_wp2_with fail
    go_ret
    exact ⟨rfl, (Kept.refl _ w).alloc _⟩
  have h2' : ¬ ((8 : Int) < (x.prs.length : Int)) := by omega
  rw [decide_eq_true h2, Bool.true_and] at hr
  clear h2
  by_cases h3 : x.pis.length ≤ 4000
  case neg =>
    have h3' : (4000 : Int) < (x.pis.length : Int) := by omega
    clear hr h3
    go_enter Try.func11, Try.ntmps11
    go_wp2_with fail
    go_ret
    exact ⟨rfl, (Kept.refl _ w).alloc _⟩
  have h3' : ¬ ((4000 : Int) < (x.pis.length : Int)) := by omega
  rw [decide_eq_true h3, Bool.true_and] at hr
  clear h3
  have HR := Lib.hid hr; clear hr
  go_enter Try.func11, Try.ntmps11
  go_wp2_with fail
  go_loopw [3] (fun i wr => ∃ k : Nat, i = .int .i64 k ∧ k ≤ x.prs.length ∧ (x.prs.take k).all smallF = true ∧ wr = w.alloc (.cells #[.slice x.os x.obs.length x.oc, .slice x.ps x.prs.length x.pc, .slice x.ks x.pis.length x.kc] 26)) (fun i _ => x.prs.length - (intOf i).toNat)
  case atStart => exact ⟨0, rfl, by omega, rfl, rfl⟩
  case round =>
    obtain ⟨k, rfl, hk1, hall, rfl⟩ := hrel
    have HALL := Lib.hid hall; clear hall
    by_cases hkk : k < x.prs.length
    · obtain ⟨p, hp⟩ : ∃ p, x.prs[k]? = some p := ⟨_, List.getElem?_eq_getElem hkk⟩
      obtain ⟨g, off, hps, hg, c0⟩ := pr_at HX.out.prs.row hp
      obtain ⟨os, oc, obs, ps, pc, prs, ks, kc, pis⟩ := x
      obtain rfl : ps = some ⟨g, off, none⟩ := hps
      have hkk2 : k < prs.length := hkk
      have HP := Lib.hid hp; clear hp
      by_cases hf : p.ops.length ≤ 16
      · have hf' : ¬ ((16 : Int) < (p.ops.length : Int)) := by omega
        have hs : smallF p = true := decide_eq_true hf
        clear hf
        go_wp2_with fail
        go_roundw
        case rel => exact ⟨k + 1, by go_num, by omega, by rw [all_next smallF HP.out, HALL.out, hs]; rfl, by first | rfl | trivial⟩
        case measure => simp [intOf]; omega
      · have hf' : (16 : Int) < (p.ops.length : Int) := by omega
        clear hf
        go_wp2_with fail
        go_ret
        exact ⟨rfl, (Kept.refl _ w).alloc _⟩
    · exfalso
      have h := HR.out
      rw [all_done hkk HALL.out] at h
      cases h
end

end Go.Proofs.Ytkicpbnphbcdaaa
