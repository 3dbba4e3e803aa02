/-
  What package prog's Check comes to.
  Conditions: the script lies in blocks that were there.
  The document's Few, where the rest of its answer of layer 5 is not at hand (in namespace Er: CheckRef has the same).
  Conditions: the script lies in blocks that were there.
-/
import Derived.Test.YtbodlaiakcoabaaGreatDoorLists
import Derived.Deep.QuietTactic
import Derived.BigQuiet
import Derived.StillTailTactics
section
namespace Go.Proofs.YtbodlaiakcoabaaGreatDoor
open Go.RowKit

/-- A block of three cells that stayed. -/
theorem box3 {w w' : World} {a b c : Value} {t : TypeId} (hk : Kept (fun _ => False) (w.alloc (.cells #[a, b, c] t)) w') :
    w'.cell? ⟨w.heap.size, 0, none⟩ = some a ∧ w'.cell? ⟨w.heap.size, 1, none⟩ = some b ∧ w'.cell? ⟨w.heap.size, 2, none⟩ = some c := by
  have h := (hk.block w.heap.size (by simp) (fun f => f)).trans (heap_alloc_new w _)
  exact ⟨by rw [cell_at w' _ 0 _ _ h]; rfl, by rw [cell_at w' _ 1 _ _ h]; rfl, by rw [cell_at w' _ 2 _ _ h]; rfl⟩

section
variable {w : World} {B : Nat} {x : Sc}

set_option maxHeartbeats 400000 in
theorem large_any (h : Lies w B x) (hB : B ≤ w.heap.size) (r : Bool) (hr : largeF x = r) :
    Calls Tryz.prog 30 #[x.agg] w fun e w' => e = .returned (.bool r) ∧ Kept (fun _ => False) w w' := by
  have hm1 := h.prs.row.1
  unfold maxLen at hm1
  have HX := Lib.hid (h.kept ((Kept.refl (fun _ => False) w).alloc (.cells #[.slice x.os x.obs.length x.oc, .slice x.ps x.prs.length x.pc, .slice x.ks x.pis.length x.kc] 26)) hB (fun _ _ f => f)); clear h
  unfold largeF at hr
  by_cases h1 : x.obs.length ≤ 6
  case neg =>
    have h1' : (6 : Int) < (x.obs.length : Int) := by omega
    rw [decide_eq_false h1] at hr
    obtain rfl : true = r := hr
    go_enter Tryz.func30, Tryz.ntmps30
    go_wp2_with fail
    go_ret
    exact ⟨rfl, (Kept.refl _ w).alloc _⟩
  have h1' : ¬ ((6 : Int) < (x.obs.length : Int)) := by omega
  rw [decide_eq_true h1, Bool.true_and] at hr
  clear h1
  by_cases h2 : x.prs.length ≤ 8
  case neg =>
    have h2' : (8 : Int) < (x.prs.length : Int) := by omega
    rw [decide_eq_false h2] at hr
    obtain rfl : true = r := hr
    go_enter Tryz.func30, Tryz.ntmps30
    go_wp2_with fail
    go_ret
    exact ⟨rfl, (Kept.refl _ w).alloc _⟩
  have h2' : ¬ ((8 : Int) < (x.prs.length : Int)) := by omega
  rw [decide_eq_true h2, Bool.true_and] at hr
  clear h2
  by_cases h3 : x.pis.length ≤ 4000
  case neg =>
    have h3' : (4000 : Int) < (x.pis.length : Int) := by omega
    rw [decide_eq_false h3] at hr
    obtain rfl : true = r := hr
    go_enter Tryz.func30, Tryz.ntmps30
    go_wp2_with fail
    go_ret
    exact ⟨rfl, (Kept.refl _ w).alloc _⟩
  have h3' : ¬ ((4000 : Int) < (x.pis.length : Int)) := by omega
  rw [decide_eq_true h3, Bool.true_and] at hr
  clear h3
  have HR := Lib.hid hr; clear hr
  go_enter Tryz.func30, Tryz.ntmps30
  go_wp2_with fail
  go_loopw [24] (fun i wr => ∃ k : Nat, i = .int .i64 k ∧ k ≤ x.prs.length ∧ (x.prs.take k).all smallF = true ∧ wr = w.alloc (.cells #[.slice x.os x.obs.length x.oc, .slice x.ps x.prs.length x.pc, .slice x.ks x.pis.length x.kc] 26)) (fun i _ => x.prs.length - (intOf i).toNat)
  case atStart => exact ⟨0, rfl, by omega, rfl, rfl⟩
  case round =>
    obtain ⟨k, rfl, hk1, hall, rfl⟩ := hrel
    have HALL := Lib.hid hall; clear hall
    by_cases hkk : k < x.prs.length
    · obtain ⟨p, hp⟩ : ∃ p, x.prs[k]? = some p := ⟨_, List.getElem?_eq_getElem hkk⟩
      obtain ⟨g, off, hps, hg, c0⟩ := pr_at HX.out.prs.row hp
      obtain ⟨os, oc, obs, ps, pc, prs, ks, kc, pis⟩ := x
      obtain rfl : ps = some ⟨g, off, none⟩ := hps
      have hkk2 : k < prs.length := hkk
      have HP := Lib.hid hp; clear hp
      by_cases hf : p.ops.length ≤ 16
      · have hf' : ¬ ((16 : Int) < (p.ops.length : Int)) := by omega
        have hs : smallF p = true := decide_eq_true hf
        clear hf
        go_wp2_with fail
        go_roundw
        case rel => exact ⟨k + 1, by go_num, by omega, by rw [all_next smallF HP.out, HALL.out, hs]; rfl, by first | rfl | trivial⟩
        case measure => simp [intOf]; omega
      · have hf' : (16 : Int) < (p.ops.length : Int) := by omega
        have hs : smallF p = false := decide_eq_false hf
        obtain rfl : true = r := by rw [← HR.out, all_false HP.out hs]; rfl
        clear hf
        go_wp2_with fail
        go_ret
        exact ⟨rfl, (Kept.refl _ w).alloc _⟩
    · obtain rfl : false = r := by rw [← HR.out, all_done hkk HALL.out]; rfl
      go_wp2_with fail
      go_ret
      exact ⟨rfl, (Kept.refl _ w).alloc _⟩

set_option maxHeartbeats 400000 in
theorem check_large (h : Lies w B x) (hB : B ≤ w.heap.size) (hl : largeF x = true) :
    Calls Tryz.prog 21 #[x.agg] w fun e w' => e = .returned (.iface 48 (.int .i64 8)) ∧ Kept (fun _ => False) w w' := by
  have HL := Lib.hid (large_any (h.kept ((Kept.refl (fun _ => False) w).alloc (.cells #[.slice x.os x.obs.length x.oc, .slice x.ps x.prs.length x.pc, .slice x.ks x.pis.length x.kc] 26)) hB (fun _ _ f => f)) (by simp; omega) true hl)
  clear h hl
  go_enter Tryz.func21, Tryz.ntmps21
  go_wp2_with fail
  refine (HL.out).mono ?_
  rintro e w2 ⟨rfl, hk2⟩
  go_wp2_with fail
  go_ret
  exact ⟨rfl, ((Kept.refl _ w).alloc _).trans hk2 (fun _ _ f => f)⟩

set_option maxHeartbeats 1000000 in
theorem check_small (h : Lies w B x) (hB : B ≤ w.heap.size) (hl : largeF x = false) (r : Bool) (hr : goodF x = r) :
    Calls Tryz.prog 21 #[x.agg] w fun e w' => e = .returned (if r then .nilIface else .iface 48 (.int .i64 1)) ∧ Kept (fun _ => False) w w' := by
  have HX := Lib.hid (h.kept ((Kept.refl (fun _ => False) w).alloc (.cells #[.slice x.os x.obs.length x.oc, .slice x.ps x.prs.length x.pc, .slice x.ks x.pis.length x.kc] 26)) hB (fun _ _ f => f))
  have hBA : B ≤ (w.alloc (.cells #[.slice x.os x.obs.length x.oc, .slice x.ps x.prs.length x.pc, .slice x.ks x.pis.length x.kc] 26)).heap.size := by simp; omega
  have HL := Lib.hid (large_any HX.out hBA false hl)
  have HB := Lib.hid hBA
  clear h hl hBA
  unfold goodF at hr
  by_cases n1 : x.obs.length = 0
  · have e : r = false := by rw [← hr, n1]; rfl
    subst e
    have n1' : (x.obs.length : Int) = 0 := by omega
    clear hr n1
    go_enter Tryz.func21, Tryz.ntmps21
    go_wp2_with fail
    refine (HL.out).mono ?_
    rintro e w2 ⟨rfl, hk2⟩
    obtain ⟨p0, p1, p2⟩ := box3 hk2
    go_wp2_with fail
    go_ret
    exact ⟨rfl, ((Kept.refl _ w).alloc _).trans hk2 (fun _ _ f => f)⟩
  have n1' : ((x.obs.length : Int) == 0) = false := by rw [beq_eq_false_iff_ne]; omega
  rw [bne_iff_ne.2 n1, Bool.true_and] at hr
  by_cases n2 : x.prs.length = 0
  · have e : r = false := by rw [← hr, n2]; rfl
    subst e
    have n2' : (x.prs.length : Int) = 0 := by omega
    clear hr n2
    go_enter Tryz.func21, Tryz.ntmps21
    go_wp2_with fail
    refine (HL.out).mono ?_
    rintro e w2 ⟨rfl, hk2⟩
    obtain ⟨p0, p1, p2⟩ := box3 hk2
    go_wp2_with fail
    go_ret
    exact ⟨rfl, ((Kept.refl _ w).alloc _).trans hk2 (fun _ _ f => f)⟩
  have n2' : ((x.prs.length : Int) == 0) = false := by rw [beq_eq_false_iff_ne]; omega
  rw [bne_iff_ne.2 n2, Bool.true_and] at hr
  cases q1 : x.obs.all obF
  · have e : r = false := by rw [← hr, q1]; rfl
    subst e
    clear hr
    go_enter Tryz.func21, Tryz.ntmps21
    go_wp2_with fail
    refine (HL.out).mono ?_
    rintro e w2 ⟨rfl, hk2⟩
    obtain ⟨p0, p1, p2⟩ := box3 hk2
    have HK2 := Lib.hid hk2; clear hk2
    go_wp2_with fail
    refine (objects_may x.oc (HX.out.kept HK2.out HB.out (fun _ _ f => f)).obs (Nat.le_trans HB.out HK2.out.size) _ q1).mono ?_
    rintro e w3 ⟨rfl, hk3⟩
    obtain ⟨p0', p1', p2'⟩ := box3 (HK2.out.trans hk3 (fun _ _ f => f))
    go_wp2_with fail
    go_ret
    exact ⟨rfl, (((Kept.refl _ w).alloc _).trans HK2.out (fun _ _ f => f)).trans hk3 (fun _ _ f => f)⟩
  rw [q1, Bool.true_and] at hr
  cases q2 : x.prs.all (progF x.obs.length)
  · have e : r = false := by rw [← hr, q2]; rfl
    subst e
    clear hr
    go_enter Tryz.func21, Tryz.ntmps21
    go_wp2_with fail
    refine (HL.out).mono ?_
    rintro e w2 ⟨rfl, hk2⟩
    obtain ⟨p0, p1, p2⟩ := box3 hk2
    have HK2 := Lib.hid hk2; clear hk2
    go_wp2_with fail
    refine (objects_may x.oc (HX.out.kept HK2.out HB.out (fun _ _ f => f)).obs (Nat.le_trans HB.out HK2.out.size) _ q1).mono ?_
    rintro e w3 ⟨rfl, hk3⟩
    have HK3 := Lib.hid (HK2.out.trans hk3 (fun _ _ f => f)); clear hk3
    obtain ⟨p0', p1', p2'⟩ := box3 HK3.out
    go_wp2_with fail
    refine (programs_may x.pc x.obs.length (HX.out.kept HK3.out HB.out (fun _ _ f => f)).prs (Nat.le_trans HB.out HK3.out.size) _ q2).mono ?_
    rintro e w4 ⟨rfl, hk4⟩
    go_wp2_with fail
    go_ret
    exact ⟨rfl, (((Kept.refl _ w).alloc _).trans HK3.out (fun _ _ f => f)).trans hk4 (fun _ _ f => f)⟩
  rw [q2, Bool.true_and] at hr
  subst hr
  cases q3 : x.pis.all piF
  all_goals
    go_enter Tryz.func21, Tryz.ntmps21
    go_wp2_with fail
    refine (HL.out).mono ?_
    rintro e w2 ⟨rfl, hk2⟩
    obtain ⟨p0, p1, p2⟩ := box3 hk2
    have HK2 := Lib.hid hk2; clear hk2
    go_wp2_with fail
    refine (objects_may x.oc (HX.out.kept HK2.out HB.out (fun _ _ f => f)).obs (Nat.le_trans HB.out HK2.out.size) _ q1).mono ?_
    rintro e w3 ⟨rfl, hk3⟩
    have HK3 := Lib.hid (HK2.out.trans hk3 (fun _ _ f => f)); clear hk3
    obtain ⟨p0', p1', p2'⟩ := box3 HK3.out
    go_wp2_with fail
    refine (programs_may x.pc x.obs.length (HX.out.kept HK3.out HB.out (fun _ _ f => f)).prs (Nat.le_trans HB.out HK3.out.size) _ q2).mono ?_
    rintro e w4 ⟨rfl, hk4⟩
    have HK4 := Lib.hid (HK3.out.trans hk4 (fun _ _ f => f)); clear hk4
    obtain ⟨p0'', p1'', p2''⟩ := box3 HK4.out
    go_wp2_with fail
    refine (picks_may x.kc (HX.out.kept HK4.out HB.out (fun _ _ f => f)).pis (Nat.le_trans HB.out HK4.out.size) _ q3).mono ?_
    rintro e w5 ⟨rfl, hk5⟩
    go_wp2_with fail
    go_ret
    exact ⟨rfl, (((Kept.refl _ w).alloc _).trans HK4.out (fun _ _ f => f)).trans hk5 (fun _ _ f => f)⟩
end

end Go.Proofs.YtbodlaiakcoabaaGreatDoor
end
section
namespace Go.Proofs.YtbodlaiakcoabaaGreatDoor
namespace Er
open Go.RowKit

def fewP (p : Pr) : Bool := decide (p.ops.length ≤ 100)
def fewF (x : Sc) : Bool := decide (x.obs.length ≤ 100) && decide (x.prs.length ≤ 100) && decide (x.pis.length ≤ 8000) && x.prs.all fewP

section
variable {w : World} {B : Nat} {x : Sc}

set_option maxHeartbeats 400000 in
theorem few_any (h : Lies w B x) (hB : B ≤ w.heap.size) (r : Bool) (hr : fewF x = r) :
    Calls Tryz.prog 10 #[x.agg] w fun e w' => e = .returned (.bool r) ∧ Kept (fun _ => False) w w' := by
  have hm1 := h.prs.row.1
  unfold maxLen at hm1
  have HX := Lib.hid (h.kept ((Kept.refl (fun _ => False) w).alloc (.cells #[.slice x.os x.obs.length x.oc, .slice x.ps x.prs.length x.pc, .slice x.ks x.pis.length x.kc] 26)) hB (fun _ _ f => f)); clear h
  unfold fewF at hr
  by_cases h1 : x.obs.length ≤ 100
  case neg =>
    have h1' : (100 : Int) < (x.obs.length : Int) := by omega
    rw [decide_eq_false h1] at hr
    obtain rfl : false = r := hr
    go_enter Tryz.func10, Tryz.ntmps10
    go_wp2_with fail
    go_ret
    exact ⟨rfl, (Kept.refl _ w).alloc _⟩
  have h1' : ¬ ((100 : Int) < (x.obs.length : Int)) := by omega
  rw [decide_eq_true h1, Bool.true_and] at hr
  clear h1
  by_cases h2 : x.prs.length ≤ 100
  case neg =>
    have h2' : (100 : Int) < (x.prs.length : Int) := by omega
    rw [decide_eq_false h2] at hr
    obtain rfl : false = r := hr
    go_enter Tryz.func10, Tryz.ntmps10
    go_wp2_with fail
    go_ret
    exact ⟨rfl, (Kept.refl _ w).alloc _⟩
  have h2' : ¬ ((100 : Int) < (x.prs.length : Int)) := by omega
  rw [decide_eq_true h2, Bool.true_and] at hr
  clear h2
  by_cases h3 : x.pis.length ≤ 8000
  case neg =>
    have h3' : (8000 : Int) < (x.pis.length : Int) := by omega
    rw [decide_eq_false h3] at hr
    obtain rfl : false = r := hr
    go_enter Tryz.func10, Tryz.ntmps10
    go_wp2_with fail
    go_ret
    exact ⟨rfl, (Kept.refl _ w).alloc _⟩
  have h3' : ¬ ((8000 : Int) < (x.pis.length : Int)) := by omega
  rw [decide_eq_true h3, Bool.true_and] at hr
  clear h3
  have HR := Lib.hid hr; clear hr
  go_enter Tryz.func10, Tryz.ntmps10
  go_wp2_with fail
  go_loopw [3] (fun i wr => ∃ k : Nat, i = .int .i64 k ∧ k ≤ x.prs.length ∧ (x.prs.take k).all fewP = true ∧ wr = w.alloc (.cells #[.slice x.os x.obs.length x.oc, .slice x.ps x.prs.length x.pc, .slice x.ks x.pis.length x.kc] 26)) (fun i _ => x.prs.length - (intOf i).toNat)
  case atStart => exact ⟨0, rfl, by omega, rfl, rfl⟩
  case round =>
    obtain ⟨k, rfl, hk1, hall, rfl⟩ := hrel
    have HALL := Lib.hid hall; clear hall
    by_cases hkk : k < x.prs.length
    · obtain ⟨p, hp⟩ : ∃ p, x.prs[k]? = some p := ⟨_, List.getElem?_eq_getElem hkk⟩
      obtain ⟨g, off, hps, hg, c0⟩ := pr_at HX.out.prs.row hp
      obtain ⟨os, oc, obs, ps, pc, prs, ks, kc, pis⟩ := x
      obtain rfl : ps = some ⟨g, off, none⟩ := hps
      have hkk2 : k < prs.length := hkk
      have HP := Lib.hid hp; clear hp
      by_cases hf : p.ops.length ≤ 100
      · have hf' : ¬ ((100 : Int) < (p.ops.length : Int)) := by omega
        have hs : fewP p = true := decide_eq_true hf
        clear hf
        go_wp2_with fail
        go_roundw
        case rel => exact ⟨k + 1, by go_num, by omega, by rw [all_next fewP HP.out, HALL.out, hs]; rfl, by first | rfl | trivial⟩
        case measure => simp [intOf]; omega
      · have hf' : (100 : Int) < (p.ops.length : Int) := by omega
        have hs : fewP p = false := decide_eq_false hf
        obtain rfl : false = r := by rw [← HR.out, all_false HP.out hs]
        clear hf
        go_wp2_with fail
        go_ret
        exact ⟨rfl, (Kept.refl _ w).alloc _⟩
    · obtain rfl : true = r := by rw [← HR.out, all_done hkk HALL.out]
      go_wp2_with fail
      go_ret
      exact ⟨rfl, (Kept.refl _ w).alloc _⟩
end
end Er
end Go.Proofs.YtbodlaiakcoabaaGreatDoor
end
