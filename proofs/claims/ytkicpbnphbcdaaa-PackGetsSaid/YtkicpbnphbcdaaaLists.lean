/-
  What package prog's calls of whole lists and of a script come to.
  Conditions: the slices read as these lists, in blocks that were there.
-/
import Derived.Test.YtkicpbnphbcdaaaMays
import Derived.LoopTactic
namespace Go.Proofs.Ytkicpbnphbcdaaa
open Go.RowKit

theorem all_next {α : Type} (f : α → Bool) {xs : List α} {k : Nat} {x : α} (hx : xs[k]? = some x) : (xs.take (k + 1)).all f = ((xs.take k).all f && f x) := by
  obtain ⟨hk, e⟩ := List.getElem?_eq_some_iff.1 hx
  rw [List.take_succ_eq_append_getElem hk, List.all_append, e]; simp
theorem all_false {α : Type} {f : α → Bool} {xs : List α} {k : Nat} {x : α} (hx : xs[k]? = some x) (hf : f x = false) : xs.all f = false :=
  List.all_eq_false.2 ⟨x, List.mem_of_getElem? hx, by simp [hf]⟩
theorem all_done {α : Type} {f : α → Bool} {xs : List α} {k : Nat} (hk : ¬ k < xs.length) (h : (xs.take k).all f = true) : xs.all f = true := by
  rwa [List.take_of_length_le (by omega)] at h

def progF (m : Nat) (p : Pr) : Bool := p.ops.all (clF m)
def smallF (p : Pr) : Bool := decide (p.ops.length ≤ 16)
/-- There is more of something than there may be. -/
def largeF (x : Sc) : Bool := !(decide (x.obs.length ≤ 6) && decide (x.prs.length ≤ 8) && decide (x.pis.length ≤ 4000) && x.prs.all smallF)
/-- There is some of all that there must be, and all is as it may be. -/
def goodF (x : Sc) : Bool := x.obs.length != 0 && x.prs.length != 0 && x.obs.all obF && x.prs.all (progF x.obs.length) && x.pis.all piF

theorem objects_may {w : World} {B : Nat} {s : Option Addr} {xs : List Ob} (cap : Nat) (h : Elems w B s 3 Ob.cells xs) (hB : B ≤ w.heap.size) (r : Bool) (hr : xs.all obF = r) :
    Calls Try.prog 39 #[.slice s xs.length cap] w fun e w' => e = .returned (.bool r) ∧ Kept (fun _ => False) w w' := by
  have hmax := h.1
  unfold maxLen at hmax
  have HX := Lib.hid h; clear h
  have HR := Lib.hid hr; clear hr
  go_enter Try.func39, Try.ntmps39
  go_wp2_with fail
  go_loopw [7] (fun i wr => ∃ k : Nat, i = .int .i64 k ∧ k ≤ xs.length ∧ (xs.take k).all obF = true ∧ Kept (fun _ => False) w wr) (fun i _ => xs.length - (intOf i).toNat)
  case atStart => exact ⟨0, rfl, by omega, rfl, Kept.refl _ _⟩
  case round =>
    obtain ⟨k, rfl, hk1, hall, hk⟩ := hrel
    have HALL := Lib.hid hall; clear hall
    by_cases hkk : k < xs.length
    · obtain ⟨x, hx⟩ : ∃ x, xs[k]? = some x := ⟨_, List.getElem?_eq_getElem hkk⟩
      obtain ⟨g, off, rfl, hg, c0, c1, c2⟩ := ob_at (HX.out.kept hk hB (fun _ _ f => f)) hx
      have HK := Lib.hid hk; clear hk
      have HXX := Lib.hid hx; clear hx
      cases hf : obF x
      · obtain rfl : r = false := by rw [← HR.out]; exact all_false HXX.out hf
        go_wp2_with fail
        refine (object_any x _ _ hf).mono ?_
        rintro e w2 ⟨rfl, hk2⟩
        go_wp2_with fail
        go_ret
        exact ⟨rfl, (HK.out.alloc _).trans hk2 (fun _ _ f => f)⟩
      · go_wp2_with fail
        refine (object_any x _ _ hf).mono ?_
        rintro e w2 ⟨rfl, hk2⟩
        go_wp2_with fail
        go_roundw
        case rel => exact ⟨k + 1, by go_num, by omega, by rw [all_next obF HXX.out, HALL.out, hf]; rfl, (HK.out.alloc _).trans hk2 (fun _ _ f => f)⟩
        case measure => simp [intOf]; omega
    · obtain rfl : r = true := by rw [← HR.out]; exact all_done hkk HALL.out
      go_wp2_with fail
      go_ret
      exact ⟨rfl, hk⟩

theorem picks_may {w : World} {B : Nat} {s : Option Addr} {xs : List Pi} (cap : Nat) (h : Elems w B s 2 Pi.cells xs) (hB : B ≤ w.heap.size) (r : Bool) (hr : xs.all piF = r) :
    Calls Try.prog 41 #[.slice s xs.length cap] w fun e w' => e = .returned (.bool r) ∧ Kept (fun _ => False) w w' := by
  have hmax := h.1
  unfold maxLen at hmax
  have HX := Lib.hid h; clear h
  have HR := Lib.hid hr; clear hr
  go_enter Try.func41, Try.ntmps41
  go_wp2_with fail
  go_loopw [7] (fun i wr => ∃ k : Nat, i = .int .i64 k ∧ k ≤ xs.length ∧ (xs.take k).all piF = true ∧ Kept (fun _ => False) w wr) (fun i _ => xs.length - (intOf i).toNat)
  case atStart => exact ⟨0, rfl, by omega, rfl, Kept.refl _ _⟩
  case round =>
    obtain ⟨k, rfl, hk1, hall, hk⟩ := hrel
    have HALL := Lib.hid hall; clear hall
    by_cases hkk : k < xs.length
    · obtain ⟨x, hx⟩ : ∃ x, xs[k]? = some x := ⟨_, List.getElem?_eq_getElem hkk⟩
      obtain ⟨g, off, rfl, hg, c0, c1⟩ := pi_at (HX.out.kept hk hB (fun _ _ f => f)) hx
      have HK := Lib.hid hk; clear hk
      have HXX := Lib.hid hx; clear hx
      cases hf : piF x
      · obtain rfl : r = false := by rw [← HR.out]; exact all_false HXX.out hf
        go_wp2_with fail
        refine (pick_may x _ _ hf).mono ?_
        rintro e w2 ⟨rfl, hk2⟩
        go_wp2_with fail
        go_ret
        exact ⟨rfl, (HK.out.alloc _).trans hk2 (fun _ _ f => f)⟩
      · go_wp2_with fail
        refine (pick_may x _ _ hf).mono ?_
        rintro e w2 ⟨rfl, hk2⟩
        go_wp2_with fail
        go_roundw
        case rel => exact ⟨k + 1, by go_num, by omega, by rw [all_next piF HXX.out, HALL.out, hf]; rfl, (HK.out.alloc _).trans hk2 (fun _ _ f => f)⟩
        case measure => simp [intOf]; omega
    · obtain rfl : r = true := by rw [← HR.out]; exact all_done hkk HALL.out
      go_wp2_with fail
      go_ret
      exact ⟨rfl, hk⟩

set_option maxHeartbeats 400000 in
theorem programs_may {w : World} {B : Nat} {s : Option Addr} {xs : List Pr} (cap m : Nat) (h : Prs w B s xs) (hB : B ≤ w.heap.size) (r : Bool) (hr : xs.all (progF m) = r) :
    Calls Try.prog 40 #[.slice s xs.length cap, .int .i64 m] w fun e w' => e = .returned (.bool r) ∧ Kept (fun _ => False) w w' := by
  have hmax := h.row.1
  unfold maxLen at hmax
  have HX := Lib.hid h; clear h
  have HR := Lib.hid hr; clear hr
  go_enter Try.func40, Try.ntmps40
  go_wp2_with fail
  go_loopw [11] (fun i wr => ∃ k : Nat, i = .int .i64 k ∧ k ≤ xs.length ∧ (xs.take k).all (progF m) = true ∧ Kept (fun _ => False) w wr) (fun i _ => xs.length - (intOf i).toNat)
  case atStart => exact ⟨0, rfl, by omega, rfl, Kept.refl _ _⟩
  case round =>
    obtain ⟨k, rfl, hk1, hall, hk⟩ := hrel
    have HALL := Lib.hid hall; clear hall
    by_cases hkk : k < xs.length
    · obtain ⟨p, hp⟩ : ∃ p, xs[k]? = some p := ⟨_, List.getElem?_eq_getElem hkk⟩
      obtain ⟨g, off, rfl, hg, c0⟩ := pr_at (HX.out.row.kept hk hB (fun _ _ f => f)) hp
      have HOPS := Lib.hid (HX.out.ops p (List.mem_of_getElem? hp))
      have hpm := HOPS.out.1
      unfold maxLen at hpm
      have HK := Lib.hid hk; clear hk
      have HP := Lib.hid hp; clear hp
      go_wp2_with fail
      go_loopw [17] (fun i wr => ∃ j : Nat, i = .int .i64 j ∧ j ≤ p.ops.length ∧ (p.ops.take j).all (clF m) = true ∧ Kept (fun _ => False) w wr) (fun i _ => p.ops.length - (intOf i).toNat)
      case atStart => exact ⟨0, rfl, by omega, rfl, HK.out⟩
      case round =>
        clear c0 HK
        obtain ⟨j, rfl, hj1, hallj, hk⟩ := hrel
        have HALJ := Lib.hid hallj; clear hallj
        by_cases hjj : j < p.ops.length
        · obtain ⟨x, hx⟩ : ∃ x, p.ops[j]? = some x := ⟨_, List.getElem?_eq_getElem hjj⟩
          obtain ⟨g2, off2, hps, hg2, d0, d1, d2, d3, d4⟩ := cl_at (HOPS.out.kept hk hB (fun _ _ f => f)) hx
          obtain ⟨ps, pcap, pops⟩ := p
          obtain rfl : ps = some ⟨g2, off2, none⟩ := hps
          have HK := Lib.hid hk; clear hk
          have HXX := Lib.hid hx; clear hx
          cases hf : clF m x
          · obtain rfl : r = false := by rw [← HR.out]; exact all_false HP.out (all_false HXX.out hf)
            go_wp2_with fail
            refine (op_may x m _ _ hf).mono ?_
            rintro e w2 ⟨rfl, hk2⟩
            go_wp2_with fail
            go_ret
            exact ⟨rfl, (HK.out.alloc _).trans hk2 (fun _ _ f => f)⟩
          · go_wp2_with fail
            refine (op_may x m _ _ hf).mono ?_
            rintro e w2 ⟨rfl, hk2⟩
            go_wp2_with fail
            go_roundw
            case rel => exact ⟨j + 1, by go_num, by omega, by rw [all_next (clF m) HXX.out, HALJ.out, hf]; rfl, (HK.out.alloc _).trans hk2 (fun _ _ f => f)⟩
            case measure => simp [intOf]; omega
        · have HK := Lib.hid hk; clear hk
          have hpf := Lib.hid (show progF m p = true from all_done hjj HALJ.out)
          go_wp2_with fail
          go_roundw
          case rel =>
            have hrel2 : ∃ k' : Nat, Value.int .i64 ((k : Int) + 1) = .int .i64 k' ∧ k' ≤ xs.length ∧ (xs.take k').all (progF m) = true ∧ Kept (fun _ => False) w wr := ⟨k + 1, by go_num, by omega, by rw [all_next (progF m) HP.out, HALL.out, hpf.out]; rfl, HK.out⟩
            first | exact hrel2 | ((repeat apply Exists.intro); exact ⟨hrel2, rfl⟩)
          case measure => simp [intOf]; omega
    · obtain rfl : r = true := by rw [← HR.out]; exact all_done hkk HALL.out
      go_wp2_with fail
      go_ret
      exact ⟨rfl, hk⟩

end Go.Proofs.Ytkicpbnphbcdaaa
