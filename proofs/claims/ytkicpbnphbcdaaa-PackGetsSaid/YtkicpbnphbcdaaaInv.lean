/-
  A region that draws its order, by a condition that each operation keeps.
  Conditions: none; these are lemmas on the machine.
-/
import Derived.Test.YtkicpbnphbcdaaaKept
import Derived.Orders
import Derived.WalkKit
namespace Go.Proofs.Ytkicpbnphbcdaaa
open Go.RowKit

theorem count_set : ∀ (l : List Bool) (i : Nat), l[i]? = some false → (l.set i true).count false + 1 = l.count false
  | [], i, h => by simp at h
  | b :: l, 0, h => by
    simp only [List.getElem?_cons_zero, Option.some.injEq] at h
    subst h
    simp [List.set_cons_zero]
  | b :: l, i + 1, h => by
    simp only [List.getElem?_cons_succ] at h
    have := count_set l i h
    simp only [List.set_cons_succ, List.count_cons]
    omega

section
variable {P : Program} {md : Region.Mode} {ops : Array Oper} {Q : Exit → Act → World → Prop}

theorem ready_of {listed : Array Bool} {i : Nat} (h : i ∈ Region.ready md ops listed) : i < ops.size ∧ listed.getD i true = false ∧ ((ops[i]?).map (·.after.all fun e => !Region.binds md e || listed.getD e.on false)).getD false = true := by
  simp only [Region.ready, List.mem_filter, List.mem_range, Bool.and_eq_true, Bool.not_eq_true'] at h
  exact ⟨h.1, h.2.1, h.2.2⟩
theorem ready_in {listed : Array Bool} {i : Nat} (h : Region.ready md ops listed = []) (hi : i < ops.size) (hd : ((ops[i]?).map (·.after.all fun e => !Region.binds md e || listed.getD e.on false)).getD false = true) : listed.getD i true = true := by
  cases hl : listed.getD i true
  · have : i ∈ Region.ready md ops listed := by
      simp only [Region.ready, List.mem_filter, List.mem_range, Bool.and_eq_true, Bool.not_eq_true']
      exact ⟨hi, hl, hd⟩
    rw [h] at this
    cases this
  · rfl

theorem wpAny_inv (I : Array Bool → Act → World → Prop)
    (hstep : ∀ listed a w i, listed.size = ops.size → I listed a w → i ∈ Region.ready md ops listed → wpOp P ops Q i (I (listed.setIfInBounds i true)) a w)
    (hend : ∀ listed a w, listed.size = ops.size → I listed a w → Region.ready md ops listed = [] → Q .normal a w) :
    ∀ (fuel : Nat) (listed : Array Bool) (a : Act) (w : World), listed.size = ops.size → listed.toList.count false ≤ fuel → I listed a w → wpAny P md ops Q fuel listed a w := by
  intro fuel
  induction fuel with
  | zero =>
    intro listed a w hs hc hI
    have hr : Region.ready md ops listed = [] := by
      rcases hq : Region.ready md ops listed with _ | ⟨i, rest⟩
      · rfl
      · have hi : i ∈ Region.ready md ops listed := by rw [hq]; simp
        obtain ⟨h1, h2, _⟩ := ready_of hi
        have hm : false ∈ listed.toList := by
          have hlt : i < listed.size := by omega
          rw [Array.getD_eq_getD_getElem?, Array.getElem?_eq_getElem hlt, Option.getD_some] at h2
          rw [← h2]; simp
        have := List.count_pos_iff.2 hm
        omega
    exact ⟨hr, hend _ _ _ hs hI hr⟩
  | succ fuel ih =>
    intro listed a w hs hc hI
    refine ⟨hend _ _ _ hs hI, fun i hi => wpOp_mono (fun a' w' h' => ih _ a' w' (by simpa using hs) ?_ h') (hstep _ _ _ i hs hI hi)⟩
    obtain ⟨h1, h2, _⟩ := ready_of hi
    have hlt : i < listed.size := by omega
    rw [Array.getD_eq_getD_getElem?, Array.getElem?_eq_getElem hlt, Option.getD_some] at h2
    have := count_set listed.toList i (by rw [Array.getElem?_toList, Array.getElem?_eq_getElem hlt, h2])
    rw [Array.toList_setIfInBounds]
    omega

theorem wpOp_open {I : Act → World → Prop} {i : Nat} {o : Oper} {a : Act} {w : World} (hi : ops[i]? = some o) (h : ∀ K : Act → World → Prop, Hid (∀ a' w', I a' w' → K a' w') → if Region.wanted o (yielded ops a.tmps) = true then o.wp P a w K Q else K (a.put o.dst undef) w) : wpOp P ops Q i I a w := by
  have h' := h I (Lib.hid (fun _ _ h => h))
  unfold wpOp
  rw [hi]
  dsimp only
  split at h'
  · rename_i hw; rw [if_pos hw]; exact .inl h'
  · rename_i hw; rw [if_neg hw]; exact h'

theorem getD_set {listed : Array Bool} {i j : Nat} {b : Bool} (hi : i < listed.size) : (listed.setIfInBounds i true).getD j b = if j = i then true else listed.getD j b := by
  simp only [Array.getD_eq_getD_getElem?, Array.getElem?_setIfInBounds]
  by_cases h : j = i
  · subst h; simp [hi]
  · simp [h, Ne.symm h]
end

end Go.Proofs.Ytkicpbnphbcdaaa
