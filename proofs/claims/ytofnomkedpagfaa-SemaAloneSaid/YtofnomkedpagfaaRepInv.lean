/-
  A region that draws its order, by a condition that each operation keeps.
  Conditions: none; these are lemmas on the machine.
  A region that draws its order, each operation's value known: what the operations that have come up have yielded.
  Conditions: none; these are lemmas for the walks.
-/
import Derived.Test.YtofnomkedpagfaaKept
import Derived.Orders
import Derived.WalkKit
import Derived.Test.YtofnomkedpagfaaCells5
section
namespace Go.Proofs.Ytofnomkedpagfaa
open Go.RowKit

theorem count_set : ∀ (l : List Bool) (i : Nat), l[i]? = some false → (l.set i true).count false + 1 = l.count false
  | [], i, h => by simp at h
  | b :: l, 0, h => by
    simp only [List.getElem?_cons_zero, Option.some.injEq] at h
    subst h
    simp [List.set_cons_zero]
  | b :: l, i + 1, h => by
    simp only [List.getElem?_cons_succ] at h
    have := count_set l i h
    simp only [List.set_cons_succ, List.count_cons]
    omega

section
variable {P : Program} {md : Region.Mode} {ops : Array Oper} {Q : Exit → Act → World → Prop}

theorem ready_of {listed : Array Bool} {i : Nat} (h : i ∈ Region.ready md ops listed) : i < ops.size ∧ listed.getD i true = false ∧ ((ops[i]?).map (·.after.all fun e => !Region.binds md e || listed.getD e.on false)).getD false = true := by
  simp only [Region.ready, List.mem_filter, List.mem_range, Bool.and_eq_true, Bool.not_eq_true'] at h
  exact ⟨h.1, h.2.1, h.2.2⟩
theorem ready_in {listed : Array Bool} {i : Nat} (h : Region.ready md ops listed = []) (hi : i < ops.size) (hd : ((ops[i]?).map (·.after.all fun e => !Region.binds md e || listed.getD e.on false)).getD false = true) : listed.getD i true = true := by
  cases hl : listed.getD i true
  · have : i ∈ Region.ready md ops listed := by
      simp only [Region.ready, List.mem_filter, List.mem_range, Bool.and_eq_true, Bool.not_eq_true']
      exact ⟨hi, hl, hd⟩
    rw [h] at this
    cases this
  · rfl

theorem wpAny_inv (I : Array Bool → Act → World → Prop)
    (hstep : ∀ listed a w i, listed.size = ops.size → I listed a w → i ∈ Region.ready md ops listed → wpOp P ops Q i (I (listed.setIfInBounds i true)) a w)
    (hend : ∀ listed a w, listed.size = ops.size → I listed a w → Region.ready md ops listed = [] → Q .normal a w) :
    ∀ (fuel : Nat) (listed : Array Bool) (a : Act) (w : World), listed.size = ops.size → listed.toList.count false ≤ fuel → I listed a w → wpAny P md ops Q fuel listed a w := by
  intro fuel
  induction fuel with
  | zero =>
    intro listed a w hs hc hI
    have hr : Region.ready md ops listed = [] := by
      rcases hq : Region.ready md ops listed with _ | ⟨i, rest⟩
      · rfl
      · have hi : i ∈ Region.ready md ops listed := by rw [hq]; simp
        obtain ⟨h1, h2, _⟩ := ready_of hi
        have hm : false ∈ listed.toList := by
          have hlt : i < listed.size := by omega
          rw [Array.getD_eq_getD_getElem?, Array.getElem?_eq_getElem hlt, Option.getD_some] at h2
          rw [← h2]; simp
        have := List.count_pos_iff.2 hm
        omega
    exact ⟨hr, hend _ _ _ hs hI hr⟩
  | succ fuel ih =>
    intro listed a w hs hc hI
    refine ⟨hend _ _ _ hs hI, fun i hi => wpOp_mono (fun a' w' h' => ih _ a' w' (by simpa using hs) ?_ h') (hstep _ _ _ i hs hI hi)⟩
    obtain ⟨h1, h2, _⟩ := ready_of hi
    have hlt : i < listed.size := by omega
    rw [Array.getD_eq_getD_getElem?, Array.getElem?_eq_getElem hlt, Option.getD_some] at h2
    have := count_set listed.toList i (by rw [Array.getElem?_toList, Array.getElem?_eq_getElem hlt, h2])
    rw [Array.toList_setIfInBounds]
    omega

theorem wpOp_open {I : Act → World → Prop} {i : Nat} {o : Oper} {a : Act} {w : World} (hi : ops[i]? = some o) (h : ∀ K : Act → World → Prop, Hid (∀ a' w', I a' w' → K a' w') → if Region.wanted o (yielded ops a.tmps) = true then o.wp P a w K Q else K (a.put o.dst undef) w) : wpOp P ops Q i I a w := by
  have h' := h I (Lib.hid (fun _ _ h => h))
  unfold wpOp
  rw [hi]
  dsimp only
  split at h'
  · rename_i hw; rw [if_pos hw]; exact .inl h'
  · rename_i hw; rw [if_neg hw]; exact h'

theorem getD_set {listed : Array Bool} {i j : Nat} {b : Bool} (hi : i < listed.size) : (listed.setIfInBounds i true).getD j b = if j = i then true else listed.getD j b := by
  simp only [Array.getD_eq_getD_getElem?, Array.getElem?_setIfInBounds]
  by_cases h : j = i
  · subst h; simp [hi]
  · simp [h, Ne.symm h]
end

end Go.Proofs.Ytofnomkedpagfaa
end
section
namespace Go.Proofs.Ytofnomkedpagfaa
open Go.RowKit
set_option linter.unusedSimpArgs false
set_option linter.unusedVariables false
set_option maxRecDepth 100000

def PEq (c : Value) : World → Value → Prop := fun _ v => v = c

/-- It stays so. -/
def Stay (P : World → Value → Prop) : Prop := ∀ w w' v, Kept (fun _ => False) w w' → P w v → P w' v
theorem stay_eq (c : Value) : Stay (PEq c) := fun _ _ _ _ h => h

/-- Each of them stays so. -/
def StayAll : List (World → Value → Prop) → Prop
  | [] => True
  | P :: Ps => Stay P ∧ StayAll Ps
theorem StayAll.at_ : ∀ {Ps : List (World → Value → Prop)}, StayAll Ps → ∀ (i : Nat) (P : World → Value → Prop), Ps[i]? = some P → Stay P
  | [], _, i, P, h => by simp at h
  | Q :: Ps, hs, 0, P, h => by simp only [List.getElem?_cons_zero, Option.some.injEq] at h; subst h; exact hs.1
  | Q :: Ps, hs, i + 1, P, h => StayAll.at_ hs.2 i P (by simpa using h)

/-- What the operations that have come up have yielded. -/
structure FG (W3 : World) (Ps : List (World → Value → Prop)) (l : Array Bool) (w : World) (vs : List Value) : Prop where
  kept : Kept (fun _ => False) W3 w
  at_ : ∀ (i : Nat) (P : World → Value → Prop) (v : Value), Ps[i]? = some P → vs[i]? = some v → l.getD i false = true → P w v
theorem FG.step {W3 : World} {Ps : List (World → Value → Prop)} {l l' : Array Bool} {w w' : World} {vs : List Value} (F : FG W3 Ps l w vs) (hP : StayAll Ps) (i : Nat) (hl : ∀ j, j ≠ i → l'.getD j false = true → l.getD j false = true)
    (hk : Kept (fun _ => False) w w') (P : World → Value → Prop) (hi : Ps[i]? = some P) (v' : Value) (hv : P w' v') : FG W3 Ps l' w' (vs.set i v') := by
  refine ⟨F.kept.tr0 hk, fun j Q v hQ hj hf => ?_⟩
  by_cases e : i = j
  · subst e
    rw [hi] at hQ
    simp only [Option.some.injEq] at hQ
    subst hQ
    have hlt : i < (vs.set i v').length := (List.getElem?_eq_some_iff.1 hj).1
    rw [List.getElem?_set_self (by simpa using hlt)] at hj
    simp only [Option.some.injEq] at hj
    subst hj; exact hv
  · rw [List.getElem?_set_ne e] at hj
    exact hP.at_ j Q hQ _ _ _ hk (F.at_ j Q v hQ hj (hl j (fun h => e h.symm) hf))

theorem flag_same {l : Array Bool} {i : Nat} (h : i < l.size) (hl : l.getD i true = true) : l.getD i false = true := by
  rw [Array.getD_eq_getD_getElem?, Array.getElem?_eq_getElem h] at hl ⊢
  exact hl
/-- No operation is left: all have come up. -/
theorem all_ready {ops : Array Oper} {l : Array Bool} (hs : l.size = ops.size) (ho : (List.range ops.size).all (fun i => ((ops[i]?).map (·.after.all fun e => decide (e.on < i))).getD false) = true) (hr : Region.ready .any ops l = []) : ∀ i, i < ops.size → l.getD i false = true := by
  intro i
  induction i using Nat.strongRecOn with
  | ind i ih =>
    intro hi
    refine flag_same (by omega) (ready_in (i := i) hr hi ?_)
    have h := List.all_eq_true.1 ho i (List.mem_range.2 hi)
    cases hc : ops[i]? with
    | none => rw [hc] at h; simp at h
    | some o =>
      rw [hc] at h
      simp only [Option.map_some, Option.getD_some, Array.all_eq_true_iff_forall_mem] at h ⊢
      intro e he
      have h1 := h e he
      simp only [decide_eq_true_eq] at h1
      rw [ih e.on h1 (by omega), Bool.or_true]
theorem flag_none {n i : Nat} (h : (Array.replicate n false).getD i false = true) : False := by
  rw [Array.getD_eq_getD_getElem?, Array.getElem?_replicate] at h
  split at h <;> simp at h
/-- No operation is left: all have come up (all_ready, but for what doesn't bind). -/
theorem all_ready2 {ops : Array Oper} {l : Array Bool} (hs : l.size = ops.size) (ho : (List.range ops.size).all (fun i => ((ops[i]?).map (·.after.all fun e => !Region.binds .any e || decide (e.on < i))).getD false) = true) (hr : Region.ready .any ops l = []) : ∀ i, i < ops.size → l.getD i false = true := by
  intro i
  induction i using Nat.strongRecOn with
  | ind i ih =>
    intro hi
    refine flag_same (by omega) (ready_in (i := i) hr hi ?_)
    have h := List.all_eq_true.1 ho i (List.mem_range.2 hi)
    cases hc : ops[i]? with
    | none => rw [hc] at h; simp at h
    | some o =>
      rw [hc] at h
      simp only [Option.map_some, Option.getD_some, Array.all_eq_true_iff_forall_mem] at h ⊢
      intro e he
      have h1 := h e he
      rcases Bool.or_eq_true_iff.1 h1 with h2 | h2
      · rw [h2, Bool.true_or]
      · rw [ih e.on (of_decide_eq_true h2) (by have := of_decide_eq_true h2; omega), Bool.or_true]
/-- A call of a Go function by its contract, in a region that draws. -/
theorem step_call {ops : Array Oper} {o : Oper} {a : Act} {K : Act → World → Prop} {Q : Exit → Act → World → Prop} {E : Prop} {w : World} (hgd : o.guard = none) (f : FuncId) (args : Array Value) (hrun : (execOp a.eval o).run Try.prog w = .ok (.enter f args) w) {P : Value → World → Prop} {R : Ending → World → Prop} (hc : Calls Try.prog f args w R) (hR : ∀ e w', R e w' → ∃ v, e = .returned v ∧ P v w')
    (h : ∀ v w', P v w' → K (a.put o.dst v) w') : if Region.wanted o (yielded ops a.tmps) = true then Oper.wp Try.prog o a w K Q else E := by
  rw [if_pos (by simp [Region.wanted, hgd])]
  unfold Oper.wp
  rw [hrun, Oper.upon_enter]
  refine hc.mono fun e w'' hh => ?_
  obtain ⟨v, rfl, hv⟩ := hR e w'' hh
  exact h v w'' hv

end Go.Proofs.Ytofnomkedpagfaa
end
