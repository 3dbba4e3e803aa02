/-
  A region that draws its order, by a condition that each operation keeps.
  Conditions: none; these are lemmas on the machine.
  Rows laid in a region that draws its order: what each operation yields, and that it stays so.
  Conditions: none; these are lemmas for the walks.
-/
import Derived.Test.YtbodlaiakcoabaaGreatDoorKept
import Derived.Orders
import Derived.WalkKit
import Derived.Test.YtbodlaiakcoabaaGreatDoorRepWaitR
section
namespace Go.Proofs.YtbodlaiakcoabaaGreatDoor
open Go.RowKit

theorem count_set : ∀ (l : List Bool) (i : Nat), l[i]? = some false → (l.set i true).count false + 1 = l.count false
  | [], i, h => by simp at h
  | b :: l, 0, h => by
    simp only [List.getElem?_cons_zero, Option.some.injEq] at h
    subst h
    simp [List.set_cons_zero]
  | b :: l, i + 1, h => by
    simp only [List.getElem?_cons_succ] at h
    have := count_set l i h
    simp only [List.set_cons_succ, List.count_cons]
    omega

section
variable {P : Program} {md : Region.Mode} {ops : Array Oper} {Q : Exit → Act → World → Prop}

theorem ready_of {listed : Array Bool} {i : Nat} (h : i ∈ Region.ready md ops listed) : i < ops.size ∧ listed.getD i true = false ∧ ((ops[i]?).map (·.after.all fun e => !Region.binds md e || listed.getD e.on false)).getD false = true := by
  simp only [Region.ready, List.mem_filter, List.mem_range, Bool.and_eq_true, Bool.not_eq_true'] at h
  exact ⟨h.1, h.2.1, h.2.2⟩
theorem ready_in {listed : Array Bool} {i : Nat} (h : Region.ready md ops listed = []) (hi : i < ops.size) (hd : ((ops[i]?).map (·.after.all fun e => !Region.binds md e || listed.getD e.on false)).getD false = true) : listed.getD i true = true := by
  cases hl : listed.getD i true
  · have : i ∈ Region.ready md ops listed := by
      simp only [Region.ready, List.mem_filter, List.mem_range, Bool.and_eq_true, Bool.not_eq_true']
      exact ⟨hi, hl, hd⟩
    rw [h] at this
    cases this
  · rfl

theorem wpAny_inv (I : Array Bool → Act → World → Prop)
    (hstep : ∀ listed a w i, listed.size = ops.size → I listed a w → i ∈ Region.ready md ops listed → wpOp P ops Q i (I (listed.setIfInBounds i true)) a w)
    (hend : ∀ listed a w, listed.size = ops.size → I listed a w → Region.ready md ops listed = [] → Q .normal a w) :
    ∀ (fuel : Nat) (listed : Array Bool) (a : Act) (w : World), listed.size = ops.size → listed.toList.count false ≤ fuel → I listed a w → wpAny P md ops Q fuel listed a w := by
  intro fuel
  induction fuel with
  | zero =>
    intro listed a w hs hc hI
    have hr : Region.ready md ops listed = [] := by
      rcases hq : Region.ready md ops listed with _ | ⟨i, rest⟩
      · rfl
      · have hi : i ∈ Region.ready md ops listed := by rw [hq]; simp
        obtain ⟨h1, h2, _⟩ := ready_of hi
        have hm : false ∈ listed.toList := by
          have hlt : i < listed.size := by omega
          rw [Array.getD_eq_getD_getElem?, Array.getElem?_eq_getElem hlt, Option.getD_some] at h2
          rw [← h2]; simp
        have := List.count_pos_iff.2 hm
        omega
    exact ⟨hr, hend _ _ _ hs hI hr⟩
  | succ fuel ih =>
    intro listed a w hs hc hI
    refine ⟨hend _ _ _ hs hI, fun i hi => wpOp_mono (fun a' w' h' => ih _ a' w' (by simpa using hs) ?_ h') (hstep _ _ _ i hs hI hi)⟩
    obtain ⟨h1, h2, _⟩ := ready_of hi
    have hlt : i < listed.size := by omega
    rw [Array.getD_eq_getD_getElem?, Array.getElem?_eq_getElem hlt, Option.getD_some] at h2
    have := count_set listed.toList i (by rw [Array.getElem?_toList, Array.getElem?_eq_getElem hlt, h2])
    rw [Array.toList_setIfInBounds]
    omega

theorem wpOp_open {I : Act → World → Prop} {i : Nat} {o : Oper} {a : Act} {w : World} (hi : ops[i]? = some o) (h : ∀ K : Act → World → Prop, Hid (∀ a' w', I a' w' → K a' w') → if Region.wanted o (yielded ops a.tmps) = true then o.wp P a w K Q else K (a.put o.dst undef) w) : wpOp P ops Q i I a w := by
  have h' := h I (Lib.hid (fun _ _ h => h))
  unfold wpOp
  rw [hi]
  dsimp only
  split at h'
  · rename_i hw; rw [if_pos hw]; exact .inl h'
  · rename_i hw; rw [if_neg hw]; exact h'

theorem getD_set {listed : Array Bool} {i j : Nat} {b : Bool} (hi : i < listed.size) : (listed.setIfInBounds i true).getD j b = if j = i then true else listed.getD j b := by
  simp only [Array.getD_eq_getD_getElem?, Array.getElem?_setIfInBounds]
  by_cases h : j = i
  · subst h; simp [hi]
  · simp [h, Ne.symm h]
end

end Go.Proofs.YtbodlaiakcoabaaGreatDoor
end
section
namespace Go.Proofs.YtbodlaiakcoabaaGreatDoor
open Go.RowKit
set_option linter.unusedSimpArgs false
set_option linter.unusedVariables false
set_option maxRecDepth 100000

def PEq (c : Value) : World → Value → Prop := fun _ v => v = c
def PFit (κ : Nat → Nat) (q : Mk → Bool) : World → Value → Prop := fun w v => ∃ f c, v = .func (.func f) #[] c ∧ Fit0 κ w f c q
def PFits (κ : Nat → Nat) (q : Mk → Bool) : World → Value → Prop := fun w v => ∃ g f c, v = .slice (some ⟨g, 0, none⟩) 1 1 ∧ Fit0 κ w f c q ∧ ElemsQ (fun g => κ g = 0) w (some ⟨g, 0, none⟩) 1 Fc.cells [⟨f, c⟩]
def PLook (κ : Nat → Nat) (L : List Mk → Bool × Bool) : World → Value → Prop := fun w v => ∃ f c, v = .func (.func f) #[] c ∧ Looks κ w f c L
def PInts (κ : Nat → Nat) (a : Int) : World → Value → Prop := fun w v => ∃ g, v = .slice (some ⟨g, 0, none⟩) 1 1 ∧ ElemsQ (fun g => κ g = 0) w (some ⟨g, 0, none⟩) 1 intC [a]
def PCome (κ : Nat → Nat) (R : List Int) : World → Value → Prop := fun w v => ∃ f c, v = .func (.func f) #[] c ∧ Comes κ w f c R
def PRow (κ : Nat → Nat) (r : Rw) : World → Value → Prop := fun w v => ∃ f c g d, v = .agg #[.func (.func f) #[] c, .func (.func g) #[] d] ∧ Looks κ w f c r.look ∧ Comes κ w g d r.to
def PRows (κ : Nat → Nat) (rs : List Rw) : World → Value → Prop := fun w v => ∃ s n c xs, v = .slice s n c ∧ n = xs.length ∧ RowsIn κ w s xs rs

/-- It stays so. -/
def Stay (P : World → Value → Prop) : Prop := ∀ w w' v, Kept (fun _ => False) w w' → P w v → P w' v
theorem stay_eq (c : Value) : Stay (PEq c) := fun _ _ _ _ h => h
theorem stay_fit (κ : Nat → Nat) (q : Mk → Bool) : Stay (PFit κ q) := fun _ _ _ hk ⟨f, c, e, h⟩ => ⟨f, c, e, h.lat (Lat.of0 hk)⟩
theorem stay_fits (κ : Nat → Nat) (q : Mk → Bool) : Stay (PFits κ q) := fun _ _ _ hk ⟨g, f, c, e, h, h2⟩ => ⟨g, f, c, e, h.lat (Lat.of0 hk), h2.lat (Lat.of0 hk)⟩
theorem stay_look (κ : Nat → Nat) (L : List Mk → Bool × Bool) : Stay (PLook κ L) := fun _ _ _ hk ⟨f, c, e, h⟩ => ⟨f, c, e, h.lat (Lat.of0 hk)⟩
theorem stay_ints (κ : Nat → Nat) (a : Int) : Stay (PInts κ a) := fun _ _ _ hk ⟨g, e, h⟩ => ⟨g, e, h.lat (Lat.of0 hk)⟩
theorem stay_come (κ : Nat → Nat) (R : List Int) : Stay (PCome κ R) := fun _ _ _ hk ⟨f, c, e, h⟩ => ⟨f, c, e, h.lat (Lat.of0 hk)⟩
theorem stay_row (κ : Nat → Nat) (r : Rw) : Stay (PRow κ r) := fun _ _ _ hk ⟨f, c, g, d, e, h, h2⟩ => ⟨f, c, g, d, e, h.lat (Lat.of0 hk), h2.lat (Lat.of0 hk)⟩
theorem stay_rows (κ : Nat → Nat) (rs : List Rw) : Stay (PRows κ rs) := fun _ _ _ hk ⟨s, n, c, xs, e, h, h2⟩ => ⟨s, n, c, xs, e, h, h2.lat (Lat.of0 hk)⟩

/-- Each of them stays so. -/
def StayAll : List (World → Value → Prop) → Prop
  | [] => True
  | P :: Ps => Stay P ∧ StayAll Ps
theorem StayAll.at_ : ∀ {Ps : List (World → Value → Prop)}, StayAll Ps → ∀ (i : Nat) (P : World → Value → Prop), Ps[i]? = some P → Stay P
  | [], _, i, P, h => by simp at h
  | Q :: Ps, hs, 0, P, h => by simp only [List.getElem?_cons_zero, Option.some.injEq] at h; subst h; exact hs.1
  | Q :: Ps, hs, i + 1, P, h => StayAll.at_ hs.2 i P (by simpa using h)

/-- What the operations that have come up have yielded. -/
structure FG (W3 : World) (Ps : List (World → Value → Prop)) (l : Array Bool) (w : World) (vs : List Value) : Prop where
  kept : Kept (fun _ => False) W3 w
  at_ : ∀ (i : Nat) (P : World → Value → Prop) (v : Value), Ps[i]? = some P → vs[i]? = some v → l.getD i false = true → P w v
theorem FG.step {W3 : World} {Ps : List (World → Value → Prop)} {l l' : Array Bool} {w w' : World} {vs : List Value} (F : FG W3 Ps l w vs) (hP : StayAll Ps) (i : Nat) (hl : ∀ j, j ≠ i → l'.getD j false = true → l.getD j false = true)
    (hk : Kept (fun _ => False) w w') (P : World → Value → Prop) (hi : Ps[i]? = some P) (v' : Value) (hv : P w' v') : FG W3 Ps l' w' (vs.set i v') := by
  refine ⟨F.kept.tr0 hk, fun j Q v hQ hj hf => ?_⟩
  by_cases e : i = j
  · subst e
    rw [hi] at hQ
    simp only [Option.some.injEq] at hQ
    subst hQ
    have hlt : i < (vs.set i v').length := (List.getElem?_eq_some_iff.1 hj).1
    rw [List.getElem?_set_self (by simpa using hlt)] at hj
    simp only [Option.some.injEq] at hj
    subst hj; exact hv
  · rw [List.getElem?_set_ne e] at hj
    exact hP.at_ j Q hQ _ _ _ hk (F.at_ j Q v hQ hj (hl j (fun h => e h.symm) hf))

theorem flag_same {l : Array Bool} {i : Nat} (h : i < l.size) (hl : l.getD i true = true) : l.getD i false = true := by
  rw [Array.getD_eq_getD_getElem?, Array.getElem?_eq_getElem h] at hl ⊢
  exact hl
/-- No operation is left: all have come up. -/
theorem all_ready {ops : Array Oper} {l : Array Bool} (hs : l.size = ops.size) (ho : (List.range ops.size).all (fun i => ((ops[i]?).map (·.after.all fun e => decide (e.on < i))).getD false) = true) (hr : Region.ready .any ops l = []) : ∀ i, i < ops.size → l.getD i false = true := by
  intro i
  induction i using Nat.strongRecOn with
  | ind i ih =>
    intro hi
    refine flag_same (by omega) (ready_in (i := i) hr hi ?_)
    have h := List.all_eq_true.1 ho i (List.mem_range.2 hi)
    cases hc : ops[i]? with
    | none => rw [hc] at h; simp at h
    | some o =>
      rw [hc] at h
      simp only [Option.map_some, Option.getD_some, Array.all_eq_true_iff_forall_mem] at h ⊢
      intro e he
      have h1 := h e he
      simp only [decide_eq_true_eq] at h1
      rw [ih e.on h1 (by omega), Bool.or_true]
theorem flag_none {n i : Nat} (h : (Array.replicate n false).getD i false = true) : False := by
  rw [Array.getD_eq_getD_getElem?, Array.getElem?_replicate] at h
  split at h <;> simp at h
theorem marks_p {κ : Nat → Nat} {w : World} (hW : Wl κ w) {g f : Nat} {c : Array Value} {q : Mk → Bool} (h : Fit0 κ w f c q) (h2 : ElemsQ (fun g => κ g = 0) w (some ⟨g, 0, none⟩) 1 Fc.cells [⟨f, c⟩]) :
    Calls Tryz.prog 54 #[.slice (some ⟨g, 0, none⟩) 1 1] w fun e w' => ∃ f c, e = .returned (.func (.func f) #[] c) ∧ Looks κ w' f c (marksL [fun _ m => q m]) ∧ Kept (fun _ => False) w w' :=
  marks_any κ w _ 1 1 [⟨f, c⟩] [fun _ m => q m] (fun _ _ => True) rfl hW h2 rfl (by simp) (fit0_all (qs := [q]) (fun i x p h1 h2 => by
      match i, h1, h2 with
      | 0, h1, h2 => simp only [List.getElem?_cons_zero, Option.some.injEq] at h1 h2; subst h1 h2; exact h
      | i + 1, h1, h2 => simp at h1) (Lat.refl _ _)) (fun _ => trivial) (fun _ _ _ _ _ => trivial)
theorem to_p {κ : Nat → Nat} {w : World} (hW : Wl κ w) {g : Nat} {a : Int} (h : ElemsQ (fun g => κ g = 0) w (some ⟨g, 0, none⟩) 1 intC [a]) :
    Calls Tryz.prog 55 #[.slice (some ⟨g, 0, none⟩) 1 1] w fun e w' => ∃ f c, e = .returned (.func (.func f) #[] c) ∧ Comes κ w' f c [a] ∧ Kept (fun _ => False) w w' :=
  to_any κ w _ 1 1 [a] rfl (by decide) hW h
theorem fits_p {κ : Nat → Nat} {w : World} (hW : Wl κ w) {f : Nat} {c : Array Value} {q : Mk → Bool} (h : Fit0 κ w f c q) : PFits κ q (w.alloc (.cells #[.func (.func f) #[] c] 150)) (.slice (some ⟨w.heap.size, 0, none⟩) 1 1) :=
  ⟨_, f, c, rfl, h.lat (Lat.of0 ((Kept.refl _ w).alloc _)), fcs_new hW _ _ _ rfl (by simp)⟩
theorem ints_p {κ : Nat → Nat} {w : World} (hW : Wl κ w) (a : Int) : PInts κ a (w.alloc (.cells #[.int .i64 a] 3)) (.slice (some ⟨w.heap.size, 0, none⟩) 1 1) :=
  ⟨_, rfl, ints_new hW _ _ _ rfl (by simp)⟩

end Go.Proofs.YtbodlaiakcoabaaGreatDoor
end
