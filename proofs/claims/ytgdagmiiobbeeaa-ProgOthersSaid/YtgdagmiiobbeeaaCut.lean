/-
  A script of the call's own that is made shorter: fewer picks, fewer calls.
  Conditions: none; these are lemmas for the walks.
-/
import Derived.Test.YtgdagmiiobbeeaaOwned
import Derived.Test.YtgdagmiiobbeeaaLists
import Derived.Test.YtgdagmiiobbeeaaCopyInv
namespace Go.Proofs.Ytgdagmiiobbeeaa
open Go.RowKit

section
variable {α : Type} {W c m : Nat} {R : Nat → Prop} {w w' : World} {A : Option Addr} {f : α → List Value} {ys : List α}
theorem Made.take (h : Made W w A c m f ys) (k : Nat) : Made W w A c m f (ys.take k) :=
  ⟨h.elems.take k, by have := h.cap; rw [List.length_take]; omega, fun hne => h.new (by rintro rfl; simp at hne)⟩
theorem Off.take (h : Off W R w A c m f ys) (k : Nat) : Off W R w A c m f (ys.take k) := ⟨h.1.take k, fun hne => h.2 (by rintro rfl; simp at hne)⟩
/-- Apart from what is new. -/
theorem Off.old (h : Off W R w A c m f ys) : Off W (fun g => R g ∨ w.heap.size ≤ g) w A c m f ys :=
  ⟨h.1, fun hne g e hr => hr.elim (h.2 hne g e) (fun hg => by
    obtain ⟨g', e', _, hlt⟩ := h.1.new hne
    rw [e] at e'
    simp only [Option.some.injEq, Addr.mk.injEq, and_true] at e'
    omega)⟩
end

section
variable {W : Nat} {R : Nat → Prop} {w w' : World} {y : Sc}
/-- A variable is made behind it. -/
theorem Owned.var (h : Owned W R w y) (o : Obj) : Owned W (fun g => g = w.heap.size) (w.alloc o) y := by
  have hk : Kept (fun _ => False) w (w.alloc o) := (Kept.refl _ w).alloc o
  have hq : ∀ {α : Type} {A : Option Addr} {c m : Nat} {f : α → List Value} {ys : List α}, Off W (fun g => R g ∨ y.row = some g) w A c m f ys → Off W (fun g => g = w.heap.size ∨ y.row = some g) (w.alloc o) A c m f ys := by
    intro α A c m f ys hO
    refine hO.old.step hk (fun _ f => f.elim) (fun g hg hn hr => hn ?_)
    rcases hr with hr | hr
    · exact .inr (by omega)
    · exact .inl (.inr hr)
  exact ⟨hq h.obs, hq h.pis, fun p hp => hq (h.ops p hp), own_kept h.own hk (fun _ _ f => f), fun g hg e => by have := (World.ownsRow.lt h.own g hg).2; omega, h.few⟩
/-- Fewer picks. -/
theorem Owned.picks (h : Owned W R w y) (k : Nat) : Owned W R w { y with pis := y.pis.take k } := ⟨h.obs, h.pis.take k, h.ops, h.own, h.off, h.few⟩
/-- Fewer calls of one thread. -/
theorem Owned.calls (h : Owned W R w y) {g i : Nat} {p : Pr} (hg : y.ps = some ⟨g, 0, none⟩) (hp : y.prs[i]? = some p) (k : Nat) :
    Owned W R (w.setCell ⟨g, i, none⟩ (.slice p.s (p.ops.take k).length p.cap)) { y with prs := y.prs.set i ⟨p.s, p.cap, p.ops.take k⟩ } := by
  have hrow : y.row = some g := by unfold Sc.row; rw [hg]; rfl
  have hk : Kept (fun q => y.row = some q) w (w.setCell ⟨g, i, none⟩ (.slice p.s (p.ops.take k).length p.cap)) := (Kept.refl _ w).setCell _ _ (fun _ => hrow)
  have hR : Row w g y.pc 38 1 Pr.cells y.prs := by have := ownsRow_base h.own; rw [hg] at this; exact this
  have hs := hR.set (i := i) (j := 0) (x' := ⟨p.s, p.cap, p.ops.take k⟩) (v := .slice p.s (p.ops.take k).length p.cap) Pr.one hp (by omega) rfl
  rw [Nat.mul_one, Nat.add_zero] at hs
  have hr' : ({ y with prs := y.prs.set i ⟨p.s, p.cap, p.ops.take k⟩ } : Sc).row = y.row := own_slice _ _ _ _ _
  have hl : (y.prs.set i ⟨p.s, p.cap, p.ops.take k⟩).length = y.prs.length := List.length_set
  refine ⟨?_, ?_, fun q hq => ?_, ?_, fun q hq => ?_, by show (y.prs.set i ⟨p.s, p.cap, p.ops.take k⟩).length ≤ maxLen; rw [hl]; exact h.few⟩
  · rw [hr']; exact h.obs.kept hk (fun _ e => .inr e)
  · rw [hr']; exact h.pis.kept hk (fun _ e => .inr e)
  · rw [hr']
    rcases List.mem_or_eq_of_mem_set hq with hq | rfl
    · exact (h.ops q hq).kept hk (fun _ e => .inr e)
    · exact ((h.ops p (List.mem_of_getElem? hp)).take k).kept hk (fun _ e => .inr e)
  · show World.ownsRow _ W 38 1 (.slice y.ps (y.prs.set i ⟨p.s, p.cap, p.ops.take k⟩).length y.pc) (y.prs.set i ⟨p.s, p.cap, p.ops.take k⟩).length (flat Pr.cells (y.prs.set i ⟨p.s, p.cap, p.ops.take k⟩))
    rw [hg]
    refine ⟨hs.1, ?_⟩
    rcases hs.2 with ⟨hn, _⟩ | ⟨g', cap, cur, hv, _, rest⟩
    · cases hn
    · refine .inr ⟨g', cap, cur, hv, ?_, rest⟩
      simp only [Value.slice.injEq, Option.some.injEq, Addr.mk.injEq, and_true] at hv
      have := (World.ownsRow.lt h.own g hrow).1
      omega
  · rw [hr'] at hq; exact h.off q hq
end

/-- Calls of lists of lists, taken one after another. -/
theorem cut_next {α : Type} {L : List (List α)} {k c : Nat} {x : List α} (hx : L[k]? = some x) : ((L.take k).map (List.take c) ++ L.drop k).set k (x.take c) = (L.take (k + 1)).map (List.take c) ++ L.drop (k + 1) := by
  obtain ⟨hk, e⟩ := List.getElem?_eq_some_iff.1 hx
  have hl : ((L.take k).map (List.take c)).length = k := by rw [List.length_map, List.length_take]; omega
  rw [List.set_append_right _ _ (by omega), hl, Nat.sub_self, List.take_succ_eq_append_getElem hk, List.drop_eq_getElem_cons hk, e]
  simp
theorem cut_same {α : Type} {L : List (List α)} {k c : Nat} {x : List α} (hx : L[k]? = some x) (hc : x.length ≤ c) : (L.take k).map (List.take c) ++ L.drop k = (L.take (k + 1)).map (List.take c) ++ L.drop (k + 1) := by
  obtain ⟨hk, e⟩ := List.getElem?_eq_some_iff.1 hx
  rw [List.take_succ_eq_append_getElem hk, List.drop_eq_getElem_cons hk, e]
  simp [List.take_of_length_le hc]
theorem cut_at {α : Type} {L : List (List α)} {k c : Nat} {x : List α} (hx : L[k]? = some x) : ((L.take k).map (List.take c) ++ L.drop k)[k]? = some x := by
  obtain ⟨hk, e⟩ := List.getElem?_eq_some_iff.1 hx
  have hl : ((L.take k).map (List.take c)).length = k := by rw [List.length_map, List.length_take]; omega
  rw [List.getElem?_append_right (by omega), hl, Nat.sub_self, List.drop_eq_getElem_cons hk, e]
  rfl

theorem all_take {α : Type} {f : α → Bool} {xs : List α} (h : xs.all f = true) (k : Nat) : (xs.take k).all f = true :=
  List.all_eq_true.2 fun x hx => List.all_eq_true.1 h x (List.mem_of_mem_take hx)
theorem small_map (prs : List Pr) : prs.all smallF = (prs.map Pr.ops).all (fun o => decide (o.length ≤ 16)) := by rw [List.all_map]; rfl
theorem prog_map (m : Nat) (prs : List Pr) : prs.all (progF m) = (prs.map Pr.ops).all (fun o => o.all (clF m)) := by rw [List.all_map]; rfl

/-- What reads alike is alike. -/
theorem large_alike {x y : Sc} (h1 : y.obs = x.obs) (h2 : y.pis = x.pis) (h3 : y.prs.map Pr.ops = x.prs.map Pr.ops) : largeF y = largeF x := by
  have hl : y.prs.length = x.prs.length := by have := congrArg List.length h3; simpa using this
  unfold largeF
  rw [small_map, small_map, h1, h2, h3, hl]
theorem good_alike {x y : Sc} (h1 : y.obs = x.obs) (h2 : y.pis = x.pis) (h3 : y.prs.map Pr.ops = x.prs.map Pr.ops) : goodF y = goodF x := by
  have hl : y.prs.length = x.prs.length := by have := congrArg List.length h3; simpa using this
  unfold goodF
  rw [prog_map, prog_map, h1, h2, h3, hl]
/-- Fewer picks and fewer calls may be. -/
theorem large_less {x y : Sc} {j c : Nat} (h1 : y.obs = x.obs) (h2 : y.pis = x.pis.take j) (h3 : y.prs.map Pr.ops = (x.prs.map Pr.ops).map (List.take c)) (h : largeF x = false) : largeF y = false := by
  have hl : y.prs.length = x.prs.length := by have := congrArg List.length h3; simpa using this
  unfold largeF at h ⊢
  rw [small_map] at h ⊢
  simp only [Bool.not_eq_false', Bool.and_eq_true, decide_eq_true_eq] at h ⊢
  obtain ⟨⟨⟨l1, l2⟩, l3⟩, l4⟩ := h
  refine ⟨⟨⟨by rw [h1]; exact l1, by omega⟩, by rw [h2, List.length_take]; omega⟩, ?_⟩
  rw [h3]
  refine List.all_eq_true.2 fun o ho => ?_
  obtain ⟨o', ho', rfl⟩ := List.mem_map.1 ho
  have := of_decide_eq_true (List.all_eq_true.1 l4 o' ho')
  exact decide_eq_true (by rw [List.length_take]; omega)
theorem good_less {x y : Sc} {j c : Nat} (h1 : y.obs = x.obs) (h2 : y.pis = x.pis.take j) (h3 : y.prs.map Pr.ops = (x.prs.map Pr.ops).map (List.take c)) (h : goodF x = true) : goodF y = true := by
  have hl : y.prs.length = x.prs.length := by have := congrArg List.length h3; simpa using this
  unfold goodF at h ⊢
  rw [prog_map] at h ⊢
  simp only [Bool.and_eq_true] at h ⊢
  obtain ⟨⟨⟨⟨l1, l2⟩, l3⟩, l4⟩, l5⟩ := h
  refine ⟨⟨⟨⟨by rw [h1]; exact l1, by rw [hl]; exact l2⟩, by rw [h1]; exact l3⟩, ?_⟩, by rw [h2]; exact all_take l5 j⟩
  rw [h3, h1]
  refine List.all_eq_true.2 fun o ho => ?_
  obtain ⟨o', ho', rfl⟩ := List.mem_map.1 ho
  exact all_take (List.all_eq_true.1 l4 o' ho') c

end Go.Proofs.Ytgdagmiiobbeeaa
