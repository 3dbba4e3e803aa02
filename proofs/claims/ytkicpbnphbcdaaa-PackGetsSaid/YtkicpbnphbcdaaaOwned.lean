/-
  A script in new memory, whose threads' programs lie in a row of the call's own.
  Conditions: none; these are lemmas for the walks.
-/
import Derived.Test.YtkicpbnphbcdaaaGrow
namespace Go.Proofs.Ytkicpbnphbcdaaa
open Go.RowKit

theorem own_kept {S : Nat → Prop} {w w' : World} {base : Nat} {e : TypeId} {size : Nat} {v : Value} {n : Nat} {xs : List Value} (h : w.ownsRow base e size v n xs) (hk : Kept S w w') (hv : ∀ g, v.ownBlock = some g → ¬ S g) : w'.ownsRow base e size v n xs := by
  refine ⟨h.1, ?_⟩
  rcases h.2 with h2 | ⟨g, cap, cur, rfl, hb, hg, rest⟩
  · exact .inl h2
  · exact .inr ⟨g, cap, cur, rfl, hb, (hk.block g (Array.getElem?_eq_some_iff.1 hg).1 (hv g rfl)).trans hg, rest⟩

/-- A slice that was made since the heap was of size W, apart from the blocks that meet R. -/
def Off {α : Type} (W : Nat) (R : Nat → Prop) (w : World) (A : Option Addr) (c m : Nat) (f : α → List Value) (ys : List α) : Prop :=
  Made W w A c m f ys ∧ (ys ≠ [] → ∀ g, A = some ⟨g, 0, none⟩ → ¬ R g)

section
variable {α : Type} {W c m : Nat} {R R' S : Nat → Prop} {w w' : World} {A : Option Addr} {f : α → List Value} {ys : List α}
/-- Other blocks may have turned, and what is to be avoided may be new. -/
theorem Off.step (h : Off W R w A c m f ys) (hk : Kept S w w') (hS : ∀ g, S g → R g) (hR : ∀ g, g < w.heap.size → ¬ R g → ¬ R' g) : Off W R' w' A c m f ys := by
  refine ⟨h.1.kept hk (fun hne g _ _ e hg => h.2 hne g e (hS g hg)), fun hne g e => ?_⟩
  obtain ⟨g', e', _, hlt⟩ := h.1.new hne
  rw [e] at e'
  simp only [Option.some.injEq, Addr.mk.injEq, and_true] at e'
  subst e'
  exact hR g hlt (h.2 hne g e)
theorem Off.kept (h : Off W R w A c m f ys) (hk : Kept S w w') (hS : ∀ g, S g → R g) : Off W R w' A c m f ys := h.step hk hS (fun _ _ h => h)
end

/-- The block that a script's programs lie in. -/
def Sc.row (y : Sc) : Option Nat := (Value.slice y.ps y.prs.length y.pc).ownBlock

/-- A script of the call's own, made since the heap was of size W. -/
structure Owned (W : Nat) (R : Nat → Prop) (w : World) (y : Sc) : Prop where
  obs : Off W (fun g => R g ∨ y.row = some g) w y.os y.oc 3 Ob.cells y.obs
  pis : Off W (fun g => R g ∨ y.row = some g) w y.ks y.kc 2 Pi.cells y.pis
  ops : ∀ p ∈ y.prs, Off W (fun g => R g ∨ y.row = some g) w p.s p.cap 5 Cl.cells p.ops
  own : w.ownsRow W 49 1 (.slice y.ps y.prs.length y.pc) y.prs.length (flat Pr.cells y.prs)
  off : ∀ g, y.row = some g → ¬ R g
  few : y.prs.length ≤ maxLen

section
variable {W W' : Nat} {R R' S : Nat → Prop} {w w' : World} {y : Sc}
theorem Owned.kept (h : Owned W R w y) (hk : Kept S w w') (hS : ∀ g, S g → R g) : Owned W R w' y :=
  ⟨h.obs.kept hk (fun g hg => .inl (hS g hg)), h.pis.kept hk (fun g hg => .inl (hS g hg)), fun p hp => (h.ops p hp).kept hk (fun g hg => .inl (hS g hg)), own_kept h.own hk (fun g hg hs => h.off g hg (hS g hs)), h.off, h.few⟩
theorem Owned.less (h : Owned W R w y) (hR : ∀ g, R' g → R g) (hW : W' ≤ W) : Owned W' R' w y :=
  ⟨⟨h.obs.1.since hW, fun hne g e hr => h.obs.2 hne g e (hr.imp (hR g) id)⟩, ⟨h.pis.1.since hW, fun hne g e hr => h.pis.2 hne g e (hr.imp (hR g) id)⟩,
    fun p hp => ⟨(h.ops p hp).1.since hW, fun hne g e hr => (h.ops p hp).2 hne g e (hr.imp (hR g) id)⟩, by
      refine ⟨h.own.1, ?_⟩
      rcases h.own.2 with h2 | ⟨g, cap, cur, h3, hb, h4⟩
      · exact .inl h2
      · exact .inr ⟨g, cap, cur, h3, by omega, h4⟩, fun g hg hr => h.off g hg (hR g hr), h.few⟩
/-- It reads as it should. -/
theorem Owned.lies (h : Owned W R w y) : Lies w w.heap.size y := by
  refine ⟨h.obs.1.elems, ⟨?_, fun p hp => (h.ops p hp).1.elems⟩, h.pis.1.elems⟩
  obtain ⟨s, c, e, hM⟩ := Made.of_own Pr.one h.own rfl h.few
  simp only [Value.slice.injEq] at e
  obtain ⟨rfl, _, rfl⟩ := e
  exact hM.elems
end

theorem own_slice (s : Option Addr) (l c l' c' : Nat) : (Value.slice s l c).ownBlock = (Value.slice s l' c').ownBlock := by cases s <;> rfl

theorem Off.far {α : Type} {W c m : Nat} {R S : Nat → Prop} {w w' : World} {A : Option Addr} {f : α → List Value} {ys : List α} (h : Off W R w A c m f ys) (hk : Kept S w w') (hS : ∀ g, W ≤ g → ¬ S g) : Off W R w' A c m f ys :=
  ⟨h.1.kept hk (fun _ g hg _ _ => hS g hg), h.2⟩
theorem Owned.far {W : Nat} {R S : Nat → Prop} {w w' : World} {y : Sc} (h : Owned W R w y) (hk : Kept S w w') (hS : ∀ g, W ≤ g → ¬ S g) : Owned W R w' y :=
  ⟨h.obs.far hk hS, h.pis.far hk hS, fun p hp => (h.ops p hp).far hk hS, own_kept h.own hk (fun g hg => hS g (World.ownsRow.lt h.own g hg).1), h.off, h.few⟩

/-- One more of the programs. -/
theorem Owned.next {W b c c1 : Nat} {wr w0 : World} {y : Sc} {s A1 : Option Addr} {ops : List Cl} {v : Value} (h : Owned W (fun g => g = b) wr y) (hb : b < wr.heap.size) (hW : W ≤ wr.heap.size) (hk : Kept (fun g => y.row = some g) wr w0)
    (h1 : w0.ownsRow W 49 1 (.slice s (y.prs.length + 1) c) (y.prs.length + 1) (flat Pr.cells (y.prs ++ [⟨A1, c1, ops⟩]))) (hM : Made wr.heap.size w0 A1 c1 5 Cl.cells ops)
    (h3 : ops ≠ [] → ∀ g, A1 = some ⟨g, 0, none⟩ → (Value.slice s (y.prs.length + 1) c).ownBlock ≠ some g)
    (h4 : (Value.slice s (y.prs.length + 1) c).ownBlock = y.row ∨ ∃ g', (Value.slice s (y.prs.length + 1) c).ownBlock = some g' ∧ wr.heap.size ≤ g') (hfew : y.prs.length + 1 ≤ maxLen) :
    Owned W (fun g => g = b) (w0.setCell ⟨b, 1, none⟩ v) ⟨y.os, y.oc, y.obs, s, c, y.prs ++ [⟨A1, c1, ops⟩], y.ks, y.kc, y.pis⟩ := by
  have hk1 : Kept (fun g => g = b) w0 (w0.setCell ⟨b, 1, none⟩ v) := (Kept.refl _ w0).setCell _ _ (fun _ => rfl)
  have hk2 : Kept (fun g => g = b ∨ y.row = some g) wr (w0.setCell ⟨b, 1, none⟩ v) := (hk.mono (fun _ _ e => .inr e)).trans hk1 (fun _ _ e => .inl e)
  have hr : (⟨y.os, y.oc, y.obs, s, c, y.prs ++ [⟨A1, c1, ops⟩], y.ks, y.kc, y.pis⟩ : Sc).row = (Value.slice s (y.prs.length + 1) c).ownBlock := own_slice _ _ _ _ _
  have hrow : ∀ g, g < wr.heap.size → ¬ (g = b ∨ y.row = some g) → ¬ (g = b ∨ (Value.slice s (y.prs.length + 1) c).ownBlock = some g) := by
    intro g hg hn hq
    rcases hq with hq | hq
    · exact hn (.inl hq)
    · rcases h4 with h4 | ⟨g', h4, h5⟩
      · exact hn (.inr (h4.symm.trans hq))
      · have := h4.symm.trans hq
        simp only [Option.some.injEq] at this
        omega
  have hl : (y.prs ++ [(⟨A1, c1, ops⟩ : Pr)]).length = y.prs.length + 1 := by simp
  refine ⟨?_, ?_, fun q hq => ?_, ?_, fun g hg => ?_, by show (y.prs ++ [(⟨A1, c1, ops⟩ : Pr)]).length ≤ maxLen; rw [hl]; exact hfew⟩
  · rw [hr]; exact h.obs.step hk2 (fun _ e => e) hrow
  · rw [hr]; exact h.pis.step hk2 (fun _ e => e) hrow
  · rw [hr]
    rcases List.mem_append.1 hq with hq | hq
    · exact (h.ops q hq).step hk2 (fun _ e => e) hrow
    · simp only [List.mem_cons, List.not_mem_nil, or_false] at hq
      subst hq
      refine ⟨(hM.since hW).kept hk1 (fun hne g _ hlt e hgb => ?_), fun hne g e hq => ?_⟩
      · obtain ⟨g', e', hw, _⟩ := hM.new hne
        replace e : A1 = some ⟨g, 0, none⟩ := e
        rw [e] at e'
        simp only [Option.some.injEq, Addr.mk.injEq, and_true] at e'
        omega
      · obtain ⟨g', e', hw, _⟩ := hM.new hne
        replace e : A1 = some ⟨g, 0, none⟩ := e
        rw [e] at e'
        simp only [Option.some.injEq, Addr.mk.injEq, and_true] at e'
        rcases hq with hq | hq
        · omega
        · exact h3 hne g e hq
  · show World.ownsRow _ W 49 1 (.slice s (y.prs ++ [(⟨A1, c1, ops⟩ : Pr)]).length c) (y.prs ++ [(⟨A1, c1, ops⟩ : Pr)]).length (flat Pr.cells (y.prs ++ [(⟨A1, c1, ops⟩ : Pr)]))
    rw [hl]
    refine own_kept h1 hk1 (fun g hg hgb => ?_)
    subst hgb
    rcases h4 with h4 | ⟨g', h4, h5⟩
    · exact h.off g (h4.symm.trans hg) rfl
    · have := h4.symm.trans hg
      simp only [Option.some.injEq] at this
      omega
  · rw [hr] at hg
    intro hgb
    subst hgb
    rcases h4 with h4 | ⟨g', h4, h5⟩
    · exact h.off g (h4.symm.trans hg) rfl
    · have := h4.symm.trans hg
      simp only [Option.some.injEq] at this
      omega

theorem Owned.start {W b c c' : Nat} {w : World} {A A' : Option Addr} {obs : List Ob} {pis : List Pi} (h : Made W w A c 3 Ob.cells obs) (h1 : obs ≠ [] → ∀ g, A = some ⟨g, 0, none⟩ → g ≠ b)
    (h' : Made W w A' c' 2 Pi.cells pis) (h1' : pis ≠ [] → ∀ g, A' = some ⟨g, 0, none⟩ → g ≠ b) : Owned W (fun g => g = b) w ⟨A, c, obs, none, 0, [], A', c', pis⟩ where
  obs := ⟨h, fun hne g e hr => hr.elim (h1 hne g e) (fun hg => by simp [Sc.row, Value.ownBlock] at hg)⟩
  pis := ⟨h', fun hne g e hr => hr.elim (h1' hne g e) (fun hg => by simp [Sc.row, Value.ownBlock] at hg)⟩
  ops := fun p hp => absurd hp List.not_mem_nil
  own := World.ownsRow_nil w W _ 1
  off := fun g hg => by simp [Sc.row, Value.ownBlock] at hg
  few := Nat.zero_le _

theorem flat_append {α : Type} (f : α → List Value) (xs ys : List α) : flat f (xs ++ ys) = flat f xs ++ flat f ys := by simp [flat]
theorem one_prs (ps : List Pr) : ∀ u ∈ flat Pr.cells ps, u.oneCell' = true := by
  intro u hu
  simp only [flat, List.mem_flatMap, Pr.cells] at hu
  obtain ⟨p, _, hu⟩ := hu
  simp only [List.mem_cons, List.not_mem_nil, or_false] at hu
  rcases hu with rfl; rfl

end Go.Proofs.Ytkicpbnphbcdaaa
