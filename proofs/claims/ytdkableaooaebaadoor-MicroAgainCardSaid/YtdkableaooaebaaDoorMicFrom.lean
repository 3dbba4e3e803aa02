/-
  Where a step begins, and what it leaves behind.
  Conditions: the arena's, the table's and the frames' blocks are apart.
-/
import Derived.Test.YtdkableaooaebaaDoorMicRun
import Derived.Test.YtdkableaooaebaaDoorMicBlk
namespace Go.Proofs.YtdkableaooaebaaDoor
open Go.RowKit

open Classical in
theorem on_start {L : Sp} {og : Option Nat} {fg fc : Nat} {zs : List Int} {ps : List Pk} {bs : List Fr} {f : Fr} {w : World}
    (st : w.heap[L.sb]? = some (.cells (L.cells ⟨og, fg, fc, .slice none 0 0⟩ 0 (bs.length + 1)) 67 (0, 0)))
    (fr : Row w fg fc 60 17 Fr.cells (bs ++ [f])) (ar : Arena w L.ab og L.most zs) (tab : Tab w L.tb L.tg L.tc L.now ps)
    (cd : CodeIn L.so L.code (fun g => Base L.ab L.tb L.tg og g ∨ g = L.sb ∨ g = fg) w) (ld : Laid w) (hG : ∀ g, Glob g → ¬ Base L.ab L.tb L.tg og g ∧ g ≠ L.sb ∧ g ≠ fg)
    (n1 : L.sb ≠ fg) (n2 : ¬ Base L.ab L.tb L.tg og L.sb) (n4 : ¬ Base L.ab L.tb L.tg og fg) (n6 : ∀ g, Foot L.ab og g → g ≠ L.tb ∧ g ≠ L.tg) :
    ∃ col : Nat → Nat, On L col ⟨og, fg, fc, .slice none 0 0⟩ 0 ⟨zs, ps, bs, f, []⟩ w ∧ (∀ g, col g = 2 → g = fg) ∧ (∀ g, col g ≠ 3) ∧ (∀ g, col g = 4 → Foot L.ab og g) ∧ (∀ g, col g ≠ 0 → Base L.ab L.tb L.tg og g ∨ g = L.sb ∨ g = fg) := by
  have l1 := (Array.getElem?_eq_some_iff.1 st).1
  have l2 := fr.lt
  have l3 : ∀ g, Foot L.ab og g → g < w.heap.size := fun g hg => by rcases hg with rfl | hg; exact ar.lt; exact (ar.rowLt g hg).1
  have l4 := tab.lt
  have lB : ∀ g, Base L.ab L.tb L.tg og g → g < w.heap.size := fun g hg => by rcases hg with hg | rfl | rfl; exact l3 g hg; exact l4.1; exact l4.2
  refine ⟨fun g => if g = L.sb then 1 else if g = fg then 2 else if g = L.tb ∨ g = L.tg then 5 else if Foot L.ab og g then 4 else 0, ?_, ?_, ?_, ?_, ?_⟩
  · have c0 : ∀ g, ¬ Base L.ab L.tb L.tg og g → g ≠ L.sb → g ≠ fg → (if g = L.sb then 1 else if g = fg then 2 else if g = L.tb ∨ g = L.tg then 5 else if Foot L.ab og g then 4 else 0) = 0 := fun g h1 h2 h3 => by
      rw [if_neg h2, if_neg h3, if_neg (fun h => h1 (.inr h)), if_neg (fun h => h1 (.inl h))]
    refine ⟨st, fr, World.ownsRow_nil _ _ _ _, ar, tab, ⟨cd.1, fun i x hi => ?_⟩, ld, fun g hg => c0 g (hG g hg).1 (hG g hg).2.1 (hG g hg).2.2, if_pos rfl, ?_, ?_, fun g hg => ?_, ⟨?_, ?_⟩, fun g hg => ?_⟩
    · obtain ⟨g, off, e, hg, h0, hx⟩ := cd.2 i x hi
      exact ⟨g, off, e, hg, c0 g (fun h => h0 (.inl h)) (fun h => h0 (.inr (.inl h))) (fun h => h0 (.inr (.inr h))), hx⟩
    · show (if fg = L.sb then 1 else if fg = fg then 2 else _) = 2
      rw [if_neg (Ne.symm n1), if_pos rfl]
    · intro g hg; cases hg
    · have := n6 g hg
      show (if g = L.sb then 1 else if g = fg then 2 else if g = L.tb ∨ g = L.tg then 5 else if Foot L.ab og g then 4 else 0) = 4
      rw [if_neg (fun e => n2 (.inl (by rw [← e]; exact hg))), if_neg (fun e => n4 (.inl (by rw [← e]; exact hg))), if_neg (fun e => by rcases e with e | e; exact this.1 e; exact this.2 e), if_pos hg]
    · show (if L.tb = L.sb then 1 else if L.tb = fg then 2 else if L.tb = L.tb ∨ L.tb = L.tg then 5 else _) = 5
      rw [if_neg (fun e => n2 (.inr (.inl e.symm))), if_neg (fun e => n4 (.inr (.inl e.symm))), if_pos (.inl rfl)]
    · show (if L.tg = L.sb then 1 else if L.tg = fg then 2 else if L.tg = L.tb ∨ L.tg = L.tg then 5 else _) = 5
      rw [if_neg (fun e => n2 (.inr (.inr e.symm))), if_neg (fun e => n4 (.inr (.inr e.symm))), if_pos (.inr rfl)]
    · exact c0 g (fun h => by have := lB g h; omega) (by omega) (by omega)
  · intro g h
    dsimp only at h
    split at h
    · cases h
    · split at h
      · assumption
      · split at h
        · cases h
        · split at h <;> cases h
  · intro g h
    dsimp only at h
    split at h
    · cases h
    · split at h
      · cases h
      · split at h
        · cases h
        · split at h <;> cases h
  · intro g h
    dsimp only at h
    split at h
    · cases h
    · split at h
      · cases h
      · split at h
        · cases h
        · split at h
          · assumption
          · cases h
  · intro g h
    dsimp only at h
    split at h
    · rename_i e; exact .inr (.inl e)
    · split at h
      · rename_i e; exact .inr (.inr e)
      · split at h
        · rename_i e; exact .inl (.inr e)
        · split at h
          · rename_i e; exact .inl (.inl e)
          · exact absurd rfl h

/-- What a step leaves: frames and marks in new memory, cells and threads. -/
structure After (w : World) (ab tb tg tc : Nat) (og : Option Nat) (most now : Int) (s : Ms) (w' : World) (fg fc : Nat) (nv : Value) (og' : Option Nat) : Prop where
  fr : Row w' fg fc 60 17 Fr.cells (s.bs ++ [s.f])
  nt : w'.ownsRow 0 78 2 nv s.ns.length (flat Nt.cells s.ns)
  ar : Arena w' ab og' most s.zs
  tab : Tab w' tb tg tc now s.ps
  kept : Kept (Base ab tb tg og) w w'
  newF : w.heap.size ≤ fg
  newN : ∀ g, nv.ownBlock = some g → w.heap.size ≤ g
  newO : ∀ g, og' = some g → og = some g ∨ w.heap.size ≤ g
  farF : ¬ Base ab tb tg og' fg
  farT : ∀ g, Foot ab og' g → g ≠ tb ∧ g ≠ tg
  farN : ∀ g, nv.ownBlock = some g → ¬ Base ab tb tg og' g ∧ g ≠ fg

theorem After.kept0 {w w' w'' : World} {ab tb tg tc fg fc : Nat} {og og' : Option Nat} {most now : Int} {s : Ms} {nv : Value} (h : After w ab tb tg tc og most now s w' fg fc nv og') (hk : Kept (fun _ => False) w' w'') : After w ab tb tg tc og most now s w'' fg fc nv og' :=
  ⟨h.fr.kept hk (fun f => f), nt_kept h.nt hk (fun _ _ f => f), h.ar.kept hk (fun f => f) (fun _ _ f => f), h.tab.kept hk (fun f => f) (fun f => f), h.kept.trans hk (fun _ _ f => f.elim), h.newF, h.newN, h.newO, h.farF, h.farT, h.farN⟩

theorem after_of {L : Sp} {col col' : Nat → Nat} {k' : Kp} {og : Option Nat} {fg d' : Nat} {s' : Ms} {w w2 w' : World} (hk : Kept (fun _ => False) w w2) (hs : w.heap.size ≤ L.sb) (hf : w.heap.size ≤ fg)
    (h2 : ∀ g, col g = 2 → g = fg) (h3 : ∀ g, col g ≠ 3) (h4 : ∀ g, col g = 4 → Foot L.ab og g) (h0 : ∀ g, col g ≠ 0 → Base L.ab L.tb L.tg og g ∨ g = L.sb ∨ g = fg)
    (ho : On L col' k' d' s' w') (hg : Goes col w2 col' w') : After w L.ab L.tb L.tg L.tc og L.most L.now s' w' k'.fg k'.fc k'.nv k'.og := by
  have hsz := hk.size
  have hsame := hg.same
  refine ⟨ho.fr, ho.nt, ho.ar, ho.tab, ?_, ?_, ?_, ?_, ?_, ?_, ?_⟩
  · refine (hk.mono (fun _ _ f => f.elim)).trans hg.kept (fun i hi hc => ?_)
    rcases h0 i hc with h | h | h
    · exact h
    · omega
    · omega
  · rcases Nat.lt_or_ge k'.fg w2.heap.size with h | h
    · have := h2 _ ((hsame _ h).symm.trans ho.c2); omega
    · omega
  · intro g e
    rcases Nat.lt_or_ge g w2.heap.size with h | h
    · exact absurd ((hsame _ h).symm.trans (ho.c3 g e)) (h3 g)
    · omega
  · intro g e
    rcases Nat.lt_or_ge g w2.heap.size with h | h
    · rcases h4 g ((hsame _ h).symm.trans (ho.c4 g (.inr e))) with rfl | h5
      · exact absurd rfl (ho.ar.rowLt _ e).2
      · exact .inl h5
    · exact .inr (by omega)
  · rintro (h | h | h)
    · have := (ho.c4 _ h).symm.trans ho.c2; cases this
    · have := ho.c2; rw [h, ho.c5.1] at this; cases this
    · have := ho.c2; rw [h, ho.c5.2] at this; cases this
  · intro g h
    have := ho.c4 g h
    exact ⟨fun e => (by rw [e, ho.c5.1] at this; cases this), fun e => (by rw [e, ho.c5.2] at this; cases this)⟩
  · intro g e
    have := ho.c3 g e
    refine ⟨?_, fun e => by rw [e, ho.c2] at this; cases this⟩
    rintro (h | h | h)
    · have := (ho.c4 _ h).symm.trans this; cases this
    · rw [h, ho.c5.1] at this; cases this
    · rw [h, ho.c5.2] at this; cases this

end Go.Proofs.YtdkableaooaebaaDoor
