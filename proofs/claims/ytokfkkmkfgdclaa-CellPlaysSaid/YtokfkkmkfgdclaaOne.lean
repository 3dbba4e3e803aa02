/-
  Package cell's calls on an arena that was made since a world W: what each comes to, said of W.
  Conditions: the arena is of at most 4096 cells.
-/
import Derived.Test.YtokfkkmkfgdclaaClone
namespace Go.Proofs.Ytokfkkmkfgdclaa
open Go.RowKit

/-- Block b holds an arena that was made since W, of at most 'most' cells, which are zs; of what W held nothing has turned. -/
def One (W w : World) (b : Nat) (most : Int) (zs : List Int) : Prop :=
  ∃ og, Arena w b og most zs ∧ W.heap.size ≤ b ∧ (∀ g, og = some g → W.heap.size ≤ g) ∧ Kept (fun k => W.heap.size ≤ k) W w

theorem One.kept {W w : World} {b : Nat} {most : Int} {zs : List Int} (h : One W w b most zs) : Kept (fun k => W.heap.size ≤ k) W w := by
  obtain ⟨_, _, _, _, hk⟩ := h
  exact hk

theorem One.below {W w : World} {b : Nat} {most : Int} {zs : List Int} (h : One W w b most zs) : Below W.heap.size W w := h.kept.below (Nat.le_refl _) (fun _ h => h)

theorem one_new (most : Int) (W w : World) (hk : Kept (fun k => W.heap.size ≤ k) W w) (h1 : 1 ≤ most) (h2 : most ≤ 4096) :
    Calls Try.prog 9 #[.int .i64 most] w fun e w' => e = .returned (.tuple #[.pointer (some ⟨w.heap.size, 0, none⟩), .nilIface]) ∧ One W w' w.heap.size most [] :=
  (new_in most w h1 h2).mono fun _ _ ⟨he, hw⟩ => ⟨he, by subst hw; exact ⟨none, Arena.made w most, hk.size, fun _ h => (by cases h), hk.alloc _⟩⟩

theorem one_alloc_in {W w : World} {b : Nat} {most : Int} {zs : List Int} (n : Int) (hO : One W w b most zs) (hm0 : 0 ≤ most) (hm : most ≤ 4096) (h : 1 ≤ n) (h2 : n ≤ most - zs.length) :
    Calls Try.prog 13 #[.pointer (some ⟨b, 0, none⟩), .int .i64 n] w fun e w' => e = .returned (.tuple #[.int .i64 (zs.length + 1), .nilIface]) ∧ One W w' b most (zs ++ List.replicate n.toNat 0) := by
  obtain ⟨og, hA, hb, hg, hk⟩ := hO
  refine (alloc_in n w hA hm0 hm h h2).mono fun e w' ⟨he, og', hA', hk', ho⟩ => ⟨he, og', hA', hb, fun g e => ?_, hk.trans hk' (fun i _ hf => ?_)⟩
  · rcases ho with ho | ⟨g', ho, hl⟩
    · exact hg g (by rw [← ho]; exact e)
    · rw [ho] at e; cases e; exact Nat.le_trans hk.size hl
  · rcases hf with hf | hf
    · subst hf; exact hb
    · exact hg i hf

theorem one_alloc_full {W w : World} {b : Nat} {most : Int} {zs : List Int} (n : Int) (hO : One W w b most zs) (hm0 : 0 ≤ most) (hm : most ≤ 4096) (h : 1 ≤ n) (h2 : most - zs.length < n) :
    Calls Try.prog 13 #[.pointer (some ⟨b, 0, none⟩), .int .i64 n] w fun e w' => e = .returned (.tuple #[.int .i64 0, .iface 28 (.int .i64 3)]) ∧ One W w' b most zs := by
  obtain ⟨og, hA, hb, hg, hk⟩ := hO
  refine (alloc_full n w hA hm0 hm h h2).mono fun e w' ⟨he, k, hw⟩ => ⟨he, og, ?_, hb, hg, ?_⟩
  · subst hw; exact hA.kept (Kept.drewN w k) (fun f => f) (fun _ _ f => f)
  · subst hw; exact hk.trans (Kept.drewN w k) (fun _ _ f => f.elim)

theorem one_alloc_arg {W w : World} {b : Nat} {most : Int} {zs : List Int} (n : Int) (hO : One W w b most zs) (h : n < 1) :
    Calls Try.prog 13 #[.pointer (some ⟨b, 0, none⟩), .int .i64 n] w fun e w' => e = .returned (.tuple #[.int .i64 0, .iface 28 (.int .i64 1)]) ∧ One W w' b most zs :=
  (alloc_arg b n w h).mono fun _ _ ⟨he, hw⟩ => ⟨he, hw ▸ hO⟩

theorem one_load_in {W w : World} {b : Nat} {most : Int} {zs : List Int} (at' : Int) (hO : One W w b most zs) (h : 1 ≤ at') (h2 : at' ≤ (zs.length : Int)) :
    Calls Try.prog 16 #[.pointer (some ⟨b, 0, none⟩), .int .i64 at'] w fun e w' => e = .returned (.tuple #[.int .i64 (zs.getD (at'.toNat - 1) 0), .nilIface]) ∧ w = w' := by
  obtain ⟨og, hA, _⟩ := hO
  exact load_in at' w hA h h2

theorem one_load_out {W w : World} {b : Nat} {most : Int} {zs : List Int} (at' : Int) (hO : One W w b most zs) (h : ¬ (1 ≤ at' ∧ at' ≤ (zs.length : Int))) :
    Calls Try.prog 16 #[.pointer (some ⟨b, 0, none⟩), .int .i64 at'] w fun e w' => e = .returned (.tuple #[.int .i64 0, .iface 28 (.int .i64 6)]) ∧ w = w' := by
  obtain ⟨og, hA, _⟩ := hO
  exact load_out at' w hA h

theorem one_len {W w : World} {b : Nat} {most : Int} {zs : List Int} (hO : One W w b most zs) :
    Calls Try.prog 10 #[.pointer (some ⟨b, 0, none⟩)] w fun e w' => e = .returned (.int .i64 zs.length) ∧ w = w' := by
  obtain ⟨og, hA, _⟩ := hO
  exact len_any w hA

theorem One.stored {W w w' : World} {b : Nat} {og : Option Nat} {most : Int} {zs' : List Int} (hb : W.heap.size ≤ b) (hg : ∀ g, og = some g → W.heap.size ≤ g) (hk : Kept (fun k => W.heap.size ≤ k) W w)
    (h : Stored w b og most zs' w') : One W w' b most zs' :=
  ⟨og, h.1, hb, hg, hk.trans h.2 (fun i _ e => hg i e)⟩

theorem one_store_in {W w : World} {b : Nat} {most : Int} {zs : List Int} (at' v : Int) (hO : One W w b most zs) (h : 1 ≤ at') (h2 : at' ≤ (zs.length : Int)) :
    Calls Try.prog 14 #[.pointer (some ⟨b, 0, none⟩), .int .i64 at', .int .i64 v] w fun e w' => e = .returned .nilIface ∧ One W w' b most (zs.set (at'.toNat - 1) v) := by
  obtain ⟨og, hA, hb, hg, hk⟩ := hO
  exact (store_in at' v w hA h h2).mono fun _ _ ⟨he, hs⟩ => ⟨he, One.stored hb hg hk hs⟩

theorem one_store_out {W w : World} {b : Nat} {most : Int} {zs : List Int} (at' v : Int) (hO : One W w b most zs) (h : ¬ (1 ≤ at' ∧ at' ≤ (zs.length : Int))) :
    Calls Try.prog 14 #[.pointer (some ⟨b, 0, none⟩), .int .i64 at', .int .i64 v] w fun e w' => e = .returned (.iface 28 (.int .i64 6)) ∧ w = w' := by
  obtain ⟨og, hA, _⟩ := hO
  exact store_out at' v w hA h

theorem one_swap_yes {W w : World} {b : Nat} {most : Int} {zs : List Int} (at' old v : Int) (hO : One W w b most zs) (h : 1 ≤ at') (h2 : at' ≤ (zs.length : Int)) (he : zs.getD (at'.toNat - 1) 0 = old) :
    Calls Try.prog 17 #[.pointer (some ⟨b, 0, none⟩), .int .i64 at', .int .i64 old, .int .i64 v] w fun e w' => e = .returned (.tuple #[.bool true, .nilIface]) ∧ One W w' b most (zs.set (at'.toNat - 1) v) := by
  obtain ⟨og, hA, hb, hg, hk⟩ := hO
  exact (swap_yes at' old v w hA h h2 he).mono fun _ _ ⟨he, hs⟩ => ⟨he, One.stored hb hg hk hs⟩

theorem one_swap_no {W w : World} {b : Nat} {most : Int} {zs : List Int} (at' old v : Int) (hO : One W w b most zs) (h : 1 ≤ at') (h2 : at' ≤ (zs.length : Int)) (hne : zs.getD (at'.toNat - 1) 0 ≠ old) :
    Calls Try.prog 17 #[.pointer (some ⟨b, 0, none⟩), .int .i64 at', .int .i64 old, .int .i64 v] w fun e w' => e = .returned (.tuple #[.bool false, .nilIface]) ∧ w = w' := by
  obtain ⟨og, hA, _⟩ := hO
  exact swap_no at' old v w hA h h2 hne

theorem one_swap_out {W w : World} {b : Nat} {most : Int} {zs : List Int} (at' old v : Int) (hO : One W w b most zs) (h : ¬ (1 ≤ at' ∧ at' ≤ (zs.length : Int))) :
    Calls Try.prog 17 #[.pointer (some ⟨b, 0, none⟩), .int .i64 at', .int .i64 old, .int .i64 v] w fun e w' => e = .returned (.tuple #[.bool false, .iface 28 (.int .i64 6)]) ∧ w = w' := by
  obtain ⟨og, hA, _⟩ := hO
  exact swap_out at' old v w hA h

end Go.Proofs.Ytokfkkmkfgdclaa
