/-
  Package cell's calls on one of two arenas that were made since a world W and share nothing: what each comes to.
  Conditions: the arenas are of at most 4096 cells.
-/
import Derived.Test.YtokfkkmkfgdclaaOne
namespace Go.Proofs.Ytokfkkmkfgdclaa
open Go.RowKit

/-- Blocks b and c hold two arenas that were made since W and share no memory. -/
def Two (W w : World) (b c : Nat) (most : Int) (zs ys : List Int) : Prop :=
  ∃ og oh, Arena w b og most zs ∧ Arena w c oh most ys ∧ (∀ k, Foot b og k → ¬ Foot c oh k) ∧ (∀ k, Foot b og k → W.heap.size ≤ k) ∧ (∀ k, Foot c oh k → W.heap.size ≤ k) ∧ Kept (fun k => W.heap.size ≤ k) W w

theorem Two.flip {W w : World} {b c : Nat} {most : Int} {zs ys : List Int} (h : Two W w b c most zs ys) : Two W w c b most ys zs := by
  obtain ⟨og, oh, h1, h2, h3, h4, h5, h6⟩ := h
  exact ⟨oh, og, h2, h1, fun k hk hj => h3 k hj hk, h5, h4, h6⟩

theorem Two.one {W w : World} {b c : Nat} {most : Int} {zs ys : List Int} (h : Two W w b c most zs ys) : One W w b most zs := by
  obtain ⟨og, oh, h1, h2, h3, h4, h5, h6⟩ := h
  exact ⟨og, h1, h4 _ (.inl rfl), fun g e => h4 _ (.inr e), h6⟩

theorem two_clone {W w : World} {b : Nat} {most : Int} {zs : List Int} (hO : One W w b most zs) (hl : zs.length ≤ 4096) :
    Calls Try.prog 15 #[.pointer (some ⟨b, 0, none⟩)] w fun e w' => ∃ c, e = .returned (.pointer (some ⟨c, 0, none⟩)) ∧ Two W w' b c most zs zs := by
  obtain ⟨og, hA, hb, hg, hk⟩ := hO
  refine (clone_any w hA hl).mono fun e w' ⟨c, oh, he, hc, hh, hC, hk'⟩ => ⟨c, he, og, oh, hA.kept hk' (fun f => f) (fun _ _ f => f), hC, ?_, ?_, ?_, hk.trans hk' (fun _ _ f => f.elim)⟩
  · have hbl := hA.lt
    have hgl := hA.rowLt
    intro k h1 h2
    have hk1 : k < w.heap.size := by
      rcases h1 with h1 | h1
      · omega
      · exact (hgl k h1).1
    rcases h2 with h2 | h2
    · omega
    · have := hh k h2; omega
  · intro k h1
    rcases h1 with h1 | h1
    · omega
    · exact hg k h1
  · have := hk.size
    intro k h1
    rcases h1 with h1 | h1
    · omega
    · have := hh k h1; omega

theorem two_store_in {W w : World} {b c : Nat} {most : Int} {zs ys : List Int} (at' v : Int) (hT : Two W w b c most zs ys) (h : 1 ≤ at') (h2 : at' ≤ (zs.length : Int)) :
    Calls Try.prog 14 #[.pointer (some ⟨b, 0, none⟩), .int .i64 at', .int .i64 v] w fun e w' => e = .returned .nilIface ∧ Two W w' b c most (zs.set (at'.toNat - 1) v) ys := by
  obtain ⟨og, oh, h1, hc, h3, h4, h5, h6⟩ := hT
  refine (store_in at' v w h1 h h2).mono fun _ w' ⟨he, hs⟩ => ⟨he, og, oh, hs.1, hc.kept hs.2 (fun e => h3 c (.inr e) (.inl rfl)) (fun g hg e => h3 g (.inr e) (.inr hg)), h3, h4, h5, h6.trans hs.2 (fun i _ e => h4 i (.inr e))⟩

theorem two_swap_yes {W w : World} {b c : Nat} {most : Int} {zs ys : List Int} (at' old v : Int) (hT : Two W w b c most zs ys) (h : 1 ≤ at') (h2 : at' ≤ (zs.length : Int)) (he : zs.getD (at'.toNat - 1) 0 = old) :
    Calls Try.prog 17 #[.pointer (some ⟨b, 0, none⟩), .int .i64 at', .int .i64 old, .int .i64 v] w fun e w' => e = .returned (.tuple #[.bool true, .nilIface]) ∧ Two W w' b c most (zs.set (at'.toNat - 1) v) ys := by
  obtain ⟨og, oh, h1, hc, h3, h4, h5, h6⟩ := hT
  refine (swap_yes at' old v w h1 h h2 he).mono fun _ w' ⟨he, hs⟩ => ⟨he, og, oh, hs.1, hc.kept hs.2 (fun e => h3 c (.inr e) (.inl rfl)) (fun g hg e => h3 g (.inr e) (.inr hg)), h3, h4, h5, h6.trans hs.2 (fun i _ e => h4 i (.inr e))⟩

theorem two_alloc_in {W w : World} {b c : Nat} {most : Int} {zs ys : List Int} (n : Int) (hT : Two W w b c most zs ys) (hm0 : 0 ≤ most) (hm : most ≤ 4096) (h : 1 ≤ n) (h2 : n ≤ most - zs.length) :
    Calls Try.prog 13 #[.pointer (some ⟨b, 0, none⟩), .int .i64 n] w fun e w' => e = .returned (.tuple #[.int .i64 (zs.length + 1), .nilIface]) ∧ Two W w' b c most (zs ++ List.replicate n.toNat 0) ys := by
  obtain ⟨og, oh, h1, hc, h3, h4, h5, h6⟩ := hT
  have hcl := hc.lt
  have hgl := hc.rowLt
  have hz := h6.size
  refine (alloc_in n w h1 hm0 hm h h2).mono fun _ w' ⟨he, og', hA', hk', ho⟩ => ⟨he, og', oh, hA', hc.kept hk' (fun e => h3 c e (.inl rfl)) (fun g hg e => h3 g e (.inr hg)), ?_, ?_, h5, h6.trans hk' (fun i _ e => h4 i e)⟩
  · intro k hk hj
    rcases hk with hk | hk
    · exact h3 k (.inl hk) hj
    · rcases ho with ho | ⟨g', ho, hl⟩
      · exact h3 k (.inr (by rw [← ho]; exact hk)) hj
      · rw [ho] at hk; cases hk
        rcases hj with hj | hj
        · omega
        · have := (hgl _ hj).1; omega
  · intro k hk
    rcases hk with hk | hk
    · exact h4 k (.inl hk)
    · rcases ho with ho | ⟨g', ho, hl⟩
      · exact h4 k (.inr (by rw [← ho]; exact hk))
      · rw [ho] at hk; cases hk; omega

end Go.Proofs.Ytokfkkmkfgdclaa
