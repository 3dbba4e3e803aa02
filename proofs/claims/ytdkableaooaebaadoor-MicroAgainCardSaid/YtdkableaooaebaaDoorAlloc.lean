/-
  The contracts of package cell's Alloc and Clone.
  Conditions: the block given holds an arena of at most 4096 cells.
-/
import Derived.Test.YtdkableaooaebaaDoorArena
namespace Go.Proofs.YtdkableaooaebaaDoor
open Go.RowKit

theorem Arena.bare {w : World} {b : Nat} {og : Option Nat} {most : Int} {zs : List Int} (h : Arena w b og most zs) :
    ∃ ao cap, w.heap[b]? = some (.cells #[.int .i64 most, .slice ao zs.length cap] 62 (0, 0)) ∧ w.cell? ⟨b, 0, none⟩ = some (.int .i64 most) ∧ w.cell? ⟨b, 1, none⟩ = some (.slice ao zs.length cap) ∧ w.frozen? ⟨b, 1, none⟩ = false ∧ zs.length ≤ maxLen ∧
      w.ownsRow 0 2 1 (.slice ao zs.length cap) zs.length (zs.map (Value.int .i64)) ∧ Value.ownBlock (.slice ao zs.length cap) = og ∧ og ≠ some b := by
  obtain ⟨v, hb, hown, ho, hne⟩ := h
  rcases hown.2 with ⟨rfl, h0⟩ | ⟨g, cap, cur, rfl, hbg, hgg, hn, hm, hs, ht⟩
  · have hz : zs = [] := List.eq_nil_of_length_eq_zero h0
    subst hz
    exact ⟨none, 0, hb, by rw [cell_at w b 0 _ _ hb]; rfl, by rw [cell_at w b 1 _ _ hb]; rfl, frozen_at w b 1 _ _ hb, by simp, hown, ho, hne⟩
  · exact ⟨some ⟨g, 0, none⟩, cap, hb, by rw [cell_at w b 0 _ _ hb]; rfl, by rw [cell_at w b 1 _ _ hb]; rfl, frozen_at w b 1 _ _ hb, by omega, hown, ho, hne⟩

theorem Tryd.info2 : (Tryd.prog.info? 2).map (fun i => (i.zero, i.size, i.bytes)) = some (some (.int .i64 0), 1, 8) := by kernel_rfl

theorem alloc_arg (b : Nat) (n : Int) (w : World) (h : n < 1) :
    Calls Tryd.prog 20 #[.pointer (some ⟨b, 0, none⟩), .int .i64 n] w fun e w' => e = .returned (.tuple #[.int .i64 0, .iface 42 (.int .i64 1)]) ∧ w = w' := by
  go_enter Tryd.func20, Tryd.ntmps20
  go_wp2
  go_ret2
  exact ⟨rfl, rfl⟩

theorem alloc_full {b : Nat} {og : Option Nat} {most : Int} {zs : List Int} (n : Int) (w : World) (hA : Arena w b og most zs) (hm0 : 0 ≤ most) (hm : most ≤ 4096) (h : 1 ≤ n) (h2 : most - zs.length < n) :
    Calls Tryd.prog 20 #[.pointer (some ⟨b, 0, none⟩), .int .i64 n] w fun e w' => e = .returned (.tuple #[.int .i64 0, .iface 42 (.int .i64 3)]) ∧ ∃ k, w' = w.drewN k := by
  obtain ⟨ao, cap, c0, c1, f1, hm1, _, _⟩ := hA.fields
  unfold maxLen at hm1
  clear hA
  have hn : ¬ n < 1 := by omega
  have e1 : IntKind.i64.wrap (most - (zs.length : Int)) = most - (zs.length : Int) := IntWalk.i64_in _ (by omega)
  go_enter Tryd.func20, Tryd.ntmps20
  go_wp2
  go_quiet (fail)
  go_wp2
  go_ret2
  exact ⟨rfl, _, rfl⟩

/-- What Alloc leaves: the arena with more cells; its row, where it was or new; all else as it was. -/
def Alloced (w : World) (b : Nat) (og : Option Nat) (most : Int) (zs' : List Int) (w' : World) : Prop :=
  ∃ og', Arena w' b og' most zs' ∧ Kept (Foot b og) w w' ∧ (og' = og ∨ ∃ g, og' = some g ∧ w.heap.size ≤ g)

theorem alloced_of {w w1 : World} {b nq m g cap cap' : Nat} {ao : Option Addr} {og : Option Nat} {most : Int} {zs : List Int}
    (hb : w.heap[b]? = some (.cells #[.int .i64 most, .slice ao zs.length cap] 62 (0, 0))) (ho : Value.ownBlock (.slice ao zs.length cap) = og) (hne : og ≠ some b)
    (hown : w1.ownsRow 0 2 1 (.slice (some ⟨g, 0, none⟩) (zs.length + m) cap') (zs.length + m) (zs.map (Value.int .i64) ++ (Builtin.zeroCells (Value.cells (.int .i64 0)) m).toList))
    (hg : (w.drewN nq).grownBy w1 (Value.ownBlock (.slice ao zs.length cap))) (hv : Value.ownBlock (.slice (some ⟨g, 0, none⟩) (zs.length + m) cap') = Value.ownBlock (.slice ao zs.length cap) ∨ Value.ownBlock (.slice (some ⟨g, 0, none⟩) (zs.length + m) cap') = some (w.drewN nq).heap.size) :
    Alloced w b og most (zs ++ List.replicate m 0) (w1.setCell ⟨b, 1, none⟩ (.slice (some ⟨g, 0, none⟩) (zs.length + m) cap')) := by
  have hbl : b < w.heap.size := (Array.getElem?_eq_some_iff.1 hb).1
  rw [ho] at hg hv
  have hk0 : Kept (fun _ => False) w (w.drewN nq) := ⟨rfl, rfl, rfl, Nat.le_refl _, fun _ _ _ => rfl⟩
  have hk1 : Kept (Foot b og) w w1 := (hk0.mono (T := Foot b og) (fun _ _ f => f.elim)).grown hg (fun k _ e => .inr e)
  have hgb : g ≠ b := by
    rcases hv with hv | hv
    · simp [Value.ownBlock] at hv; intro e; subst e; exact hne hv.symm
    · simp [Value.ownBlock] at hv; omega
  have hb1 : w1.heap[b]? = some (.cells #[.int .i64 most, .slice ao zs.length cap] 62 (0, 0)) := (hg.block b hbl (fun e => hne e.symm)).trans hb
  refine ⟨some g, ⟨.slice (some ⟨g, 0, none⟩) (zs.length + m) cap', ?_, ?_, rfl, by simpa using hgb⟩, hk1.setCell _ _ (fun _ => .inl rfl), ?_⟩
  · simp only [World.setCell, Array.getElem?_modify]
    simp [hb1]
  · obtain ⟨h1, h2⟩ := hown
    rw [zeroCells_int] at h1 h2
    refine ⟨by simp, ?_⟩
    rcases h2 with ⟨h, _⟩ | ⟨g', cap2, cur, he, h3, h4, h5, h6, h7, h8⟩
    · cases h
    · simp only [Value.slice.injEq, Option.some.injEq, Addr.mk.injEq, and_true, true_and] at he
      obtain ⟨rfl, rfl⟩ := he
      refine .inr ⟨g, cap', cur, by simp, h3, (Below.heap_setCell _ _ _ _ hgb).trans h4, by simpa using h5, h6, h7, ?_⟩
      simpa using h8
  · rcases hv with hv | hv
    · exact .inl hv
    · exact .inr ⟨g, rfl, by simp [Value.ownBlock] at hv; omega⟩

set_option maxRecDepth 10000 in
set_option maxHeartbeats 400000 in
theorem alloc_in {b : Nat} {og : Option Nat} {most : Int} {zs : List Int} (n : Int) (w : World) (hA : Arena w b og most zs) (hm0 : 0 ≤ most) (hm : most ≤ 4096) (h : 1 ≤ n) (h2 : n ≤ most - zs.length) :
    Calls Tryd.prog 20 #[.pointer (some ⟨b, 0, none⟩), .int .i64 n] w fun e w' => e = .returned (.tuple #[.int .i64 (zs.length + 1), .nilIface]) ∧ Alloced w b og most (zs ++ List.replicate n.toNat 0) w' := by
  obtain ⟨m, rfl⟩ : ∃ m : Nat, n = m := ⟨n.toNat, by omega⟩
  have hbl := hA.lt
  obtain ⟨ao, cap, hb, c0, c1, f1, hm1, hown, ho, hne⟩ := hA.bare
  clear hA
  unfold maxLen at hm1
  have hn : ¬ (m : Int) < 1 := by omega
  have hn2 : ¬ (most - (zs.length : Int) < (m : Int)) := by omega
  have e1 : IntKind.i64.wrap (most - (zs.length : Int)) = most - (zs.length : Int) := IntWalk.i64_in _ (by omega)
  obtain ⟨i0, hi, hz0, hz1, hz2⟩ := info_parts Tryd.info2
  have HB := Lib.hid hb; clear hb
  have HO := Lib.hid ho; clear ho
  have HOWN := Lib.hid hown; clear hown
  have HI := Lib.hid hi; clear hi
  have HZ0 := Lib.hid hz0; clear hz0
  have HZ1 := Lib.hid hz1; clear hz1
  have HZ2 := Lib.hid hz2; clear hz2
  go_enter Tryd.func20, Tryd.ntmps20
  go_wp2
  go_quiet (fail)
  go_wp2_with (at_builtin; refine wpList_append_own_zeros _ rfl (.tmp 33) (.tmp 34) 23 3 rfl 0 2 i0 (.int .i64 0) .i64 .i64 1 8 Tryd.underlying23 Tryd.underlying3 HI.out HZ0.out HZ1.out HZ2.out rfl (by decide) (.slice ao zs.length cap) zs.length (zs.map (Value.int .i64)) rfl ?c1 m rfl ?c2 ?c3 ?c4 ?c5 ?c6 ?_)
  case c1 => exact World.ownsRow.kept HOWN.out ⟨rfl, rfl, rfl, Nat.le_refl _, fun _ _ _ => rfl⟩ (row := none) (by cases Value.ownBlock (.slice ao zs.length cap) <;> simp)
  case c2 => omega
  case c3 => intro u hu; rw [zeroCells_int] at hu; rw [List.eq_of_mem_replicate hu]; rfl
  case c4 => unfold maxLen; omega
  case c5 => omega
  case c6 => exact Nat.zero_le _
  intro v' w1 hown' hgrow hv'
  obtain ⟨g, cap', rfl⟩ : ∃ g cap', v' = .slice (some ⟨g, 0, none⟩) (zs.length + m) cap' := by
    rcases hown'.2 with ⟨_, h0⟩ | ⟨g, cap', _, h0, _⟩
    · omega
    · exact ⟨g, cap', h0⟩
  have hfin := alloced_of HB.out HO.out hne hown' hgrow hv'
  have hk1 : w1.cell? ⟨b, 1, none⟩ = w.cell? ⟨b, 1, none⟩ := World.cell?_of_block (w := w) (a := ⟨b, 1, none⟩) (hgrow.block b hbl (fun e => hne (by rw [← HO.out]; exact e.symm)))
  have hf1 : w1.frozen? ⟨b, 1, none⟩ = w.frozen? ⟨b, 1, none⟩ := World.frozen?_of_block (w := w) (a := ⟨b, 1, none⟩) (hgrow.block b hbl (fun e => hne (by rw [← HO.out]; exact e.symm)))
  rw [c1] at hk1
  rw [f1] at hf1
  have HF := Lib.hid hfin; clear hfin hgrow hv' hown'
  go_wp2
  go_ret2
  exact ⟨rfl, HF.out⟩

end Go.Proofs.YtdkableaooaebaaDoor
