/-
  The contracts of slices.Clone at []int64, and of package cell's Clone.
  Conditions: the slice given is nil or owns its cells; the block given holds an arena.
-/
import Derived.Test.YtdkableaooaebaaDoorAlloc
import Derived.Deep.RegionHeld3
import Derived.WalkSpells
namespace Go.Proofs.YtdkableaooaebaaDoor
open Go.RowKit

/-- A copy of zs in memory of its own; all else as it was. -/
def Copied (w : World) (zs : List Int) (e : Ending) (w' : World) : Prop :=
  ∃ ao' cap', e = .returned (.slice ao' zs.length cap') ∧ w'.ownsRow w.heap.size 2 1 (.slice ao' zs.length cap') zs.length (zs.map (Value.int .i64)) ∧ Kept (fun _ => False) w w'

theorem copy_nil (w : World) : Calls Tryd.prog 22 #[.slice none 0 0] w fun e w' => Copied w [] e w' := by
  have hh : Copied w [] (.returned (.slice none 0 0)) w := ⟨none, 0, rfl, World.ownsRow_nil _ _ _ _, Kept.refl _ _⟩
  have HH := Lib.hid hh; clear hh
  have hq := Lib.run_eql_slice_nil (P := Tryd.prog) w 23 2 none 0 0 0 0 Tryd.underlying23
  go_enter Tryd.func22, Tryd.ntmps22
  go_wp2
  go_ret
  exact HH.out

theorem copy_row (g cap : Nat) (zs : List Int) (w : World) (hl : zs.length ≤ 4096) (hown : w.ownsRow 0 2 1 (.slice (some ⟨g, 0, none⟩) zs.length cap) zs.length (zs.map (Value.int .i64))) :
    Calls Tryd.prog 22 #[.slice (some ⟨g, 0, none⟩) zs.length cap] w fun e w' => Copied w zs e w' := by
  obtain ⟨i0, hi, hz0, hz1, hz2⟩ := info_parts Tryd.info2
  have hcs : ∀ j u, (zs.map (Value.int .i64))[j]? = some u → w.cell? ((⟨g, 0, none⟩ : Addr).add j) = some u := hown.cells (g := g) rfl
  have hgl : g < w.heap.size := (hown.lt g rfl).2
  have hq := Lib.run_eql_slice_nil (P := Tryd.prog) w 23 2 (some ⟨g, 0, none⟩) zs.length cap 0 0 Tryd.underlying23
  have HCS := Lib.hid hcs; clear hcs
  have HOWN := Lib.hid hown; clear hown
  have HI := Lib.hid hi; clear hi
  have HZ0 := Lib.hid hz0; clear hz0
  have HZ1 := Lib.hid hz1; clear hz1
  have HZ2 := Lib.hid hz2; clear hz2
  go_enter Tryd.func22, Tryd.ntmps22
  go_wp2_with (at_builtin; refine wpList_append_own _ rfl (.tmp 5) (.tmp 6) 23 rfl w.heap.size 2 i0 (.int .i64 0) 1 8 Tryd.underlying23 HI.out HZ0.out HZ1.out HZ2.out rfl (by decide) _ 0 [] rfl (World.ownsRow_made w #[] 0 (Nat.le_refl _) (Nat.zero_le _) rfl) ⟨g, 0, none⟩ zs.length cap (zs.map (Value.int .i64)) rfl ?c1 ?c2 ?c3 ?c4 ?c5 ?c6 ?_)
  case c1 => simp
  case c2 =>
    intro j u hu
    rw [Addr.add_lit, World.cell?_alloc_past _ _ _ hgl, ← Addr.add_lit]
    exact HCS.out j u hu
  case c3 =>
    intro u hu
    obtain ⟨x, _, rfl⟩ := List.mem_map.1 hu
    rfl
  case c4 => unfold maxLen; omega
  case c5 => omega
  case c6 => simp
  intro v' w1 hown' hgrow _
  have hk : Kept (fun _ => False) w w1 := ((Kept.refl _ w).alloc (.cells #[] 2)).grown hgrow (fun k hk e => by simp [Value.ownBlock] at e; omega)
  have hh : Copied w zs (.returned v') w1 := by
    rcases hown'.2 with ⟨rfl, h0⟩ | ⟨g', cap', cur, rfl, _⟩
    · have hz : zs = [] := List.eq_nil_of_length_eq_zero (by omega)
      subst hz
      exact ⟨none, 0, rfl, hown', hk⟩
    · exact ⟨some ⟨g', 0, none⟩, cap', by simp, by simpa using hown', hk⟩
  have HH := Lib.hid hh; clear hh hk hgrow hown'
  go_wp2
  go_ret
  exact HH.out

theorem copy_any {w : World} {ao : Option Addr} {cap : Nat} {zs : List Int} (hl : zs.length ≤ 4096) (hown : w.ownsRow 0 2 1 (.slice ao zs.length cap) zs.length (zs.map (Value.int .i64))) :
    Calls Tryd.prog 22 #[.slice ao zs.length cap] w fun e w' => Copied w zs e w' := by
  rcases hown.2 with ⟨hv, h0⟩ | ⟨g, cap', cur, hv, _⟩
  · have hz : zs = [] := List.eq_nil_of_length_eq_zero h0
    subst hz
    rw [hv]
    exact copy_nil w
  · simp only [Value.slice.injEq] at hv
    obtain ⟨rfl, _, rfl⟩ := hv
    exact copy_row g cap zs w hl hown

theorem copy_drew {w : World} {ao : Option Addr} {cap : Nat} {zs : List Int} (hl : zs.length ≤ 4096) (hown : w.ownsRow 0 2 1 (.slice ao zs.length cap) zs.length (zs.map (Value.int .i64))) :
    Calls Tryd.prog 22 #[.slice ao zs.length cap] w.drew fun e w' => Copied w.drew zs e w' :=
  copy_any hl (hown.kept (row := none) ⟨rfl, rfl, rfl, Nat.le_refl _, fun _ _ _ => rfl⟩ (by cases Value.ownBlock (.slice ao zs.length cap) <;> simp))

/-- What Clone leaves: an arena of its own that holds the same; all else as it was. -/
def Twin (w : World) (most : Int) (zs : List Int) (e : Ending) (w' : World) : Prop :=
  ∃ b' og', e = .returned (.pointer (some ⟨b', 0, none⟩)) ∧ w.heap.size ≤ b' ∧ (∀ g, og' = some g → w.heap.size ≤ g) ∧ Arena w' b' og' most zs ∧ Kept (fun _ => False) w w'

theorem twin_of {w w0 w1 : World} {v' : Value} {most : Int} {zs : List Int} (hw : Kept (fun _ => False) w w0) (hown : w1.ownsRow w0.heap.size 2 1 v' zs.length (zs.map (Value.int .i64))) (hk : Kept (fun _ => False) w0 w1) :
    Twin w most zs (.returned (.pointer (some ⟨w1.heap.size, 0, none⟩))) (w1.alloc (.cells #[.int .i64 most, v'] 62)) := by
  have hs := hw.size
  have hs1 := hk.size
  have hlt := hown.lt
  refine ⟨w1.heap.size, v'.ownBlock, rfl, by omega, fun g hg => by have := (hlt g hg).1; omega, ⟨v', heap_alloc_new w1 _, ?_, rfl, fun e => by have := (hlt _ e).2; omega⟩, (hw.trans hk (fun _ _ f => f)).alloc _⟩
  have h2 := hown.alloc (.cells #[.int .i64 most, v'] 62)
  refine ⟨h2.1, ?_⟩
  rcases h2.2 with h | ⟨g, cap, cur, h3, _, h4⟩
  · exact .inl h
  · exact .inr ⟨g, cap, cur, h3, Nat.zero_le _, h4⟩

set_option maxHeartbeats 400000 in
theorem clone_any {b : Nat} {og : Option Nat} {most : Int} {zs : List Int} (w : World) (hA : Arena w b og most zs) (hl : zs.length ≤ 4096) :
    Calls Tryd.prog 11 #[.pointer (some ⟨b, 0, none⟩)] w fun e w' => Twin w most zs e w' := by
  have hbl := hA.lt
  obtain ⟨ao, cap, hb, c0, c1, f1, hm1, hown, ho, hne⟩ := hA.bare
  have HB := Lib.hid hb; clear hb
  have HO := Lib.hid ho; clear ho
  have HOWN := Lib.hid hown; clear hown
  have HA := Lib.hid hA; clear hA
  go_enter Tryd.func11, Tryd.ntmps11
  go_wp2
  go_region_with (go_at_call 22; refine (copy_drew hl HOWN.out).mono ?_; rintro e w' ⟨ao', cap', rfl, hown', hk⟩; have c0' : w'.cell? ⟨b, 0, none⟩ = some (.int .i64 most) := (hk.cell (p := ⟨b, 0, none⟩) hbl (fun f => f)).trans c0; have c1' : w'.cell? ⟨b, 1, none⟩ = some (.slice ao zs.length cap) := (hk.cell (p := ⟨b, 1, none⟩) hbl (fun f => f)).trans c1)
  all_goals
    have HT := Lib.hid (twin_of (most := most) (Kept.drew (Kept.refl (fun _ => False) w)) hown' hk)
    clear hown' hk
    go_wp2
    go_ret
    exact HT.out

end Go.Proofs.YtdkableaooaebaaDoor
