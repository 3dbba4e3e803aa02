/-
  The contracts of slices.Clone at threads, and of package permit's Clone.
  Conditions: the blocks given hold a table of at least one thread.
-/
import Derived.Test.YtdkableaooaebaaDoorTable
namespace Go.Proofs.YtdkableaooaebaaDoor
open Go.RowKit

/-- A copy in memory of its own; all else as it was. -/
def CopiedParks (w : World) (ps : List Pk) (e : Ending) (w' : World) : Prop :=
  ∃ g' c', e = .returned (.slice (some ⟨g', 0, none⟩) ps.length c') ∧ w.heap.size ≤ g' ∧ Row w' g' c' 76 4 Pk.cells ps ∧ Kept (fun _ => False) w w'

theorem one_cells (ps : List Pk) : ∀ u ∈ flat Pk.cells ps, u.oneCell' = true := by
  intro u hu
  simp only [flat, List.mem_flatMap, Pk.cells] at hu
  obtain ⟨p, _, hu⟩ := hu
  simp only [List.mem_cons, List.not_mem_nil, or_false] at hu
  rcases hu with rfl | rfl | rfl | rfl <;> rfl

theorem copy_parks (g cap : Nat) (ps : List Pk) (w : World) (h1 : 1 ≤ ps.length) (hl : ps.length ≤ 8) (hown : Row w g cap 76 4 Pk.cells ps) :
    Calls Tryd.prog 27 #[.slice (some ⟨g, 0, none⟩) ps.length cap] w fun e w' => CopiedParks w ps e w' := by
  obtain ⟨i0, hi, hz0, hz1, hz2⟩ := info_parts Tryd.infoPark
  have hfl := flat_len Pk.four ps
  have hcs : ∀ j u, (flat Pk.cells ps)[j]? = some u → w.cell? ((⟨g, 0, none⟩ : Addr).add j) = some u := World.ownsRow.cells hown (g := g) rfl
  have hgl : g < w.heap.size := hown.lt
  have hq := Lib.run_eql_slice_nil (P := Tryd.prog) w 71 76 (some ⟨g, 0, none⟩) ps.length cap 0 0 Tryd.underlying71
  have HFL := Lib.hid hfl; clear hfl
  have HCS := Lib.hid hcs; clear hcs
  have HOWN := Lib.hid hown; clear hown
  have HI := Lib.hid hi; clear hi
  have HZ0 := Lib.hid hz0; clear hz0
  have HZ1 := Lib.hid hz1; clear hz1
  have HZ2 := Lib.hid hz2; clear hz2
  go_enter Tryd.func27, Tryd.ntmps27
  go_wp2_with (at_builtin; refine wpList_append_own _ rfl (.tmp 5) (.tmp 6) 71 rfl w.heap.size 76 i0 (.agg #[.bool false, .bool false, .bool false, .int .i64 0]) 4 16 Tryd.underlying71 HI.out HZ0.out HZ1.out HZ2.out rfl (by decide) _ 0 [] rfl (World.ownsRow_made w #[] 0 (Nat.le_refl _) (Nat.zero_le _) rfl) ⟨g, 0, none⟩ ps.length cap (flat Pk.cells ps) rfl ?c1 ?c2 ?c3 ?c4 ?c5 ?c6 ?_)
  case c1 => exact HFL.out
  case c2 =>
    intro j u hu
    rw [Addr.add_lit, World.cell?_alloc_past _ _ _ hgl, ← Addr.add_lit]
    exact HCS.out j u hu
  case c3 => exact one_cells ps
  case c4 => unfold maxLen; omega
  case c5 => omega
  case c6 => simp
  intro v' w1 hown' hgrow _
  have hk : Kept (fun _ => False) w w1 := ((Kept.refl _ w).alloc (.cells #[] 76)).grown hgrow (fun k hk e => by simp [Value.ownBlock] at e; omega)
  have hh : CopiedParks w ps (.returned v') w1 := by
    rcases hown'.2 with ⟨rfl, h0⟩ | ⟨g', cap', cur, rfl, hb, hrest⟩
    · omega
    · exact ⟨g', cap', by simp, hb, ⟨hown'.1, .inr ⟨g', cap', cur, rfl, Nat.zero_le _, hrest⟩⟩, hk⟩
  have HH := Lib.hid hh; clear hh hk hgrow hown'
  go_wp2_with fail
  go_ret
  exact HH.out

/-- What Clone leaves: a table of its own that stands alike; all else as it was. -/
def TwinTab (w : World) (now : Int) (ps : List Pk) (e : Ending) (w' : World) : Prop :=
  ∃ b' g' c', e = .returned (.pointer (some ⟨b', 0, none⟩)) ∧ w.heap.size ≤ b' ∧ w.heap.size ≤ g' ∧ Tab w' b' g' c' now ps ∧ Kept (fun _ => False) w w'

theorem twin_tab {w w0 w1 : World} {g' c' : Nat} {now : Int} {ps : List Pk} (hl : ps.length ≤ 8) (hw : Kept (fun _ => False) w w0) (hg : w0.heap.size ≤ g') (hR : Row w1 g' c' 76 4 Pk.cells ps) (hk : Kept (fun _ => False) w0 w1) :
    TwinTab w now ps (.returned (.pointer (some ⟨w1.heap.size, 0, none⟩))) (w1.alloc (.cells #[.int .i64 now, .slice (some ⟨g', 0, none⟩) ps.length c'] 73)) := by
  have hs := hw.size
  have hs1 := hk.size
  have hlt := hR.lt
  exact ⟨w1.heap.size, g', c', rfl, by omega, by omega, ⟨heap_alloc_new w1 _, hR.kept ((Kept.refl (fun _ => False) w1).alloc _) (fun f => f), by omega, hl⟩, (hw.trans hk (fun _ _ f => f)).alloc _⟩

set_option maxHeartbeats 400000 in
theorem clone_tab {w : World} {b g c : Nat} {now : Int} {ps : List Pk} (h : Tab w b g c now ps) (h1 : 1 ≤ ps.length) :
    Calls Tryd.prog 15 #[.pointer (some ⟨b, 0, none⟩)] w (TwinTab w now ps) := by
  have hl := h.2.2.2
  have c0 := h.c0
  have c1 := h.c1
  have hbl := h.lt.1
  have hcp := copy_parks g c ps w.drew h1 hl (h.2.1.kept (Kept.drew (Kept.refl (fun _ => False) w)) (fun f => f))
  have HCP := Lib.hid hcp
  clear h hcp
  go_enter Tryd.func15, Tryd.ntmps15
  go_wp2
  go_region_with (go_at_call 27; refine HCP.out.mono ?_; rintro e w' ⟨g', c', rfl, hg', hR, hk⟩; have c0' : w'.cell? ⟨b, 0, none⟩ = some (.int .i64 now) := (hk.cell (p := ⟨b, 0, none⟩) hbl (fun f => f)).trans c0; have c1' : w'.cell? ⟨b, 1, none⟩ = some (.slice (some ⟨g, 0, none⟩) ps.length c) := (hk.cell (p := ⟨b, 1, none⟩) hbl (fun f => f)).trans c1)
  all_goals
    have HT := Lib.hid (twin_tab (now := now) hl (Kept.drew (Kept.refl (fun _ => False) w)) hg' hR hk)
    clear hg' hR hk
    go_wp2
    go_ret
    exact HT.out

end Go.Proofs.YtdkableaooaebaaDoor
