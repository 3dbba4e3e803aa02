/-
  A thing and its waiters in memory of the call's own: slices.Clone at waiters, stores into a thing.
  Conditions: the waiters lie in memory, 200 at most.
-/
import Derived.Test.YtbodlaiakcoabaaGreatDoorModMem
import Derived.LoopTactic
import Derived.Deep.QuietTactic
import Derived.BigQuiet
import Derived.Outline
import Derived.Lib.SliceRun
namespace Go.Proofs.YtbodlaiakcoabaaGreatDoor
open Go.RowKit
set_option linter.unusedSimpArgs false

theorem info_wt : (Tryz.prog.info? 78).map (fun i => (i.zero, i.size, i.bytes)) = some (some (.agg #[.int .i64 0, .int .i64 0]), 2, 16) := by kernel_rfl
theorem wt_cell (xs : List Wt) : ∀ u ∈ flat Wt.cells xs, u.oneCell' = true := by
  intro u hu
  simp only [flat, List.mem_flatMap, Wt.cells, List.mem_cons, List.not_mem_nil, or_false] at hu
  obtain ⟨x, _, h | h⟩ := hu <;> subst h <;> rfl

/-- A row of waiters of the call's own, in a block from W on. -/
def OwnW (W : Nat) (w : World) (s : Option Addr) (c : Nat) (ws : List Wt) : Prop := w.ownsRow W 78 2 (.slice s ws.length c) ws.length (flat Wt.cells ws)
/-- Waiters in new memory. -/
structure NewW (W : Nat) (w : World) (s : Option Addr) (c : Nat) (ws : List Wt) : Prop where
  el : Elems w w.heap.size s 2 Wt.cells ws
  nw : ws ≠ [] → ∃ g, s = some ⟨g, 0, none⟩ ∧ W ≤ g ∧ g < w.heap.size ∧ ∀ o, w.frozen? ⟨g, o, none⟩ = false

section
variable {W : Nat} {w w' : World} {s : Option Addr} {c : Nat} {ws : List Wt}
theorem OwnW.new (h : OwnW W w s c ws) (hm : ws.length ≤ maxLen) : NewW W w s c ws := by
  obtain ⟨s', c', e, hM⟩ := Made.of_own Wt.two h rfl hm
  simp only [Value.slice.injEq] at e
  obtain ⟨rfl, _, rfl⟩ := e
  refine ⟨hM.elems, fun hne => ?_⟩
  obtain ⟨g, hs, h1, h2⟩ := hM.new hne
  subst hs
  exact ⟨g, rfl, h1, h2, fun o => World.ownsRow.frozenAt h o⟩
theorem OwnW.kept {S : Nat → Prop} (h : OwnW W w s c ws) (hk : Kept S w w') (hS : ∀ g, W ≤ g → ¬ S g) : OwnW W w' s c ws := by
  refine ⟨h.1, ?_⟩
  rcases h.2 with h2 | ⟨g, cap, cur, hv, hb, hg, rest⟩
  · exact .inl h2
  · exact .inr ⟨g, cap, cur, hv, hb, hk.at_ hg (hS g hb), rest⟩
theorem OwnW.row (h : OwnW W w s c ws) (hne : ws ≠ []) : ∃ g, s = some ⟨g, 0, none⟩ ∧ W ≤ g ∧ g < w.heap.size ∧ ws.length ≤ c ∧ Row w g c 78 2 Wt.cells ws := by
  rcases h.2 with ⟨_, h0⟩ | ⟨g, cap, cur, hv, hb, hg, hc, rest⟩
  · exact absurd (List.eq_nil_of_length_eq_zero h0) hne
  · simp only [Value.slice.injEq, true_and] at hv
    obtain ⟨rfl, rfl⟩ := hv
    exact ⟨g, rfl, hb, (Array.getElem?_eq_some_iff.1 hg).1, hc, ownsRow_base h⟩
theorem NewW.kept {S : Nat → Prop} (h : NewW W w s c ws) (hk : Kept S w w') (hS : ∀ g, W ≤ g → ¬ S g) : NewW W w' s c ws := by
  have hz := hk.size
  refine ⟨⟨h.el.1, fun i x hi => ?_⟩, fun hne => ?_⟩
  · have hne : ws ≠ [] := by rintro rfl; simp at hi
    obtain ⟨g, hs, h1, h2, _⟩ := h.nw hne
    obtain ⟨g', off, e, hb, hc⟩ := h.el.2 i x hi
    rw [hs] at e
    simp only [Option.some.injEq, Addr.mk.injEq, and_true] at e
    obtain ⟨rfl, rfl⟩ := e
    exact ⟨g, 0, hs, by omega, fun j v hj => (hk.cell (p := ⟨g, 0 + i * 2 + j, none⟩) h2 (hS g h1)).trans (hc j v hj)⟩
  · obtain ⟨g, hs, h1, h2, h3⟩ := h.nw hne
    exact ⟨g, hs, h1, by omega, fun o => (hk.frozen (p := ⟨g, o, none⟩) h2 (hS g h1)).trans (h3 o)⟩
theorem NewW.since {W' : Nat} (h : NewW W w s c ws) (hW : W' ≤ W) : NewW W' w s c ws :=
  ⟨h.el, fun hne => by obtain ⟨g, hs, h1, h2, h3⟩ := h.nw hne; exact ⟨g, hs, by omega, h2, h3⟩⟩
end

set_option maxHeartbeats 1000000 in
theorem copy_any (ws : List Wt) (n : Nat) (hn : ws.length = n) (hl : n ≤ 200) (s : Option Addr) (c : Nat) (w : World) (hE : Elems w w.heap.size s 2 Wt.cells ws) :
    Calls Tryz.prog 63 #[.slice s n c] w fun e w' => ∃ s' c', e = .returned (.slice s' n c') ∧ OwnW w.heap.size w' s' c' ws ∧ Kept (fun _ => False) w w' := by
  have hq := fun (w : World) (a : Option Addr) => Lib.run_eql_slice_nil (P := Tryz.prog) w 40 78 a n c 0 0 Tryz.underlying40
  cases s with
  | none =>
    obtain rfl : n = 0 := by
      rcases Nat.eq_zero_or_pos n with h | h
      · exact h
      · obtain ⟨x, hx⟩ : ∃ x, ws[0]? = some x := ⟨_, List.getElem?_eq_getElem (by omega)⟩
        obtain ⟨g, off, e, _⟩ := hE.2 0 x hx; cases e
    obtain rfl : ws = [] := List.eq_nil_of_length_eq_zero hn
    clear hE hn hl
    go_enter Tryz.func63, Tryz.ntmps63
    go_wp2_with fail
    go_ret
    exact ⟨none, 0, rfl, World.ownsRow_nil _ _ _ _, Kept.refl _ w⟩
  | some ad =>
    obtain ⟨i0, hi, hz0, hz1, hz2⟩ := info_parts info_wt
    have hfl := flat_len Wt.two ws
    rw [hn] at hfl
    have hk1 : Kept (fun _ => False) w (w.alloc (.cells #[] 78)) := (Kept.refl _ w).alloc _
    have hcs : ∀ j u, (flat Wt.cells ws)[j]? = some u → (w.alloc (.cells #[] 78)).cell? (ad.add j) = some u := Elems.cells Wt.two (hE.kept hk1 (Nat.le_refl _) (fun _ _ f => f)) ad rfl
    have HFL := Lib.hid hfl; clear hfl
    have HCS := Lib.hid hcs; clear hcs
    have HI := Lib.hid hi; clear hi
    have HZ0 := Lib.hid hz0; clear hz0
    have HZ1 := Lib.hid hz1; clear hz1
    have HZ2 := Lib.hid hz2; clear hz2
    have HN := Lib.hid hn; clear hn hE hk1
    go_enter Tryz.func63, Tryz.ntmps63
    go_wp2_with (at_builtin; refine wpList_append_own _ rfl (.tmp 5) (.tmp 6) 40 rfl w.heap.size 78 i0 (.agg #[.int .i64 0, .int .i64 0]) 2 16 Tryz.underlying40 HI.out HZ0.out HZ1.out HZ2.out rfl (by decide) _ 0 [] rfl (World.ownsRow_made w #[] 0 (Nat.le_refl _) (Nat.zero_le _) rfl) ad n c (flat Wt.cells ws) rfl ?c1 ?c2 ?c3 ?c4 ?c5 ?c6 ?_)
    case c1 => exact HFL.out
    case c2 => exact HCS.out
    case c3 => exact wt_cell ws
    case c4 => unfold maxLen; omega
    case c5 => omega
    case c6 => simp
    intro v' w1 hown hgrow _
    have hk : Kept (fun _ => False) w w1 := ((Kept.refl (fun _ => False) w).alloc (.cells #[] 78)).grown hgrow (fun k hk e => by simp [Value.ownBlock] at e; omega)
    have hh : ∃ s' c', Ending.returned v' = .returned (.slice s' n c') ∧ OwnW w.heap.size w1 s' c' ws ∧ Kept (fun _ => False) w w1 := by
      have hown2 := hown
      rcases hown2.2 with ⟨rfl, h0⟩ | ⟨g', cap', cur, rfl, hb, hrest⟩
      · subst h0
        obtain rfl : ws = [] := List.eq_nil_of_length_eq_zero HN.out
        exact ⟨none, 0, rfl, hown, hk⟩
      · exact ⟨_, cap', rfl, by unfold OwnW; rw [HN.out]; exact hown, hk⟩
    have HH := Lib.hid hh; clear hh hk hgrow hown
    go_wp2_with fail
    go_ret
    exact HH.out

theorem upd8 (r : Nat → Int) (t : Nat) (v : Int) {k : Nat} : updR r t v k = if k = t then v else r k := rfl
section
variable {w : World} {b c : Nat} {x : Th} {s : Option Addr}
theorem set_is (h : w.heap[b]? = some (.cells (x.box s c) 42 (0, 0))) (j : Nat) (u : Value) {a' : Array Value} (ha : (x.box s c).setIfInBounds j u = a') : (w.setCell ⟨b, j, none⟩ u).heap[b]? = some (.cells a' 42 (0, 0)) := by
  rw [← ha]; exact heap_setCell_same w b j _ _ u h
theorem BoxT.setN (h : BoxT w b x s c) (v : Int) : BoxT (w.setCell ⟨b, 1, none⟩ (.int .i64 v)) b { x with n := v } s c := set_is h 1 _ rfl
theorem BoxT.setOwner (h : BoxT w b x s c) (v : Int) : BoxT (w.setCell ⟨b, 2, none⟩ (.int .i64 v)) b { x with owner := v } s c := set_is h 2 _ rfl
theorem BoxT.setHolds (h : BoxT w b x s c) (v : Int) : BoxT (w.setCell ⟨b, 3, none⟩ (.int .i64 v)) b { x with holds := v } s c := set_is h 3 _ rfl
theorem BoxT.setOffer (h : BoxT w b x s c) (v : Int) : BoxT (w.setCell ⟨b, 13, none⟩ (.int .i64 v)) b { x with offer := v } s c := set_is h 13 _ rfl
theorem BoxT.setItem (h : BoxT w b x s c) (v : Int) : BoxT (w.setCell ⟨b, 14, none⟩ (.int .i64 v)) b { x with item := v } s c := set_is h 14 _ rfl
theorem BoxT.setWs (h : BoxT w b x s c) (s' : Option Addr) (c' : Nat) (ws : List Wt) : BoxT (w.setCell ⟨b, 12, none⟩ (.slice s' ws.length c')) b { x with ws := ws } s' c' := set_is h 12 _ rfl
theorem BoxT.setR (h : BoxT w b x s c) {t : Nat} (ht : t < 8) (v : Int) : BoxT (w.setCell ⟨b, 4 + t, none⟩ (.int .i64 v)) b { x with r := updR x.r t v } s c := by
  obtain rfl | rfl | rfl | rfl | rfl | rfl | rfl | rfl : t = 0 ∨ t = 1 ∨ t = 2 ∨ t = 3 ∨ t = 4 ∨ t = 5 ∨ t = 6 ∨ t = 7 := by omega
  all_goals exact set_is h _ _ rfl
theorem Kept.set1 {S : Nat → Prop} (hk : Kept S w w) (j : Nat) (v : Value) (hS : S b) : Kept S w (w.setCell ⟨b, j, none⟩ v) := hk.setCell _ _ (fun _ => hS)
end

end Go.Proofs.YtbodlaiakcoabaaGreatDoor
