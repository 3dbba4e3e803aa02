/-
  The statements' own helper of layer 5: Plain, and up, the document's example.
  Conditions: none.
  The document's example of layer 11: tholelaw11.up.
  Conditions: the library's type of errors lies as its text lays it.
-/
import Derived.Test.YtbodlaiakcoabaaGreatDoorFew
import Derived.Test.YtbodlaiakcoabaaGreatDoorScrOwn
import Derived.Test.YtbodlaiakcoabaaGreatDoorEql
import Derived.Handy
import Derived.Test.YtbodlaiakcoabaaGreatDoorRepEvs
import Derived.Test.YtbodlaiakcoabaaGreatDoorRepLaid
import Derived.Deep.RegionWith
section
namespace Go.Proofs.YtbodlaiakcoabaaGreatDoor
open Go.RowKit

/-- The document's example, and nothing. -/
def plainSc (s : Nat) : Sc := ⟨some ⟨s + 1, 0, none⟩, 1, [⟨1, false, 0⟩], some ⟨s + 1 + 1 + 1, 0, none⟩, 1, [⟨some ⟨s + 1 + 1, 0, none⟩, 2, [⟨1, 0, 0, -1, false⟩, ⟨3, 0, 0, 0, false⟩]⟩], none, 0, []⟩
def noSc : Sc := ⟨none, 0, [], none, 0, [], none, 0, []⟩

theorem plain_small (s : Nat) : largeF (plainSc s) = false := rfl
theorem plain_good (s : Nat) : goodF (plainSc s) = true := rfl

theorem noSc_lies (w : World) (B : Nat) : Lies w B noSc := ⟨Elems.nil, ⟨Elems.nil, fun p h => by simp [noSc] at h⟩, Elems.nil⟩

theorem plain_lies (w : World) (a : Obj) (t1 t2 t3 : TypeId) : Lies
    ((((w.alloc a).alloc (.cells #[.int .i64 1, .bool false, .int .i64 0] t1)).alloc (.cells #[.int .i64 1, .int .i64 0, .int .i64 0, .int .i64 (-1), .bool false, .int .i64 3, .int .i64 0, .int .i64 0, .int .i64 0, .bool false] t2)).alloc
      (.cells #[.slice (some ⟨w.heap.size + 1 + 1, 0, none⟩) 2 2] t3)) (w.heap.size + 4) (plainSc w.heap.size) := by
  obtain ⟨wa, ha⟩ : ∃ wa, w.alloc a = wa := ⟨_, rfl⟩
  have hs : wa.heap.size = w.heap.size + 1 := by rw [← ha]; simp
  rw [ha]
  generalize w.heap.size = s at *
  obtain ⟨wb, hb⟩ : ∃ wb, wa.alloc (.cells #[.int .i64 1, .bool false, .int .i64 0] t1) = wb := ⟨_, rfl⟩
  have hsb : wb.heap.size = s + 1 + 1 := by rw [← hb]; simp [hs]
  have hob : wb.heap[s + 1]? = some (.cells #[.int .i64 1, .bool false, .int .i64 0] t1 (0, 0)) := by rw [← hb, ← hs]; exact heap_alloc_new wa _
  rw [hb]
  obtain ⟨wc, hc⟩ : ∃ wc, wb.alloc (.cells #[.int .i64 1, .int .i64 0, .int .i64 0, .int .i64 (-1), .bool false, .int .i64 3, .int .i64 0, .int .i64 0, .int .i64 0, .bool false] t2) = wc := ⟨_, rfl⟩
  have hsc : wc.heap.size = s + 1 + 1 + 1 := by rw [← hc]; simp [hsb]
  have hoc : wc.heap[s + 1 + 1]? = some (.cells #[.int .i64 1, .int .i64 0, .int .i64 0, .int .i64 (-1), .bool false, .int .i64 3, .int .i64 0, .int .i64 0, .int .i64 0, .bool false] t2 (0, 0)) := by rw [← hc, ← hsb]; exact heap_alloc_new wb _
  have kc : Kept (fun _ => False) wb wc := by rw [← hc]; exact (Kept.refl _ _).alloc _
  rw [hc]
  have hod : (wc.alloc (.cells #[.slice (some ⟨s + 1 + 1, 0, none⟩) 2 2] t3)).heap[s + 1 + 1 + 1]? = some (.cells #[.slice (some ⟨s + 1 + 1, 0, none⟩) 2 2] t3 (0, 0)) := by rw [← hsc]; exact heap_alloc_new wc _
  have kd : Kept (fun _ => False) wc (wc.alloc (.cells #[.slice (some ⟨s + 1 + 1, 0, none⟩) 2 2] t3)) := (Kept.refl _ _).alloc _
  generalize wc.alloc (.cells #[.slice (some ⟨s + 1 + 1, 0, none⟩) 2 2] t3) = wd at *
  have hob' := (kd.block (s + 1) (by omega) (fun f => f)).trans ((kc.block (s + 1) (by omega) (fun f => f)).trans hob)
  have hoc' := (kd.block (s + 1 + 1) (by omega) (fun f => f)).trans hoc
  refine ⟨(Elems.block Ob.three (xs := [⟨1, false, 0⟩]) hob' rfl (by decide)).more (by omega), ⟨(Elems.block Pr.one (xs := [⟨some ⟨s + 1 + 1, 0, none⟩, 2, [⟨1, 0, 0, -1, false⟩, ⟨3, 0, 0, 0, false⟩]⟩]) hod rfl (by show 1 ≤ maxLen; decide)).more (by omega), fun p hp => ?_⟩, Elems.nil⟩
  simp only [plainSc, List.mem_cons, List.not_mem_nil, or_false] at hp
  subst hp
  exact (Elems.block Cl.five (xs := [⟨1, 0, 0, -1, false⟩, ⟨3, 0, 0, 0, false⟩]) hoc' rfl (by decide)).more (by omega)

theorem plain_any (w : World) : Calls Tryz.prog 15 #[] w fun e w' => e = .returned (plainSc w.heap.size).agg ∧ Lies w' (w.heap.size + 4) (plainSc w.heap.size) ∧ w.heap.size + 4 ≤ w'.heap.size ∧ Kept (fun _ => False) w w' := by
  go_enter Tryz.func15, Tryz.ntmps15
  go_wp2_with fail
  go_returns
  exact ⟨rfl, plain_lies w _ _ _ _, by simp, ((((Kept.refl _ w).alloc _).alloc _).alloc _).alloc _⟩

end Go.Proofs.YtbodlaiakcoabaaGreatDoor
end
section
namespace Go.Proofs.YtbodlaiakcoabaaGreatDoor
open Go.RowKit
set_option linter.unusedSimpArgs false
set_option linter.unusedVariables false
set_option maxRecDepth 100000

def upL : List Ev := [⟨1, 0, 0, ⟨0, 0⟩, 0, 0⟩, ⟨2, 0, 0, ⟨1, 1⟩, 0, 0⟩, ⟨3, 0, 0, ⟨0, 0⟩, 0, 0⟩]
def upT : List Ev := [⟨2, 0, 0, ⟨1, 1⟩, 0, 0⟩, ⟨3, 0, 0, ⟨0, 0⟩, 0, 0⟩]
theorem up_go (s : Nat) : ∃ σ x, goM (startM (plainSc s).obs ((plainSc s).prs.map Pr.ops)) 0 upL = .inr σ ∧ σ.things = [x] ∧ x.owner = 0 ∧ x.holds = 1 := ⟨_, _, rfl, rfl, rfl, rfl⟩
theorem up_not (s : Nat) : goM (startM (plainSc s).obs ((plainSc s).prs.map Pr.ops)) 0 upT = .inl 0 := rfl

theorem elems_drop {α : Type} {w : World} {B m g off : Nat} {f : α → List Value} {xs : List α} (h : Elems w B (some ⟨g, off, none⟩) m f xs) (k : Nat) : Elems w B (some ⟨g, off + k * m, none⟩) m f (xs.drop k) := by
  refine ⟨by have := h.1; rw [List.length_drop]; omega, fun i x hi => ?_⟩
  rw [List.getElem?_drop] at hi
  obtain ⟨g', off', e, hb, hc⟩ := h.2 (k + i) x hi
  simp only [Option.some.injEq, Addr.mk.injEq, and_true] at e
  obtain ⟨rfl, rfl⟩ := e
  refine ⟨g, off + k * m, rfl, hb, fun j v hj => ?_⟩
  have := hc j v hj
  rwa [Nat.add_mul, ← Nat.add_assoc] at this

theorem run_upT (s b : Nat) (w : World) (hl : Lies w w.heap.size (plainSc s)) (hE : Elems w w.heap.size (some ⟨b, 7, none⟩) 7 Ev.cells upT) (h64 : ∀ ev ∈ upT, Ev64 ev) :
    Calls Tryz.prog 11 #[(plainSc s).agg, .slice (some ⟨b, 7, none⟩) 2 2] w fun e w' => ∃ g, e = .returned (.tuple #[.slice none 0 0, Er.spotV g]) ∧ Er.SpotAt w' g (7, 0) ∧ Kept (fun _ => False) w w' := by
  refine (run_any (plainSc s) upT (some ⟨b, 7, none⟩) 2 w hl hE h64 (by decide) rfl rfl).mono ?_
  rintro e w' ⟨hk, hR⟩
  rw [up_not] at hR
  rcases hR with ⟨k, h0, g, rfl, hsp⟩ | ⟨σ, h0, _⟩
  · simp only [Sum.inl.injEq] at h0
    subst h0
    exact ⟨g, rfl, hsp, hk⟩
  · cases h0

set_option maxHeartbeats 4000000 in
theorem up11_any (w : World) (hH : Er.HndAt w) : Calls Tryz.prog 9 #[] w fun e w' => e = .returned (.bool true) ∧ Kept (fun _ => False) w w' := by
  obtain ⟨W1, hW1⟩ : ∃ W1, w.alloc (.cells (upL.flatMap Ev.cells).toArray 38) = W1 := ⟨_, rfl⟩
  have hk1 : Kept (fun _ => False) w W1 := by rw [← hW1]; exact (Kept.refl _ _).alloc _
  have hb1 : W1.heap[w.heap.size]? = some (.cells (upL.flatMap Ev.cells).toArray 38 (0, 0)) := by rw [← hW1]; exact heap_new1 _ _
  have hs1 : W1.heap.size = w.heap.size + 1 := by rw [← hW1]; simp
  have hE : Elems W1 W1.heap.size (some ⟨w.heap.size, 0, none⟩) 7 Ev.cells upL := (Elems.block Ev.seven (xs := upL) hb1 rfl (by decide)).more (by omega)
  have hT : Elems W1 W1.heap.size (some ⟨w.heap.size, 7, none⟩) 7 Ev.cells upT := elems_drop hE 1
  have HE := Lib.hid (fun (w' : World) (hk : Kept (fun _ => False) W1 w') => (hE.kept hk (Nat.le_refl _) (fun _ _ f => f)).more hk.size)
  have HT := Lib.hid (fun (w' : World) (hk : Kept (fun _ => False) W1 w') => (hT.kept hk (Nat.le_refl _) (fun _ _ f => f)).more hk.size)
  have HH := Lib.hid (fun (w' : World) (hk : Kept (fun _ => False) W1 w') => hH.on0 (hk1.trans hk (fun _ _ f => f)))
  have HK1 := Lib.hid hk1
  have HW1 := Lib.hid hW1
  have h64 : ∀ L : List Ev, (L = upL ∨ L = upT) → ∀ ev ∈ L, Ev64 ev := by
    intro L hL ev hev
    have : ev ∈ upL := by
      rcases hL with rfl | rfl
      · exact hev
      · exact List.mem_cons_of_mem _ hev
    simp only [upL, List.mem_cons, List.not_mem_nil, or_false] at this
    rcases this with rfl | rfl | rfl <;> exact ⟨by decide, by decide, by decide⟩
  have H64 := Lib.hid h64
  clear hH hk1 hb1 hs1 hE hT hW1 h64
  go_enter Tryz.func9, Tryz.ntmps9
  go_wp2_with fail
  have e0 : w.alloc (.cells #[.int .i64 1, .int .i64 0, .int .i64 0, .int .i64 0, .int .i64 0, .int .i64 0, .int .i64 0, .int .i64 2, .int .i64 0, .int .i64 0, .int .i64 1, .int .i64 1, .int .i64 0, .int .i64 0, .int .i64 3, .int .i64 0, .int .i64 0, .int .i64 0, .int .i64 0, .int .i64 0, .int .i64 0] 38) = W1 := HW1.out
  rw [e0]
  clear e0 HW1
  refine (plain_any _).mono ?_
  rintro e w2 ⟨rfl, hl2, hs2, hk2⟩
  have HR := Lib.hid (run_any (plainSc W1.heap.size) upL (some ⟨w.heap.size, 0, none⟩) 3 w2 (hl2.more hs2) (HE.out w2 hk2) (H64.out _ (.inl rfl)) (by decide) rfl rfl)
  have HK2 := Lib.hid hk2
  clear hl2 hs2 hk2
  go_wp2_with fail
  refine HR.out.mono ?_
  rintro e w3 ⟨hk3, hR⟩
  obtain ⟨σ, x, hg, hx, ho, hh⟩ := up_go W1.heap.size
  rw [hg] at hR
  rcases hR with ⟨k, h0, _⟩ | ⟨σ', h0, g, c, tts, rfl, hT, _⟩
  · cases h0
  simp only [Sum.inr.injEq] at h0
  subst h0
  have hsm := hT.same
  rw [hx] at hsm
  obtain ⟨t, rfl, htx⟩ : ∃ t, tts = [t] ∧ t.x = x := by
    match tts, hsm with
    | [t], h => exact ⟨t, rfl, by simpa using h⟩
  obtain ⟨g', c', hv, _, hrow⟩ := hT.own
  simp only [Value.slice.injEq, Option.some.injEq, Addr.mk.injEq, and_true, true_and] at hv
  obtain ⟨rfl, rfl⟩ := hv
  have HC : Hid (∀ w', Kept (fun _ => False) w3 w' → w'.cell? ⟨g, 2, none⟩ = some (.int .i64 0) ∧ w'.cell? ⟨g, 3, none⟩ = some (.int .i64 1)) := Lib.hid (fun w' hk => by
    have r := hrow.kept hk (fun f => f)
    have a := r.cell (i := 0) (j := 2) Tt.fifteen rfl rfl
    have b := r.cell (i := 0) (j := 3) Tt.fifteen rfl rfl
    rw [htx, ho] at a
    rw [htx, hh] at b
    exact ⟨a, b⟩)
  have HK3 := Lib.hid (HK2.out.trans hk3 (fun _ _ f => f))
  clear hk3 hT hsm hrow hx ho hh htx hg
  go_wp2_with fail
  go_region_with (first
    | (go_at_call 15; refine (plain_any _).mono ?_; rintro e w4 ⟨rfl, hl4, hs4, hk4'⟩; have hk4 : Kept (fun _ => False) w3 w4 := (by first | exact hk4' | exact (Kept.refl _ w3).drew.trans hk4' (fun _ _ f => f)); have HR2 := Lib.hid (run_upT _ w.heap.size w4 (hl4.more hs4) (HT.out w4 (HK3.out.trans hk4 (fun _ _ f => f))) (H64.out _ (.inr rfl))); have HK4 := Lib.hid hk4; clear hl4 hs4 hk4 hk4')
    | (go_at_call 11; refine HR2.out.mono ?_; rintro e w5 ⟨g2, rfl, hsp, hk5⟩; have HSP := Lib.hid hsp; have HK5 := Lib.hid hk5; clear hsp hk5))
  obtain ⟨c2, c3⟩ := HC.out w5 (HK4.out.trans HK5.out (fun _ _ f => f))
  have HI := Lib.hid (Er.lawIs_any HSP.out (HH.out w5 (HK3.out.trans (HK4.out.trans HK5.out (fun _ _ f => f)) (fun _ _ f => f))))
  have HF := Lib.hid (HK1.out.trans (HK3.out.trans (HK4.out.trans HK5.out (fun _ _ f => f)) (fun _ _ f => f)) (fun _ _ f => f))
  clear HC HK1 HK2 HK3 HK4 HK5 HSP HE HT HH HR HR2
  go_wp2_with fail
  refine HI.out.mono ?_
  rintro e w6 ⟨rfl, hk6⟩
  have HF2 := Lib.hid (HF.out.trans hk6 (fun _ _ f => f))
  clear hk6 HF
  go_wp2_with fail
  go_ret
  exact ⟨rfl, HF2.out⟩

end Go.Proofs.YtbodlaiakcoabaaGreatDoor
end
