/-
  What the program's fetch comes to.
  Conditions: the step's row of frames has 1 to 16 of them; the code's numbers are of 64 bits.
-/
import Derived.Test.YtdkableaooaebaaDoorMicDo
namespace Go.Proofs.YtdkableaooaebaaDoor
open Go.RowKit

def Ix.zero : Ix := ⟨0, 0, 0, 0, 0⟩
/-- What fetch leaves. -/
def FetchTo (w : World) (o : Option Ix) (e : Ending) (w' : World) : Prop := e = .returned (.tuple #[(o.getD Ix.zero).agg, .bool o.isSome]) ∧ Kept (fun _ => False) w w'

@[reducible] def set5 (w : World) (g : Nat) (x0 x1 x2 x3 x4 : Value) : World := ((((w.setCell ⟨g, 0, none⟩ x0).setCell ⟨g, 1, none⟩ x1).setCell ⟨g, 2, none⟩ x2).setCell ⟨g, 3, none⟩ x3).setCell ⟨g, 4, none⟩ x4
theorem set5_at {w : World} {g : Nat} {t : TypeId} {y0 y1 y2 y3 y4 x0 x1 x2 x3 x4 : Value} (h : w.heap[g]? = some (.cells #[y0, y1, y2, y3, y4] t (0, 0))) : (set5 w g x0 x1 x2 x3 x4).heap[g]? = some (.cells #[x0, x1, x2, x3, x4] t (0, 0)) := by
  unfold set5
  have h0 : (w.setCell ⟨g, 0, none⟩ x0).heap[g]? = some (.cells #[x0, y1, y2, y3, y4] t (0, 0)) := set_cellB h
  have h1 : ((w.setCell ⟨g, 0, none⟩ x0).setCell ⟨g, 1, none⟩ x1).heap[g]? = some (.cells #[x0, x1, y2, y3, y4] t (0, 0)) := set_cellB h0
  have h2 : (((w.setCell ⟨g, 0, none⟩ x0).setCell ⟨g, 1, none⟩ x1).setCell ⟨g, 2, none⟩ x2).heap[g]? = some (.cells #[x0, x1, x2, y3, y4] t (0, 0)) := set_cellB h1
  have h3 : ((((w.setCell ⟨g, 0, none⟩ x0).setCell ⟨g, 1, none⟩ x1).setCell ⟨g, 2, none⟩ x2).setCell ⟨g, 3, none⟩ x3).heap[g]? = some (.cells #[x0, x1, x2, x3, y4] t (0, 0)) := set_cellB h2
  exact set_cellB h3
theorem set5_kept {W w : World} {g : Nat} (hg : W.heap.size ≤ g) (h : Kept (fun _ => False) W w) (x0 x1 x2 x3 x4 : Value) : Kept (fun _ => False) W (set5 w g x0 x1 x2 x3 x4) := by
  have q : ∀ (p : Addr), p.block = g → p.block < W.heap.size → False := fun p e hl => by omega
  exact ((((h.setCell _ _ (q _ rfl)).setCell _ _ (q _ rfl)).setCell _ _ (q _ rfl)).setCell _ _ (q _ rfl)).setCell _ _ (q _ rfl)

section
variable {L : Sp} {col : Nat → Nat} {k : Kp} {d : Nat} {s : Ms} {w : World}
theorem fetch_not (h : On L col k d s w) (hF : Fine L d s) (hp : s.f.pc < 0 ∨ (L.code.length : Int) ≤ s.f.pc) :
    Calls Tryd.prog 29 #[.pointer (some ⟨L.sb, 0, none⟩)] w (FetchTo w none) := by
  have h2 := h.alloc (.cells #[.int .i64 0, .int .i64 0, .int .i64 0, .int .i64 0, .int .i64 0] 46)
  have HK := Lib.hid ((Kept.refl (fun _ => False) w).alloc (.cells #[.int .i64 0, .int .i64 0, .int .i64 0, .int .i64 0, .int .i64 0] 46))
  have HB := Lib.hid (heap_new1 w (.cells #[.int .i64 0, .int .i64 0, .int .i64 0, .int .i64 0, .int .i64 0] 46))
  have HLA := Lib.hid (last_any h2 hF.bs)
  have HH := Lib.hid h2
  have HW : Hid (∀ w', Kept (fun _ => False) w w' → FetchTo w none (.returned (.tuple #[.agg #[.int .i64 0, .int .i64 0, .int .i64 0, .int .i64 0, .int .i64 0], .bool false])) w') := Lib.hid (fun w' hk => ⟨rfl, hk⟩)
  have hml := h.cd.1
  unfold maxLen at hml
  clear h2 h hF
  go_enter Tryd.func29, Tryd.ntmps29
  go_wp2_with fail
  refine (HLA.out).mono ?_
  rintro e w1 ⟨rfl, hk1⟩
  have H1 := Lib.hid (HH.out.kept0 hk1)
  have HB1 := Lib.hid (hk1.at0 HB.out)
  have HK1 := Lib.hid (HK.out.trans hk1 (fun _ _ f => f))
  clear hk1 HLA HH HK HB
  have y0 := H1.out.pcAt
  have c0 := H1.out.cells.1.1
  obtain ⟨b0, b1, b2, b3, b4, _⟩ := cells5 HB1.out
  have fr := frozen_at w1 _ 0 _ _ HB1.out
  have fr1 := frozen_at w1 _ 1 _ _ HB1.out
  have fr2 := frozen_at w1 _ 2 _ _ HB1.out
  have fr3 := frozen_at w1 _ 3 _ _ HB1.out
  have fr4 := frozen_at w1 _ 4 _ _ HB1.out
  by_cases hlt : s.f.pc < 0
  · clear hp
    go_wp2_with fail
    generalize hW5 : World.setCell _ ⟨w.heap.size, 4, none⟩ _ = W5
    have q5 : W5.heap[w.heap.size]? = some (.cells #[.int .i64 0, .int .i64 0, .int .i64 0, .int .i64 0, .int .i64 0] 46 (0, 0)) := by rw [← hW5]; exact set5_at HB1.out
    have hk5 : Kept (fun _ => False) w W5 := by rw [← hW5]; exact set5_kept (Nat.le_refl _) HK1.out _ _ _ _ _
    clear hW5
    obtain ⟨g0, g1, g2, g3, g4, _⟩ := cells5 q5
    exact bodyPost_ret (v := .tuple #[.agg #[.int .i64 0, .int .i64 0, .int .i64 0, .int .i64 0, .int .i64 0], .bool false]) (by simp [results, Tryd.results29, go_sem, g0, g1, g2, g3, g4]) rfl (HW.out _ hk5)
  · have hge : (L.code.length : Int) ≤ s.f.pc := by omega
    clear hp
    go_wp2_with fail
    generalize hW5 : World.setCell _ ⟨w.heap.size, 4, none⟩ _ = W5
    have q5 : W5.heap[w.heap.size]? = some (.cells #[.int .i64 0, .int .i64 0, .int .i64 0, .int .i64 0, .int .i64 0] 46 (0, 0)) := by rw [← hW5]; exact set5_at HB1.out
    have hk5 : Kept (fun _ => False) w W5 := by rw [← hW5]; exact set5_kept (Nat.le_refl _) HK1.out _ _ _ _ _
    clear hW5
    obtain ⟨g0, g1, g2, g3, g4, _⟩ := cells5 q5
    exact bodyPost_ret (v := .tuple #[.agg #[.int .i64 0, .int .i64 0, .int .i64 0, .int .i64 0, .int .i64 0], .bool false]) (by simp [results, Tryd.results29, go_sem, g0, g1, g2, g3, g4]) rfl (HW.out _ hk5)

theorem code_cells {so : Option Addr} {code : List Ix} {col : Nat → Nat} {i : Nat} {x : Ix} {w : World} (h : CodeAt so code col w) (hx : code[i]? = some x) : ∃ g off, so = some ⟨g, off, none⟩ ∧ g < w.heap.size ∧ col g = 0 ∧
    w.cell? ⟨g, off + i * 5, none⟩ = some (.int .i64 x.op) ∧ w.cell? ⟨g, off + i * 5 + 1, none⟩ = some (.int .i64 x.a) ∧ w.cell? ⟨g, off + i * 5 + 2, none⟩ = some (.int .i64 x.b) ∧ w.cell? ⟨g, off + i * 5 + 3, none⟩ = some (.int .i64 x.c) ∧ w.cell? ⟨g, off + i * 5 + 4, none⟩ = some (.int .i64 x.n) := by
  obtain ⟨g, off, e, hg, hc, hj⟩ := h.2 i x hx
  exact ⟨g, off, e, hg, hc, hj 0 _ rfl, hj 1 _ rfl, hj 2 _ rfl, hj 3 _ rfl, hj 4 _ rfl⟩

theorem On.code_low (h : On L col k d s w) : ∀ g off, L.so = some ⟨g, off, none⟩ → (∃ (i : Nat) (x : Ix), L.code[i]? = some x) → g < w.heap.size := by
  rintro g off e ⟨i, x, hx⟩
  obtain ⟨g', off', e', hg, _⟩ := h.cd.2 i x hx
  rw [e] at e'
  simp only [Option.some.injEq, Addr.mk.injEq, and_true] at e'
  omega

set_option maxHeartbeats 1000000 in
theorem fetch_at (h : On L col k d s w) (hF : Fine L d s) {i : Nat} (hi : s.f.pc = i) {x : Ix} (hx : L.code[i]? = some x) (hxw : x.wide) {o : Option Ix} (ho : (if x.may then some x else none) = o) :
    Calls Tryd.prog 29 #[.pointer (some ⟨L.sb, 0, none⟩)] w (FetchTo w o) := by
  have h2 := h.alloc (.cells #[.int .i64 0, .int .i64 0, .int .i64 0, .int .i64 0, .int .i64 0] 46)
  have HK := Lib.hid ((Kept.refl (fun _ => False) w).alloc (.cells #[.int .i64 0, .int .i64 0, .int .i64 0, .int .i64 0, .int .i64 0] 46))
  have HB := Lib.hid (heap_new1 w (.cells #[.int .i64 0, .int .i64 0, .int .i64 0, .int .i64 0, .int .i64 0] 46))
  have HLA := Lib.hid (last_any h2 hF.bs)
  have HH := Lib.hid h2
  have hml := h.cd.1
  have hcl := hF.code
  have hil : i < L.code.length := (List.getElem?_eq_some_iff.1 hx).1
  have HH0 := Lib.hid h.code_low
  have HO := Lib.hid ho; clear ho
  have HX := Lib.hid hx
  have HWI := Lib.hid hxw
  unfold maxLen at hml
  clear h2 h hF hx hxw
  go_enter Tryd.func29, Tryd.ntmps29
  go_wp2_with fail
  refine (HLA.out).mono ?_
  rintro e w1 ⟨rfl, hk1⟩
  have H1 := Lib.hid (HH.out.kept0 hk1)
  have HB1 := Lib.hid (hk1.at0 HB.out)
  have HK1 := Lib.hid (HK.out.trans hk1 (fun _ _ f => f))
  clear hk1 HLA HH HK HB
  have y0 := H1.out.pcAt
  rw [hi] at y0
  have c0 := H1.out.cells.1.1
  obtain ⟨g, off, hso, hgl, hgc, x0, x1, x2, x3, x4⟩ := code_cells H1.out.cd HX.out
  rw [hso] at c0
  have n1 : ¬ ((i : Int) < 0) := by omega
  have n2 : ¬ ((L.code.length : Int) ≤ (i : Int)) := by omega
  have n3 : (i : Int) < (L.code.length : Int) := by omega
  have HM := Lib.hid (may_any x.op x.a x.b x.c x.n w1 H1.out.ld HWI.out.1 HWI.out.2)
  obtain ⟨v, hv⟩ : ∃ v, x.may = v := ⟨_, rfl⟩
  have hv' : mayP x.op x.a x.b x.c x.n = v := hv
  rw [hv'] at HM
  have HV := Lib.hid hv; clear hv hv' hi
  go_wp2_with fail
  refine HM.out.mono ?_
  rintro e w2 ⟨rfl, hk2⟩
  have hlt1 : w.heap.size < w1.heap.size := (Array.getElem?_eq_some_iff.1 HB1.out).1
  have HK2 := Lib.hid (HK1.out.trans hk2 (fun _ _ f => f))
  have HB2 := Lib.hid (hk2.at0 HB1.out)
  have H2 := Lib.hid (H1.out.kept0 hk2)
  clear hk2 HM x0 x1 x2 x3 x4 c0 y0
  have c0 := H2.out.cells.1.1
  rw [hso] at c0
  obtain ⟨g', off', hso', _, _, x0, x1, x2, x3, x4⟩ := code_cells H2.out.cd HX.out
  rw [hso] at hso'
  simp only [Option.some.injEq, Addr.mk.injEq, and_true] at hso'
  obtain ⟨rfl, rfl⟩ := hso'
  obtain ⟨b0, b1, b2, b3, b4, _⟩ := cells5 HB2.out
  have fr := frozen_at w2 _ 0 _ _ HB2.out
  have fr1 := frozen_at w2 _ 1 _ _ HB2.out
  have fr2 := frozen_at w2 _ 2 _ _ HB2.out
  have fr3 := frozen_at w2 _ 3 _ _ HB2.out
  have fr4 := frozen_at w2 _ 4 _ _ HB2.out
  cases v
  · have HW : Hid (∀ w', Kept (fun _ => False) w w' → FetchTo w o (.returned (.tuple #[.agg #[.int .i64 0, .int .i64 0, .int .i64 0, .int .i64 0, .int .i64 0], .bool false])) w') := Lib.hid (fun w' hk => by rw [← HO.out, HV.out]; exact ⟨rfl, hk⟩)
    go_wp2_with fail
    generalize hW5 : World.setCell _ ⟨w.heap.size, 4, none⟩ _ = W5
    have q5 : W5.heap[w.heap.size]? = some (.cells #[.int .i64 0, .int .i64 0, .int .i64 0, .int .i64 0, .int .i64 0] 46 (0, 0)) := by rw [← hW5]; exact set5_at HB2.out
    have hk5 : Kept (fun _ => False) w W5 := by rw [← hW5]; exact set5_kept (Nat.le_refl _) HK2.out _ _ _ _ _
    clear hW5
    obtain ⟨g0, g1, g2, g3, g4, _⟩ := cells5 q5
    exact bodyPost_ret (v := .tuple #[.agg #[.int .i64 0, .int .i64 0, .int .i64 0, .int .i64 0, .int .i64 0], .bool false]) (by simp [results, Tryd.results29, go_sem, g0, g1, g2, g3, g4]) rfl (HW.out _ hk5)
  · have HW : Hid (∀ w', Kept (fun _ => False) w w' → FetchTo w o (.returned (.tuple #[x.agg, .bool true])) w') := Lib.hid (fun w' hk => by rw [← HO.out, HV.out]; exact ⟨rfl, hk⟩)
    have hne : ¬ (g = w.heap.size) := by have := HH0.out _ _ hso ⟨_, _, HX.out⟩; omega
    have hne' : ¬ (w.heap.size = g) := fun e => hne e.symm
    go_wp2_with fail
    generalize hW5 : World.setCell _ ⟨w.heap.size, 4, none⟩ _ = W5
    have q5 : W5.heap[w.heap.size]? = some (.cells #[.int .i64 x.op, .int .i64 x.a, .int .i64 x.b, .int .i64 x.c, .int .i64 x.n] 46 (0, 0)) := by rw [← hW5]; exact set5_at HB2.out
    have hk5 : Kept (fun _ => False) w W5 := by rw [← hW5]; exact set5_kept (Nat.le_refl _) HK2.out _ _ _ _ _
    clear hW5
    obtain ⟨g0, g1, g2, g3, g4, _⟩ := cells5 q5
    exact bodyPost_ret (v := .tuple #[.agg #[.int .i64 x.op, .int .i64 x.a, .int .i64 x.b, .int .i64 x.c, .int .i64 x.n], .bool true]) (by simp [results, Tryd.results29, go_sem, g0, g1, g2, g3, g4]) rfl (HW.out _ hk5)

theorem fetch_any (h : On L col k d s w) (hF : Fine L d s) (hcw : ∀ x ∈ L.code, x.wide) : Calls Tryd.prog 29 #[.pointer (some ⟨L.sb, 0, none⟩)] w (FetchTo w (fetchM L.code s.f.pc)) := by
  by_cases hp : s.f.pc < 0 ∨ (L.code.length : Int) ≤ s.f.pc
  · have e : fetchM L.code s.f.pc = none := by
      unfold fetchM
      split
      · rw [List.getElem?_eq_none (by omega)]; rfl
      · rfl
    rw [e]
    exact fetch_not h hF hp
  · obtain ⟨i, hi⟩ : ∃ i : Nat, s.f.pc = i := ⟨s.f.pc.toNat, by omega⟩
    obtain ⟨x, hx⟩ : ∃ x, L.code[i]? = some x := ⟨_, List.getElem?_eq_getElem (by omega)⟩
    refine fetch_at h hF hi hx (hcw x (List.mem_of_getElem? hx)) ?_
    have e : fetchM L.code s.f.pc = (some x).filter Ix.may := by unfold fetchM; rw [hi, if_pos (by omega), Int.toNat_natCast, hx]
    rw [e, Option.filter_some]
/-- What is fetched may be, and stands in the code. -/
theorem fetch_some {code : List Ix} {p : Int} {x : Ix} (h : fetchM code p = some x) : x.may = true ∧ 0 ≤ p ∧ p < code.length := by
  unfold fetchM at h
  split at h
  · obtain ⟨h1, h2⟩ := Option.filter_eq_some_iff.1 h
    have := (List.getElem?_eq_some_iff.1 h1).1
    exact ⟨h2, by omega, by omega⟩
  · cases h
end

end Go.Proofs.YtdkableaooaebaaDoor
