/-
  slices.Delete at waiters: the first one of a row is struck.
  Conditions: the row is the call's own, not empty, of 200 at most.
-/
import Derived.Test.YthjblniabnjfhaaModOwn
import Derived.RegionTactic
import Derived.Deep.RegionLaw
namespace Go.Proofs.Ythjblniabnjfhaa
open Go.RowKit
set_option linter.unusedSimpArgs false

theorem Kept.setCells {S : Nat → Prop} {a : World} {g : Nat} (hg : S g) : ∀ (vs : List Value) (o : Nat) {b : World}, Kept S a b → Kept S a (b.setCells g o vs)
  | [], _, _, h => h
  | v :: r, o, _, h => Kept.setCells hg r (o + 1) (h.setCell ⟨g, o, none⟩ v (fun _ => hg))
theorem zero_wt (w : World) : (zeroValue 44).run Try.prog w = .ok (.agg #[.int .i64 0, .int .i64 0]) w := by kernel_rfl
/-- Nobody. -/
def zwt : Wt := ⟨0, 0⟩
theorem zero_cells (k : Nat) : (Builtin.zeroCells #[.int .i64 0, .int .i64 0] k).toList = flat Wt.cells (List.replicate k zwt) := by
  apply List.ext_getElem?
  intro j
  have hl := flat_len Wt.two (List.replicate k zwt)
  rw [List.length_replicate] at hl
  by_cases hj : j < k * 2
  · have h1 : (List.replicate k zwt)[j / 2]? = some zwt := by rw [List.getElem?_replicate]; rw [if_pos (by omega)]
    have h2 := flat_at Wt.two (List.replicate k zwt) (j / 2) (j % 2) zwt h1 (by omega)
    rw [show j / 2 * 2 + j % 2 = j from by omega] at h2
    rw [h2]
    have h3 : j % 2 < 2 := by omega
    simp only [Builtin.zeroCells]
    simp [hj]
    generalize j % 2 = i at *
    match i, h3 with
    | 0, _ => rfl
    | 1, _ => rfl
  · rw [List.getElem?_eq_none (by simp [Builtin.zeroCells]; omega), List.getElem?_eq_none (by omega)]
/-- clear of k waiters. -/
theorem run_clear_wt (w : World) (ty : TypeId) (g o k c : Nat) (hk : 0 < k) (hc : ∀ j, j < k * 2 → (w.cell? ⟨g, o + j, none⟩).isSome = true) (hf : ∀ j, w.frozen? ⟨g, j, none⟩ = false) :
    (Builtin.clear_ #[25] ty #[.slice (some ⟨g, o, none⟩) k c]).run Try.prog w = .ok (.tuple #[]) (w.setCells g o (flat Wt.cells (List.replicate k zwt))) := by
  have hl := flat_len Wt.two (List.replicate k zwt)
  rw [List.length_replicate] at hl
  have hst := run_storeCells_cells (P := Try.prog) g o (flat Wt.cells (List.replicate k zwt)) 0 w (by intro j hj; exact hc j (by omega)) (by intro j hj; exact hf _) (wt_cell _)
  simp only [Nat.add_zero] at hst
  obtain ⟨m, rfl⟩ : ∃ m, k = m + 1 := ⟨k - 1, by omega⟩
  have hz := zero_cells (m + 1)
  have hzv := zero_wt w
  simp [Builtin.clear_, run_underlying Try.underlying25, hzv, Value.cells, hz, hst]

section
variable {W : Nat} {w w' : World} {g c : Nat} {ws : List Wt}
theorem Row.cellF (h : Row w g c 44 2 Wt.cells ws) {j : Nat} (hj : j < ws.length * 2) : w.cell? ⟨g, j, none⟩ = (flat Wt.cells ws)[j]? := World.ownsRow.cellAt h j hj
end

set_option maxHeartbeats 2000000 in
theorem delete_any (q : Wt) (l : List Wt) (m : Nat) (hm : l.length = m) (hl : m ≤ 200) (g c : Nat) (w : World) (hc : m + 1 ≤ c) (hR : Row w g c 44 2 Wt.cells (q :: l)) :
    Calls Try.prog 49 #[.slice (some ⟨g, 0, none⟩) ((m + 1 : Nat)) c, .int .i64 0, .int .i64 1] w fun e w' => e = .returned (.slice (some ⟨g, 0, none⟩) m c) ∧ Elems w' w'.heap.size (some ⟨g, 0, none⟩) 2 Wt.cells l ∧ (∀ o, w'.frozen? ⟨g, o, none⟩ = false) ∧ Kept (fun k => k = g) w w' := by
  obtain ⟨i0, hi, hz0, hz1, hz2⟩ := info_parts info_wt
  have hfl := flat_len Wt.two l
  have hlt := hR.lt
  have hlen : (q :: l).length = m + 1 := by simp [hm]
  have hcell : ∀ j, j < (m + 1) * 2 → w.cell? ⟨g, j, none⟩ = (flat Wt.cells (q :: l))[j]? := fun j hj => hR.cellF (by rw [hlen]; exact hj)
  have hlen2 := flat_len Wt.two (q :: l)
  have hsome : ∀ j, j < (m + 1) * 2 → (w.cell? ⟨g, j, none⟩).isSome = true := fun j hj => by
    rw [hcell j hj, List.getElem?_eq_getElem (by rw [hlen2, hlen]; exact hj)]; rfl
  have hfree : ∀ o, w.frozen? ⟨g, o, none⟩ = false := fun o => hR.free o
  have hsrc : ∀ j u, (flat Wt.cells l)[j]? = some u → w.cell? ⟨g, 2 + j, none⟩ = some u := fun j u hu => by
    have hj : j < m * 2 := by have := (List.getElem?_eq_some_iff.1 hu).1; rw [hfl, hm] at this; exact this
    rw [hcell (2 + j) (by omega), ← hu]
    show (flat Wt.cells ([q] ++ l))[2 + j]? = _
    rw [show flat Wt.cells ([q] ++ l) = Wt.cells q ++ flat Wt.cells l from by simp [flat]]
    rw [List.getElem?_append_right (by rw [Wt.two]; omega), Wt.two]
    congr 1
    omega
  obtain ⟨A, hA, HS⟩ : ∃ A : Addr, (if c = 1 then some (⟨g, 0, none⟩ : Addr) else some ⟨g, 2, none⟩) = some A ∧ Hid (∀ j u, (flat Wt.cells l)[j]? = some u → w.drew.cell? (A.add j) = some u) := by
    by_cases h : c = 1
    · refine ⟨⟨g, 0, none⟩, by simp [h], fun j u hu => ?_⟩
      have h0 : l = [] := List.eq_nil_of_length_eq_zero (by omega)
      subst h0
      simp [flat] at hu
    · refine ⟨⟨g, 2, none⟩, by simp [h], fun j u hu => ?_⟩
      rw [Addr.add_lit]
      exact hsrc j u hu
  obtain ⟨W1, hW1⟩ : ∃ W1, w.drew.setCells g 0 (flat Wt.cells l) = W1 := ⟨_, rfl⟩
  have hk1 : Kept (fun k => k = g) w W1 := by rw [← hW1]; exact Kept.setCells (S := fun k => k = g) rfl _ _ (Kept.drew (Kept.refl _ w))
  have hf1 : ∀ o, W1.frozen? ⟨g, o, none⟩ = false := fun o => by rw [← hW1, World.frozen?_setCells]; exact hfree o
  have hin : ∀ j, j < (flat Wt.cells l).length → (w.drew.cell? ⟨g, 0 + j, none⟩).isSome = true := fun j hj => by
    rw [Nat.zero_add]; exact hsome j (by rw [hfl, hm] at hj; omega)
  have hc1 : ∀ j u, (flat Wt.cells l)[j]? = some u → W1.cell? ⟨g, j, none⟩ = some u := fun j u hu => by
    obtain ⟨hj, he⟩ := List.getElem?_eq_some_iff.1 hu
    have h := World.cell?_setCells_in g (flat Wt.cells l) 0 w.drew hin j hj
    rw [Nat.zero_add, hW1, he] at h
    exact h
  have hend : ∀ j, j < 1 * 2 → (W1.cell? ⟨g, m * 2 + j, none⟩).isSome = true := fun j hj => by
    rw [← hW1, World.cell?_setCells_out g _ 0 _ _ (fun _ _ => .inr (by show 0 + _ ≤ m * 2 + j; rw [hfl, hm]; omega))]
    exact hsome _ (by omega)
  have hcl : ∀ ty, (Builtin.clear_ #[25] ty #[.slice (some ⟨g, m * 2, none⟩) 1 (c - m)]).run Try.prog W1 = .ok (.tuple #[]) (W1.setCells g (m * 2) (flat Wt.cells (List.replicate 1 zwt))) :=
    fun ty => run_clear_wt W1 ty g (m * 2) 1 (c - m) (by omega) hend hf1
  have hfin : Elems (W1.setCells g (m * 2) (flat Wt.cells (List.replicate 1 zwt))) (W1.setCells g (m * 2) (flat Wt.cells (List.replicate 1 zwt))).heap.size (some ⟨g, 0, none⟩) 2 Wt.cells l ∧ (∀ o, (W1.setCells g (m * 2) (flat Wt.cells (List.replicate 1 zwt))).frozen? ⟨g, o, none⟩ = false) ∧ Kept (fun k => k = g) w (W1.setCells g (m * 2) (flat Wt.cells (List.replicate 1 zwt))) := by
    have hk2 : Kept (fun k => k = g) w (W1.setCells g (m * 2) (flat Wt.cells (List.replicate 1 zwt))) := Kept.setCells (S := fun k => k = g) rfl _ _ hk1
    refine ⟨⟨by unfold maxLen; omega, fun i x hi => ⟨g, 0, rfl, by have := hk2.size; omega, fun j v hj => ?_⟩⟩, fun o => by rw [World.frozen?_setCells]; exact hf1 o, hk2⟩
    have hj2 : j < 2 := by have := (List.getElem?_eq_some_iff.1 hj).1; rw [Wt.two] at this; exact this
    have hil : i < m := by have := (List.getElem?_eq_some_iff.1 hi).1; omega
    rw [World.cell?_setCells_out g _ _ _ _ (fun _ _ => .inl (by show 0 + i * 2 + j < m * 2; omega)), Nat.zero_add]
    refine hc1 (i * 2 + j) v ?_
    rw [flat_at Wt.two l i j x hi hj2, hj]
  have HF := Lib.hid hfin
  have s1 : Hid ((flat Wt.cells l).length = m * 2) := Lib.hid (by rw [hfl, hm])
  have s3 : Hid (∀ j, j < (flat Wt.cells l).length → (w.drew.cell? ⟨g, 0 + 0 * 2 + j, none⟩).isSome = true ∧ w.drew.frozen? ⟨g, 0 + 0 * 2 + j, none⟩ = false) := Lib.hid (fun j hj => ⟨by have := hin j hj; simpa using this, by simpa using hfree j⟩)
  have HI := Lib.hid hi
  have HZ1 := Lib.hid hz1
  have hW : Hid (W1 = w.drew.setCells g 0 (flat Wt.cells l)) := Lib.hid hW1.symm
  have m1 : ¬ c = m := by omega
  have m2 : m ≤ c := by omega
  have m3 : 1 ≤ c := by omega
  have m4 : (1 : Int) ≤ (m : Int) + 1 := by omega
  have m5 : (m : Int) ≤ (m : Int) + 1 := by omega
  clear hi hz0 hz1 hz2 hfl hlt hlen hcell hlen2 hsome hfree hsrc hk1 hf1 hin hc1 hend hfin hR hW1 hm
  go_enter Try.func49, Try.ntmps49
  go_wp2_with fail
  go_region_law (refine step_append_room rfl (.tmp 22) (.tmp 25) 25 rfl 44 i0 2 Try.underlying25 HI.out HZ1.out g 0 0 c (by simp [Act.eval, Act.put]) A m (c - 1) (flat Wt.cells l) (by simp [Act.eval, Act.put]) s1.out HS.out (wt_cell l) (by omega) s3.out ?_; rw [← hW.out])
  go_wp2_with fail
  go_ret
  exact ⟨rfl, HF.out⟩

end Go.Proofs.Ythjblniabnjfhaa
