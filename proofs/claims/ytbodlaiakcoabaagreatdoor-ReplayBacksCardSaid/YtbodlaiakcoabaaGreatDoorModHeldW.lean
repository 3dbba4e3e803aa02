/-
  What package model's take, free, countDoes and swapDoes leave.
  Conditions: the thing lies in a block; no sum goes round.
  slices.Delete at waiters: the first one of a row is struck.
  Conditions: the row is the call's own, not empty, of 200 at most.
  Who waits: slices.IndexFunc and ContainsFunc at waiters, with the program's two closures; package model's isWaiting.
  Conditions: the waiters lie in memory.
  slices.DeleteFunc at waiters: one thread's are struck.
  Conditions: the row is the call's own, of 200 at most; the thread is among them.
  What package model's heldDoes leaves, a mark at a time.
  Conditions: the thing lies in a block, its waiters in a row of the call's own; no sum goes round.
  What package model's heldDoes leaves at the marks of waiters: one waits, one is told, one gives up.
  Conditions: the thing lies in a block, its waiters in a row of the call's own, 200 at most.
-/
import Derived.Test.YtbodlaiakcoabaaGreatDoorModOwn
import Derived.RegionTactic
import Derived.Deep.RegionHeld3
import Derived.StillTailTactics
import Derived.Deep.RegionLaw
import Derived.Test.YtbodlaiakcoabaaGreatDoorModMem
import Derived.LoopTactic
import Derived.Deep.QuietTactic
import Derived.BigQuiet
import Derived.Outline
import Derived.Deep.RegionWith
section
set_option maxRecDepth 100000
namespace Go.Proofs.YtbodlaiakcoabaaGreatDoor
open Go.RowKit
set_option linter.unusedSimpArgs false

/-- A thing's block was turned, and nothing else but new ones. -/
def Turn (w : World) (b : Nat) (x : Th) (s : Option Addr) (c : Nat) (e : Ending) (w' : World) : Prop := e = .returned (.tuple #[]) ∧ BoxT w' b x s c ∧ Kept (fun k => k = b) w w'

theorem Kept.sB {b : Nat} {a w : World} (h : Kept (fun k => k = b) a w) (j : Nat) (v : Value) : Kept (fun k => k = b) a (w.setCell ⟨b, j, none⟩ v) := h.setCell _ _ (fun _ => rfl)
theorem Kept.one (b : Nat) (w : World) : Kept (fun k => k = b) w w := Kept.refl _ w

section
variable {w : World} {b c : Nat} {x : Th} {s : Option Addr}

theorem take_any (h : BoxT w b x s c) (t v : Int) (h0 : -2000000 ≤ x.holds) (h1 : x.holds ≤ 2000000) :
    Calls Tryz.prog 101 #[.pointer (some ⟨b, 0, none⟩), .int .i64 t, .int .i64 v] w (Turn w b (takeM x t v) s c) := by
  obtain ⟨c0, c1, c2, c3, _, _, _, _, _, _, _, _, _, _, _⟩ := h.cells
  have f2 := h.free 2
  have f3 := h.free 3
  have HA := Lib.hid ((h.setOwner t).setHolds v)
  have HB := Lib.hid ((h.setOwner t).setHolds (x.holds + 1))
  have HK : Hid (∀ v, Kept (fun k => k = b) w ((w.setCell ⟨b, 2, none⟩ (.int .i64 t)).setCell ⟨b, 3, none⟩ v)) := Lib.hid (fun v => ((Kept.one b w).sB _ _).sB _ _)
  have b0 : -2000000 ≤ x.holds + 1 := by omega
  have b1 : x.holds + 1 ≤ 2000001 := by omega
  clear h h0 h1
  cases k1 : (x.kind == 1) with
  | false =>
    have HT : Hid (takeM x t v = { x with owner := t, holds := x.holds + 1 }) := Lib.hid (by unfold takeM; simp only [k1, Bool.false_and, Bool.false_eq_true, if_false])
    go_enter Tryz.func101, Tryz.ntmps101
    go_wp2_with fail
    go_end0
    exact ⟨rfl, by rw [HT.out]; exact HB.out, HK.out _⟩
  | true =>
    cases k2 : (x.owner == -1) with
    | false =>
      have HT : Hid (takeM x t v = { x with owner := t, holds := x.holds + 1 }) := Lib.hid (by unfold takeM; simp only [k1, k2, Bool.true_and, Bool.false_eq_true, if_false])
      go_enter Tryz.func101, Tryz.ntmps101
      go_wp2_with fail
      go_end0
      exact ⟨rfl, by rw [HT.out]; exact HB.out, HK.out _⟩
    | true =>
      have HT : Hid (takeM x t v = { x with owner := t, holds := v }) := Lib.hid (by unfold takeM; simp only [k1, k2, Bool.true_and, if_true])
      go_enter Tryz.func101, Tryz.ntmps101
      go_wp2_with fail
      go_end0
      exact ⟨rfl, by rw [HT.out]; exact HA.out, HK.out _⟩

theorem free_any (h : BoxT w b x s c) (h0 : -2000000 ≤ x.holds) (h1 : x.holds ≤ 2000001) :
    Calls Tryz.prog 102 #[.pointer (some ⟨b, 0, none⟩)] w (Turn w b (freeM x) s c) := by
  obtain ⟨c0, c1, c2, c3, _, _, _, _, _, _, _, _, _, _, _⟩ := h.cells
  have f2 := h.free 2
  have f3 := h.free 3
  have HA := Lib.hid (h.setHolds (x.holds - 1))
  have HB := Lib.hid ((h.setHolds (x.holds - 1)).setOwner (-1))
  have HK : Hid (Kept (fun k => k = b) w (w.setCell ⟨b, 3, none⟩ (.int .i64 (x.holds - 1)))) := Lib.hid ((Kept.one b w).sB _ _)
  have b0 : -2000001 ≤ x.holds - 1 := by omega
  have b1 : x.holds - 1 ≤ 2000000 := by omega
  clear h h0 h1
  cases k1 : (x.holds - 1 == 0) with
  | false =>
    have HT : Hid (freeM x = { x with holds := x.holds - 1 }) := Lib.hid (by unfold freeM; simp only [k1, Bool.false_eq_true, if_false])
    go_enter Tryz.func102, Tryz.ntmps102
    go_wp2_with fail
    go_end0
    exact ⟨rfl, by rw [HT.out]; exact HA.out, HK.out⟩
  | true =>
    have HT : Hid (freeM x = { x with holds := x.holds - 1, owner := -1 }) := Lib.hid (by unfold freeM; simp only [k1, if_true])
    go_enter Tryz.func102, Tryz.ntmps102
    go_wp2_with fail
    go_end0
    exact ⟨rfl, by rw [HT.out]; exact HB.out, HK.out.sB _ _⟩

theorem BoxT.alloc (h : BoxT w b x s c) (o : Obj) : BoxT (w.alloc o) b x s c := h.kept0 ((Kept.refl _ w).alloc _)
theorem BoxT.drewB (h : BoxT w b x s c) : BoxT w.drew b x s c := h.kept0 ((Kept.refl _ w).drew)

/-- The world behind a mark's box. -/
theorem note_box (h : BoxT w b x s c) (k v : Int) : ∃ W1, w.alloc (.cells #[.int .i64 k, .int .i64 v] 36) = W1 ∧ BoxT W1 b x s c ∧ BoxN W1 w.heap.size k v ∧ Kept (fun k => k = b) w W1 ∧ W1.heap.size = w.heap.size + 1 :=
  ⟨_, rfl, h.alloc _, BoxN.new w k v, (Kept.one b w).alloc _, by simp⟩

set_option maxHeartbeats 1000000 in
theorem countM_any (h : BoxT w b x s c) (k v : Int) (hm : k = 1 ∨ k = 8 ∨ k = 9 → -9000000 ≤ x.n - v ∧ x.n - v ≤ 9000000) (hp : k = 3 → -9000000 ≤ x.n + v ∧ x.n + v ≤ 9000000) :
    Calls Tryz.prog 84 #[.pointer (some ⟨b, 0, none⟩), .agg #[.int .i64 k, .int .i64 v]] w (Turn w b (countM x k v) s c) := by
  have hc : k = 1 ∨ k = 8 ∨ k = 9 ∨ k = 3 ∨ (k ≠ 1 ∧ k ≠ 8 ∧ k ≠ 9 ∧ k ≠ 3) := by omega
  obtain ⟨W1, hW1, hT, hN, hk, hs⟩ := note_box h k v
  obtain ⟨c0, c1, c2, c3, _, _, _, _, _, _, _, _, _, _, _⟩ := hT.cells
  obtain ⟨d0, d1⟩ := hN.cells
  have f1 := hT.free 1
  have HM : Hid (BoxT (W1.drew.setCell ⟨b, 1, none⟩ (.int .i64 (x.n - v))) b { x with n := x.n - v } s c) := Lib.hid (hT.drewB.setN _)
  have HP : Hid (BoxT (W1.drew.setCell ⟨b, 1, none⟩ (.int .i64 (x.n + v))) b { x with n := x.n + v } s c) := Lib.hid (hT.drewB.setN _)
  have HS : Hid (BoxT W1 b x s c) := Lib.hid hT
  have HK : Hid (∀ u, Kept (fun k => k = b) w (W1.drew.setCell ⟨b, 1, none⟩ u)) := Lib.hid (fun u => hk.drew.sB _ _)
  have HK0 := Lib.hid hk
  clear h hT hN hk hs
  rcases hc with rfl | rfl | rfl | rfl | ⟨n1, n8, n9, n3⟩
  · obtain ⟨m0, m1⟩ := hm (by omega)
    clear hm hp
    go_enter Tryz.func84, Tryz.ntmps84
    go_wp2_with fail
    go_still_tail 9, (by kernel_rfl)
    change wpList _ _ _ _ _ W1.drew
    go_wp2_with fail
    go_end0
    exact ⟨rfl, HM.out, HK.out _⟩
  · obtain ⟨m0, m1⟩ := hm (by omega)
    clear hm hp
    go_enter Tryz.func84, Tryz.ntmps84
    go_wp2_with fail
    go_still_tail 9, (by kernel_rfl)
    change wpList _ _ _ _ _ W1.drew
    go_wp2_with fail
    go_end0
    exact ⟨rfl, HM.out, HK.out _⟩
  · obtain ⟨m0, m1⟩ := hm (by omega)
    clear hm hp
    go_enter Tryz.func84, Tryz.ntmps84
    go_wp2_with fail
    go_still_tail 9, (by kernel_rfl)
    change wpList _ _ _ _ _ W1.drew
    go_wp2_with fail
    go_end0
    exact ⟨rfl, HM.out, HK.out _⟩
  · obtain ⟨m0, m1⟩ := hp rfl
    clear hm hp
    go_enter Tryz.func84, Tryz.ntmps84
    go_wp2_with fail
    go_still_tail 9, (by kernel_rfl)
    change wpList _ _ _ _ _ W1.drew
    go_wp2_with fail
    go_end0
    exact ⟨rfl, HP.out, HK.out _⟩
  · have HT : Hid (countM x k v = x) := Lib.hid (by unfold countM; rw [if_neg (by omega), if_neg n3])
    clear hm hp
    go_enter Tryz.func84, Tryz.ntmps84
    go_wp2_with fail
    go_end0
    exact ⟨rfl, by rw [HT.out]; exact HS.out, HK0.out⟩

end
end Go.Proofs.YtbodlaiakcoabaaGreatDoor
end
section
set_option maxRecDepth 100000
namespace Go.Proofs.YtbodlaiakcoabaaGreatDoor
open Go.RowKit
set_option linter.unusedSimpArgs false

theorem Kept.setCells {S : Nat → Prop} {a : World} {g : Nat} (hg : S g) : ∀ (vs : List Value) (o : Nat) {b : World}, Kept S a b → Kept S a (b.setCells g o vs)
  | [], _, _, h => h
  | v :: r, o, _, h => Kept.setCells hg r (o + 1) (h.setCell ⟨g, o, none⟩ v (fun _ => hg))
theorem zero_wt (w : World) : (zeroValue 78).run Tryz.prog w = .ok (.agg #[.int .i64 0, .int .i64 0]) w := by kernel_rfl
/-- Nobody. -/
def zwt : Wt := ⟨0, 0⟩
theorem zero_cells (k : Nat) : (Builtin.zeroCells #[.int .i64 0, .int .i64 0] k).toList = flat Wt.cells (List.replicate k zwt) := by
  apply List.ext_getElem?
  intro j
  have hl := flat_len Wt.two (List.replicate k zwt)
  rw [List.length_replicate] at hl
  by_cases hj : j < k * 2
  · have h1 : (List.replicate k zwt)[j / 2]? = some zwt := by rw [List.getElem?_replicate]; rw [if_pos (by omega)]
    have h2 := flat_at Wt.two (List.replicate k zwt) (j / 2) (j % 2) zwt h1 (by omega)
    rw [show j / 2 * 2 + j % 2 = j from by omega] at h2
    rw [h2]
    have h3 : j % 2 < 2 := by omega
    simp only [Builtin.zeroCells]
    simp [hj]
    generalize j % 2 = i at *
    match i, h3 with
    | 0, _ => rfl
    | 1, _ => rfl
  · rw [List.getElem?_eq_none (by simp [Builtin.zeroCells]; omega), List.getElem?_eq_none (by omega)]
/-- clear of k waiters. -/
theorem run_clear_wt (w : World) (ty : TypeId) (g o k c : Nat) (hk : 0 < k) (hc : ∀ j, j < k * 2 → (w.cell? ⟨g, o + j, none⟩).isSome = true) (hf : ∀ j, w.frozen? ⟨g, j, none⟩ = false) :
    (Builtin.clear_ #[40] ty #[.slice (some ⟨g, o, none⟩) k c]).run Tryz.prog w = .ok (.tuple #[]) (w.setCells g o (flat Wt.cells (List.replicate k zwt))) := by
  have hl := flat_len Wt.two (List.replicate k zwt)
  rw [List.length_replicate] at hl
  have hst := run_storeCells_cells (P := Tryz.prog) g o (flat Wt.cells (List.replicate k zwt)) 0 w (by intro j hj; exact hc j (by omega)) (by intro j hj; exact hf _) (wt_cell _)
  simp only [Nat.add_zero] at hst
  obtain ⟨m, rfl⟩ : ∃ m, k = m + 1 := ⟨k - 1, by omega⟩
  have hz := zero_cells (m + 1)
  have hzv := zero_wt w
  simp [Builtin.clear_, run_underlying Tryz.underlying40, hzv, Value.cells, hz, hst]

section
variable {W : Nat} {w w' : World} {g c : Nat} {ws : List Wt}
theorem Row.cellF (h : Row w g c 78 2 Wt.cells ws) {j : Nat} (hj : j < ws.length * 2) : w.cell? ⟨g, j, none⟩ = (flat Wt.cells ws)[j]? := World.ownsRow.cellAt h j hj
end

set_option maxHeartbeats 2000000 in
theorem delete_any (q : Wt) (l : List Wt) (m : Nat) (hm : l.length = m) (hl : m ≤ 200) (g c : Nat) (w : World) (hc : m + 1 ≤ c) (hR : Row w g c 78 2 Wt.cells (q :: l)) :
    Calls Tryz.prog 103 #[.slice (some ⟨g, 0, none⟩) ((m + 1 : Nat)) c, .int .i64 0, .int .i64 1] w fun e w' => e = .returned (.slice (some ⟨g, 0, none⟩) m c) ∧ Elems w' w'.heap.size (some ⟨g, 0, none⟩) 2 Wt.cells l ∧ (∀ o, w'.frozen? ⟨g, o, none⟩ = false) ∧ Kept (fun k => k = g) w w' := by
  obtain ⟨i0, hi, hz0, hz1, hz2⟩ := info_parts info_wt
  have hfl := flat_len Wt.two l
  have hlt := hR.lt
  have hlen : (q :: l).length = m + 1 := by simp [hm]
  have hcell : ∀ j, j < (m + 1) * 2 → w.cell? ⟨g, j, none⟩ = (flat Wt.cells (q :: l))[j]? := fun j hj => hR.cellF (by rw [hlen]; exact hj)
  have hlen2 := flat_len Wt.two (q :: l)
  have hsome : ∀ j, j < (m + 1) * 2 → (w.cell? ⟨g, j, none⟩).isSome = true := fun j hj => by
    rw [hcell j hj, List.getElem?_eq_getElem (by rw [hlen2, hlen]; exact hj)]; rfl
  have hfree : ∀ o, w.frozen? ⟨g, o, none⟩ = false := fun o => hR.free o
  have hsrc : ∀ j u, (flat Wt.cells l)[j]? = some u → w.cell? ⟨g, 2 + j, none⟩ = some u := fun j u hu => by
    have hj : j < m * 2 := by have := (List.getElem?_eq_some_iff.1 hu).1; rw [hfl, hm] at this; exact this
    rw [hcell (2 + j) (by omega), ← hu]
    show (flat Wt.cells ([q] ++ l))[2 + j]? = _
    rw [show flat Wt.cells ([q] ++ l) = Wt.cells q ++ flat Wt.cells l from by simp [flat]]
    rw [List.getElem?_append_right (by rw [Wt.two]; omega), Wt.two]
    congr 1
    omega
  obtain ⟨A, hA, HS⟩ : ∃ A : Addr, (if c = 1 then some (⟨g, 0, none⟩ : Addr) else some ⟨g, 2, none⟩) = some A ∧ Hid (∀ j u, (flat Wt.cells l)[j]? = some u → w.drew.cell? (A.add j) = some u) := by
    by_cases h : c = 1
    · refine ⟨⟨g, 0, none⟩, by simp [h], fun j u hu => ?_⟩
      have h0 : l = [] := List.eq_nil_of_length_eq_zero (by omega)
      subst h0
      simp [flat] at hu
    · refine ⟨⟨g, 2, none⟩, by simp [h], fun j u hu => ?_⟩
      rw [Addr.add_lit]
      exact hsrc j u hu
  obtain ⟨W1, hW1⟩ : ∃ W1, w.drew.setCells g 0 (flat Wt.cells l) = W1 := ⟨_, rfl⟩
  have hk1 : Kept (fun k => k = g) w W1 := by rw [← hW1]; exact Kept.setCells (S := fun k => k = g) rfl _ _ (Kept.drew (Kept.refl _ w))
  have hf1 : ∀ o, W1.frozen? ⟨g, o, none⟩ = false := fun o => by rw [← hW1, World.frozen?_setCells]; exact hfree o
  have hin : ∀ j, j < (flat Wt.cells l).length → (w.drew.cell? ⟨g, 0 + j, none⟩).isSome = true := fun j hj => by
    rw [Nat.zero_add]; exact hsome j (by rw [hfl, hm] at hj; omega)
  have hc1 : ∀ j u, (flat Wt.cells l)[j]? = some u → W1.cell? ⟨g, j, none⟩ = some u := fun j u hu => by
    obtain ⟨hj, he⟩ := List.getElem?_eq_some_iff.1 hu
    have h := World.cell?_setCells_in g (flat Wt.cells l) 0 w.drew hin j hj
    rw [Nat.zero_add, hW1, he] at h
    exact h
  have hend : ∀ j, j < 1 * 2 → (W1.cell? ⟨g, m * 2 + j, none⟩).isSome = true := fun j hj => by
    rw [← hW1, World.cell?_setCells_out g _ 0 _ _ (fun _ _ => .inr (by show 0 + _ ≤ m * 2 + j; rw [hfl, hm]; omega))]
    exact hsome _ (by omega)
  have hcl : ∀ ty, (Builtin.clear_ #[40] ty #[.slice (some ⟨g, m * 2, none⟩) 1 (c - m)]).run Tryz.prog W1 = .ok (.tuple #[]) (W1.setCells g (m * 2) (flat Wt.cells (List.replicate 1 zwt))) :=
    fun ty => run_clear_wt W1 ty g (m * 2) 1 (c - m) (by omega) hend hf1
  have hfin : Elems (W1.setCells g (m * 2) (flat Wt.cells (List.replicate 1 zwt))) (W1.setCells g (m * 2) (flat Wt.cells (List.replicate 1 zwt))).heap.size (some ⟨g, 0, none⟩) 2 Wt.cells l ∧ (∀ o, (W1.setCells g (m * 2) (flat Wt.cells (List.replicate 1 zwt))).frozen? ⟨g, o, none⟩ = false) ∧ Kept (fun k => k = g) w (W1.setCells g (m * 2) (flat Wt.cells (List.replicate 1 zwt))) := by
    have hk2 : Kept (fun k => k = g) w (W1.setCells g (m * 2) (flat Wt.cells (List.replicate 1 zwt))) := Kept.setCells (S := fun k => k = g) rfl _ _ hk1
    refine ⟨⟨by unfold maxLen; omega, fun i x hi => ⟨g, 0, rfl, by have := hk2.size; omega, fun j v hj => ?_⟩⟩, fun o => by rw [World.frozen?_setCells]; exact hf1 o, hk2⟩
    have hj2 : j < 2 := by have := (List.getElem?_eq_some_iff.1 hj).1; rw [Wt.two] at this; exact this
    have hil : i < m := by have := (List.getElem?_eq_some_iff.1 hi).1; omega
    rw [World.cell?_setCells_out g _ _ _ _ (fun _ _ => .inl (by show 0 + i * 2 + j < m * 2; omega)), Nat.zero_add]
    refine hc1 (i * 2 + j) v ?_
    rw [flat_at Wt.two l i j x hi hj2, hj]
  have HF := Lib.hid hfin
  have s1 : Hid ((flat Wt.cells l).length = m * 2) := Lib.hid (by rw [hfl, hm])
  have s3 : Hid (∀ j, j < (flat Wt.cells l).length → (w.drew.cell? ⟨g, 0 + 0 * 2 + j, none⟩).isSome = true ∧ w.drew.frozen? ⟨g, 0 + 0 * 2 + j, none⟩ = false) := Lib.hid (fun j hj => ⟨by have := hin j hj; simpa using this, by simpa using hfree j⟩)
  have HI := Lib.hid hi
  have HZ1 := Lib.hid hz1
  have hW : Hid (W1 = w.drew.setCells g 0 (flat Wt.cells l)) := Lib.hid hW1.symm
  have m1 : ¬ c = m := by omega
  have m2 : m ≤ c := by omega
  have m3 : 1 ≤ c := by omega
  have m4 : (1 : Int) ≤ (m : Int) + 1 := by omega
  have m5 : (m : Int) ≤ (m : Int) + 1 := by omega
  clear hi hz0 hz1 hz2 hfl hlt hlen hcell hlen2 hsome hfree hsrc hk1 hf1 hin hc1 hend hfin hR hW1 hm
  go_enter Tryz.func103, Tryz.ntmps103
  go_wp2_with fail
  go_region_law (refine step_append_room rfl (.tmp 22) (.tmp 25) 40 rfl 78 i0 2 Tryz.underlying40 HI.out HZ1.out g 0 0 c (by simp [Act.eval, Act.put]) A m (c - 1) (flat Wt.cells l) (by simp [Act.eval, Act.put]) s1.out HS.out (wt_cell l) (by omega) s3.out ?_; rw [← hW.out])
  go_wp2_with fail
  go_ret
  exact ⟨rfl, HF.out⟩

end Go.Proofs.YtbodlaiakcoabaaGreatDoor
end
section
namespace Go.Proofs.YtbodlaiakcoabaaGreatDoor
open Go.RowKit
set_option linter.unusedSimpArgs false

/-- Where the first of them waits. -/
def firstAt (t : Int) : List Wt → Option Nat
  | [] => none
  | q :: ws => if q.thread = t then some 0 else (firstAt t ws).map (· + 1)
def atI : Option Nat → Int
  | none => -1
  | some k => k
theorem firstAt_none {t : Int} : ∀ {ws : List Wt}, (∀ j q, j < ws.length → ws[j]? = some q → q.thread ≠ t) → firstAt t ws = none
  | [], _ => rfl
  | q :: ws, h => by
    have h0 := h 0 q (by simp) rfl
    have ih := firstAt_none (t := t) (ws := ws) (fun j q' hj hq => h (j + 1) q' (by simp; omega) (by simpa using hq))
    simp [firstAt, h0, ih]
theorem firstAt_some {t : Int} : ∀ {ws : List Wt} {k : Nat} {q : Wt}, ws[k]? = some q → q.thread = t → (∀ j q, j < k → ws[j]? = some q → q.thread ≠ t) → firstAt t ws = some k
  | [], k, q, h, _, _ => by simp at h
  | q' :: ws, 0, q, h, hq, _ => by
    simp only [List.getElem?_cons_zero, Option.some.injEq] at h
    subst h
    simp [firstAt, hq]
  | q' :: ws, k + 1, q, h, hq, hn => by
    have h0 := hn 0 q' (by omega) rfl
    have ih := firstAt_some (t := t) (ws := ws) (k := k) (q := q) (by simpa using h) hq (fun j q2 hj h2 => hn (j + 1) q2 (by omega) (by simpa using h2))
    simp [firstAt, h0, ih]
theorem waits_first (t : Int) : ∀ ws : List Wt, waitsM ws t = (firstAt t ws).isSome
  | [] => rfl
  | q :: ws => by
    have ih := waits_first t ws
    unfold waitsM at ih ⊢
    by_cases h : q.thread = t
    · simp [firstAt, h]
    · rw [List.any_cons, ih]; simp [firstAt, h]
theorem atI_ge (o : Option Nat) : decide (0 ≤ atI o) = o.isSome := by cases o with | none => rfl | some k => exact decide_eq_true (by simp [atI])

theorem clo_is (q : Wt) (t : Int) (B : Nat) (w : World) (hB : w.cell? ⟨B, 0, none⟩ = some (.int .i64 t)) :
    Calls Tryz.prog 107 #[q.agg, .pointer (some ⟨B, 0, none⟩)] w fun e w' => e = .returned (.bool (q.thread == t)) ∧ Kept (fun _ => False) w w' := by
  have hlt := World.block_lt_of_cell? w _ hB
  have hB' : (w.alloc (.cells #[.int .i64 q.thread, .int .i64 q.holds] 78)).cell? ⟨B, 0, none⟩ = some (.int .i64 t) :=
    (((Kept.refl (fun _ => False) w).alloc (.cells #[.int .i64 q.thread, .int .i64 q.holds] 78)).cell (p := ⟨B, 0, none⟩) hlt (fun f => f)).trans hB
  clear hB
  go_enter Tryz.func107, Tryz.ntmps107
  go_wp2_with fail
  go_ret
  exact ⟨rfl, (Kept.refl _ w).alloc _⟩

set_option maxHeartbeats 1000000 in
theorem idx_is (ws : List Wt) (n : Nat) (hn : ws.length = n) (hl : n ≤ 200) (t : Int) (B C : Nat) (s : Option Addr) (c : Nat) (w : World) (hB : w.cell? ⟨B, 0, none⟩ = some (.int .i64 t)) (hE : Elems w C s 2 Wt.cells ws) (hC : C ≤ w.heap.size) :
    Calls Tryz.prog 108 #[.slice s n c, .func (.func 107) #[] #[.pointer (some ⟨B, 0, none⟩)]] w fun e w' => e = .returned (.int .i64 (atI (firstAt t ws))) ∧ Kept (fun _ => False) w w' := by
  have hlt := World.block_lt_of_cell? w _ hB
  have HP : Hid (∀ w' i q, Kept (fun _ => False) w w' → ws[i]? = some q → ∃ g off, s = some ⟨g, off, none⟩ ∧ w'.cell? ⟨g, off + i * 2, none⟩ = some (.int .i64 q.thread) ∧ w'.cell? ⟨g, off + i * 2 + 1, none⟩ = some (.int .i64 q.holds)) := Lib.hid (fun w' i q hk hi => by
    obtain ⟨g, off, e, _, h⟩ := (hE.kept hk hC (fun _ _ f => f)).2 i q hi
    exact ⟨g, off, e, h 0 _ rfl, h 1 _ rfl⟩)
  have HB : Hid (∀ w', Kept (fun _ => False) w w' → w'.cell? ⟨B, 0, none⟩ = some (.int .i64 t)) := Lib.hid (fun w' hk => (hk.cell (p := ⟨B, 0, none⟩) hlt (fun f => f)).trans hB)
  have HN := Lib.hid hn
  clear hE hB
  go_enter Tryz.func108, Tryz.ntmps108
  go_wp2_with fail
  go_loopw [8] (fun i wr => ∃ k : Nat, i = .int .i64 k ∧ k ≤ n ∧ Kept (fun _ => False) w wr ∧ ∀ j q, j < k → ws[j]? = some q → q.thread ≠ t) (fun i _ => n - (intOf i).toNat)
  case atStart => exact ⟨0, rfl, by omega, Kept.refl _ _, fun j q hj => absurd hj (Nat.not_lt_zero _)⟩
  case round =>
    obtain ⟨k, rfl, hk1, hk, hne⟩ := hrel
    have HK := Lib.hid hk; clear hk
    have HNE := Lib.hid hne; clear hne
    by_cases hkk : k < n
    · obtain ⟨q, hq⟩ : ∃ q, ws[k]? = some q := ⟨_, List.getElem?_eq_getElem (by rw [HN.out]; exact hkk)⟩
      obtain ⟨g, off, rfl, y0, y1⟩ := HP.out wr k q HK.out hq
      have hb := HB.out wr HK.out
      have HQ := Lib.hid hq; clear hq
      have HC := Lib.hid (clo_is q t B wr hb)
      have k0 : (0 : Int) ≤ (k : Int) := by omega
      have k1 : (k : Int) < (n : Int) := by omega
      clear hkk hb
      cases he : (q.thread == t) with
      | true =>
        go_wp2_with fail
        refine HC.out.mono ?_
        rintro e w2 ⟨rfl, hk2⟩
        rw [he]
        have HK2 := Lib.hid hk2; clear hk2
        go_wp2_with fail
        go_ret
        exact ⟨by rw [firstAt_some HQ.out (beq_iff_eq.1 he) HNE.out]; rfl, HK.out.tr0 HK2.out⟩
      | false =>
        go_wp2_with fail
        refine HC.out.mono ?_
        rintro e w2 ⟨rfl, hk2⟩
        rw [he]
        have HK2 := Lib.hid hk2; clear hk2
        go_wp2_with fail
        go_roundw
        case rel =>
          refine ⟨k + 1, by go_num, by omega, HK.out.tr0 HK2.out, fun j q' hj hq' => ?_⟩
          by_cases e : j = k
          · subst e
            have := HQ.out.symm.trans hq'
            simp only [Option.some.injEq] at this
            subst this
            exact beq_eq_false_iff_ne.1 he
          · exact HNE.out j q' (by omega) hq'
        case measure => simp [intOf]; omega
    · have k1 : ¬ ((k : Int) < (n : Int)) := by omega
      have hkn : k = n := by omega
      go_wp2_with fail
      go_ret
      exact ⟨by rw [firstAt_none (fun j q hj => HNE.out j q (by rw [HN.out] at hj; omega))]; rfl, HK.out⟩

theorem clo_cancel (q : Wt) (t : Int) (B : Nat) (w : World) (hB : w.cell? ⟨B, 0, none⟩ = some (.int .i64 t)) :
    Calls Tryz.prog 105 #[q.agg, .pointer (some ⟨B, 0, none⟩)] w fun e w' => e = .returned (.bool (q.thread == t)) ∧ Kept (fun _ => False) w w' := by
  have hlt := World.block_lt_of_cell? w _ hB
  have hB' : (w.alloc (.cells #[.int .i64 q.thread, .int .i64 q.holds] 78)).cell? ⟨B, 0, none⟩ = some (.int .i64 t) :=
    (((Kept.refl (fun _ => False) w).alloc (.cells #[.int .i64 q.thread, .int .i64 q.holds] 78)).cell (p := ⟨B, 0, none⟩) hlt (fun f => f)).trans hB
  clear hB
  go_enter Tryz.func105, Tryz.ntmps105
  go_wp2_with fail
  go_ret
  exact ⟨rfl, (Kept.refl _ w).alloc _⟩

set_option maxHeartbeats 1000000 in
theorem idx_cancel (ws : List Wt) (n : Nat) (hn : ws.length = n) (hl : n ≤ 200) (t : Int) (B C : Nat) (s : Option Addr) (c : Nat) (w : World) (hB : w.cell? ⟨B, 0, none⟩ = some (.int .i64 t)) (hE : Elems w C s 2 Wt.cells ws) (hC : C ≤ w.heap.size) :
    Calls Tryz.prog 108 #[.slice s n c, .func (.func 105) #[] #[.pointer (some ⟨B, 0, none⟩)]] w fun e w' => e = .returned (.int .i64 (atI (firstAt t ws))) ∧ Kept (fun _ => False) w w' := by
  have hlt := World.block_lt_of_cell? w _ hB
  have HP : Hid (∀ w' i q, Kept (fun _ => False) w w' → ws[i]? = some q → ∃ g off, s = some ⟨g, off, none⟩ ∧ w'.cell? ⟨g, off + i * 2, none⟩ = some (.int .i64 q.thread) ∧ w'.cell? ⟨g, off + i * 2 + 1, none⟩ = some (.int .i64 q.holds)) := Lib.hid (fun w' i q hk hi => by
    obtain ⟨g, off, e, _, h⟩ := (hE.kept hk hC (fun _ _ f => f)).2 i q hi
    exact ⟨g, off, e, h 0 _ rfl, h 1 _ rfl⟩)
  have HB : Hid (∀ w', Kept (fun _ => False) w w' → w'.cell? ⟨B, 0, none⟩ = some (.int .i64 t)) := Lib.hid (fun w' hk => (hk.cell (p := ⟨B, 0, none⟩) hlt (fun f => f)).trans hB)
  have HN := Lib.hid hn
  clear hE hB
  go_enter Tryz.func108, Tryz.ntmps108
  go_wp2_with fail
  go_loopw [8] (fun i wr => ∃ k : Nat, i = .int .i64 k ∧ k ≤ n ∧ Kept (fun _ => False) w wr ∧ ∀ j q, j < k → ws[j]? = some q → q.thread ≠ t) (fun i _ => n - (intOf i).toNat)
  case atStart => exact ⟨0, rfl, by omega, Kept.refl _ _, fun j q hj => absurd hj (Nat.not_lt_zero _)⟩
  case round =>
    obtain ⟨k, rfl, hk1, hk, hne⟩ := hrel
    have HK := Lib.hid hk; clear hk
    have HNE := Lib.hid hne; clear hne
    by_cases hkk : k < n
    · obtain ⟨q, hq⟩ : ∃ q, ws[k]? = some q := ⟨_, List.getElem?_eq_getElem (by rw [HN.out]; exact hkk)⟩
      obtain ⟨g, off, rfl, y0, y1⟩ := HP.out wr k q HK.out hq
      have hb := HB.out wr HK.out
      have HQ := Lib.hid hq; clear hq
      have HC := Lib.hid (clo_cancel q t B wr hb)
      have k0 : (0 : Int) ≤ (k : Int) := by omega
      have k1 : (k : Int) < (n : Int) := by omega
      clear hkk hb
      cases he : (q.thread == t) with
      | true =>
        go_wp2_with fail
        refine HC.out.mono ?_
        rintro e w2 ⟨rfl, hk2⟩
        rw [he]
        have HK2 := Lib.hid hk2; clear hk2
        go_wp2_with fail
        go_ret
        exact ⟨by rw [firstAt_some HQ.out (beq_iff_eq.1 he) HNE.out]; rfl, HK.out.tr0 HK2.out⟩
      | false =>
        go_wp2_with fail
        refine HC.out.mono ?_
        rintro e w2 ⟨rfl, hk2⟩
        rw [he]
        have HK2 := Lib.hid hk2; clear hk2
        go_wp2_with fail
        go_roundw
        case rel =>
          refine ⟨k + 1, by go_num, by omega, HK.out.tr0 HK2.out, fun j q' hj hq' => ?_⟩
          by_cases e : j = k
          · subst e
            have := HQ.out.symm.trans hq'
            simp only [Option.some.injEq] at this
            subst this
            exact beq_eq_false_iff_ne.1 he
          · exact HNE.out j q' (by omega) hq'
        case measure => simp [intOf]; omega
    · have k1 : ¬ ((k : Int) < (n : Int)) := by omega
      have hkn : k = n := by omega
      go_wp2_with fail
      go_ret
      exact ⟨by rw [firstAt_none (fun j q hj => HNE.out j q (by rw [HN.out] at hj; omega))]; rfl, HK.out⟩

theorem has_ws (ws : List Wt) (n : Nat) (hn : ws.length = n) (hl : n ≤ 200) (t : Int) (B C : Nat) (s : Option Addr) (c : Nat) (w : World) (hB : w.cell? ⟨B, 0, none⟩ = some (.int .i64 t)) (hE : Elems w C s 2 Wt.cells ws) (hC : C ≤ w.heap.size) :
    Calls Tryz.prog 106 #[.slice s n c, .func (.func 107) #[] #[.pointer (some ⟨B, 0, none⟩)]] w fun e w' => e = .returned (.bool (waitsM ws t)) ∧ Kept (fun _ => False) w w' := by
  have HC := Lib.hid (idx_is ws n hn hl t B C s c w hB hE hC)
  have HW := Lib.hid (waits_first t ws)
  have HG := Lib.hid (atI_ge (firstAt t ws))
  clear hE hB hn
  go_enter Tryz.func106, Tryz.ntmps106
  go_wp2_with fail
  refine (HC.out).mono ?_
  rintro e w1 ⟨rfl, hk⟩
  go_wp2_with fail
  go_ret
  exact ⟨by rw [HW.out, ← HG.out]; rfl, hk⟩

theorem waiting_any (x : Th) (t : Int) (s : Option Addr) (c : Nat) (w : World) (hl : x.ws.length ≤ 200) (hE : InW w x s) (r : Bool) (hr : waitsM x.ws t = r) :
    Calls Tryz.prog 98 #[x.agg s c, .int .i64 t] w fun e w' => e = .returned (.bool r) ∧ Kept (fun _ => False) w w' := by
  have hk : Kept (fun _ => False) w ((w.alloc (.cells (x.box s c) 42)).alloc (.cells #[.int .i64 t] 3)) := ((Kept.refl _ w).alloc _).alloc _
  have hs : (w.alloc (.cells (x.box s c) 42)).heap.size = w.heap.size + 1 := by simp
  have HC := Lib.hid (has_ws x.ws x.ws.length rfl hl t (w.heap.size + 1) w.heap.size s c ((w.alloc (.cells (x.box s c) 42)).alloc (.cells #[.int .i64 t] 3)) (by
    rw [← hs, cell_at _ _ 0 _ _ (heap_new1 _ _)]; rfl) (Elems.kept hE hk (Nat.le_refl _) (fun _ _ f => f)) (by have := hk.size; omega))
  have HK := Lib.hid hk
  clear hk hE hs
  rw [hr] at HC
  go_enter Tryz.func98, Tryz.ntmps98
  go_wp2_with fail
  refine (HC.out).mono ?_
  rintro e w1 ⟨rfl, hk1⟩
  go_wp2_with fail
  go_ret
  exact ⟨rfl, HK.out.tr0 hk1⟩

end Go.Proofs.YtbodlaiakcoabaaGreatDoor
end
section
namespace Go.Proofs.YtbodlaiakcoabaaGreatDoor
open Go.RowKit
set_option linter.unusedSimpArgs false

/-- The others. -/
def others (t : Int) (ws : List Wt) : List Wt := ws.filter (fun q => q.thread != t)
theorem others_take (t : Int) (ws : List Wt) (j : Nat) (q : Wt) (h : ws[j]? = some q) : others t (ws.take (j + 1)) = others t (ws.take j) ++ (if q.thread = t then [] else [q]) := by
  unfold others
  rw [List.take_add_one, h, Option.toList_some, List.filter_append]
  congr 1
  by_cases e : q.thread = t
  · rw [if_pos e, List.filter_cons_of_neg (by simp [e])]; rfl
  · rw [if_neg e, List.filter_cons_of_pos (by simp [e])]; rfl
theorem firstAt_lt {t : Int} : ∀ {ws : List Wt} {k : Nat}, firstAt t ws = some k → k < ws.length ∧ others t (ws.take (k + 1)) = ws.take k ∧ (others t (ws.take (k + 1))).length = k
  | [], k, h => by simp [firstAt] at h
  | q :: ws, k, h => by
    unfold firstAt at h
    split at h
    · rename_i e
      simp only [Option.some.injEq] at h
      subst h
      simp [others, e]
    · rename_i e
      cases hf : firstAt t ws with
      | none => rw [hf] at h; simp at h
      | some i =>
        rw [hf] at h
        simp only [Option.map_some, Option.some.injEq] at h
        subst h
        obtain ⟨h1, h2, h3⟩ := firstAt_lt (ws := ws) hf
        refine ⟨by simp; omega, ?_, ?_⟩
        · rw [List.take_succ_cons, List.take_succ_cons]
          unfold others at h2 ⊢
          rw [List.filter_cons_of_pos (by simp [e]), h2]
        · rw [List.take_succ_cons]
          unfold others at h3 ⊢
          rw [List.filter_cons_of_pos (by simp [e]), List.length_cons, h3]

/-- How the row stands when j of them were looked at. -/
structure Struck (t : Int) (ws ys : List Wt) (i j : Nat) : Prop where
  len : ys.length = ws.length
  head : ys.take i = others t (ws.take j)
  cnt : (others t (ws.take j)).length = i
  rest : ∀ m, j ≤ m → ys[m]? = ws[m]?
  lt : i < j
theorem Struck.keep {t : Int} {ws ys : List Wt} {i j : Nat} {q : Wt} (h : Struck t ws ys i j) (hj : j < ws.length) (hq : ws[j]? = some q) (he : q.thread ≠ t) : Struck t ws (ys.set i q) (i + 1) (j + 1) := by
  have hi := h.lt
  have hl := h.len
  have ho := others_take t ws j q hq
  rw [if_neg he] at ho
  refine ⟨by rw [List.length_set, hl], ?_, by rw [ho, List.length_append, h.cnt]; rfl, fun m hm => ?_, by omega⟩
  · rw [ho, ← h.head, List.take_add_one, List.getElem?_set_self (by omega), List.take_set_of_le (Nat.le_refl _)]; rfl
  · rw [List.getElem?_set_ne (by omega)]; exact h.rest m (by omega)
theorem Struck.drop {t : Int} {ws ys : List Wt} {i j : Nat} {q : Wt} (h : Struck t ws ys i j) (hq : ws[j]? = some q) (he : q.thread = t) : Struck t ws ys i (j + 1) := by
  have ho := others_take t ws j q hq
  rw [if_pos he, List.append_nil] at ho
  exact ⟨h.len, by rw [ho]; exact h.head, by rw [ho]; exact h.cnt, fun m hm => h.rest m (by omega), by have := h.lt; omega⟩

set_option maxHeartbeats 4000000 in
theorem strike_any (ws : List Wt) (n : Nat) (hn : ws.length = n) (hl : n ≤ 200) (t : Int) (B g c : Nat) (w : World) (hB : w.cell? ⟨B, 0, none⟩ = some (.int .i64 t)) (hBg : B ≠ g) (hc : n ≤ c) (hR : Row w g c 78 2 Wt.cells ws) (hw : waitsM ws t = true) :
    Calls Tryz.prog 104 #[.slice (some ⟨g, 0, none⟩) n c, .func (.func 105) #[] #[.pointer (some ⟨B, 0, none⟩)]] w fun e w' => e = .returned (.slice (some ⟨g, 0, none⟩) (others t ws).length c) ∧ Elems w' w'.heap.size (some ⟨g, 0, none⟩) 2 Wt.cells (others t ws) ∧ (∀ o, w'.frozen? ⟨g, o, none⟩ = false) ∧ Kept (fun k => k = g) w w' := by
  have hBl := World.block_lt_of_cell? w _ hB
  have hgl := hR.lt
  obtain ⟨k0, hk0⟩ : ∃ k0, firstAt t ws = some k0 := by
    rw [waits_first] at hw
    exact Option.isSome_iff_exists.1 hw
  obtain ⟨hk1, hk2, hk3⟩ := firstAt_lt hk0
  have HIX := idx_cancel ws n hn hl t B w.heap.size (some ⟨g, 0, none⟩) c w hB ((Elems.of_row Wt.two hR (by rw [hn]; unfold maxLen; omega)).more hgl) (Nat.le_refl _)
  rw [hk0] at HIX
  have HIX := Lib.hid HIX
  have HC : Hid (∀ (q : Wt) W', Kept (fun k => k = g) w W' → Calls Tryz.prog 105 #[q.agg, .pointer (some ⟨B, 0, none⟩)] W' fun e w' => e = .returned (.bool (q.thread == t)) ∧ Kept (fun _ => False) W' w') :=
    Lib.hid (fun q W' hk => clo_cancel q t B W' ((hk.cell (p := ⟨B, 0, none⟩) hBl hBg).trans hB))
  have HS0 : Hid (Struck t ws ws k0 (k0 + 1)) := Lib.hid ⟨rfl, hk2.symm, hk3, fun m _ => rfl, by omega⟩
  have HR := Lib.hid hR
  have HN := Lib.hid hn
  have k1 : k0 < n := by omega
  have k2 : (k0 : Int) + 1 ≤ 201 := by omega
  have k3 : ((k0 : Int) == -1) = false := by rw [beq_eq_false_iff_ne]; omega
  clear hB hR hw hk0 hk1 hk2 hk3 hn
  go_enter Tryz.func104, Tryz.ntmps104
  go_wp2_with fail
  refine (HIX.out).mono ?_
  rintro e w1 ⟨rfl, hkk⟩
  have HR1 := Lib.hid (HR.out.kept hkk (fun f => f))
  have HK1 : Hid (Kept (fun k => k = g) w w1) := Lib.hid (hkk.mono (fun _ _ f => f.elim))
  clear hkk
  rw [show atI (some k0) = (k0 : Int) from rfl]
  go_wp2_with fail
  go_loopw [5, 6] (fun i j wr => ∃ (i' j' : Nat) (ys : List Wt), i = .int .i64 i' ∧ j = .int .i64 j' ∧ j' ≤ n ∧ Struck t ws ys i' j' ∧ Row wr g c 78 2 Wt.cells ys ∧ Kept (fun k => k = g) w wr) (fun _ j _ => n - (intOf j).toNat)
  case atStart => exact ⟨k0, k0 + 1, ws, rfl, by go_num, by omega, HS0.out, HR1.out, HK1.out⟩
  case round =>
    obtain ⟨i, j, ys, rfl, rfl, hjn, hS, hRy, hkr⟩ := hrel
    have HSY := Lib.hid hS
    have HRY := Lib.hid hRy
    have HKR := Lib.hid hkr
    have hij := hS.lt
    by_cases hj : j < n
    · obtain ⟨q, hq⟩ : ∃ q, ws[j]? = some q := ⟨_, List.getElem?_eq_getElem (by rw [HN.out]; exact hj)⟩
      have hyq : ys[j]? = some q := by rw [hS.rest j (Nat.le_refl _)]; exact hq
      have y0 : wr.cell? ⟨g, j * 2, none⟩ = some (.int .i64 q.thread) := hRy.cell Wt.two hyq (j := 0) rfl
      have y1 : wr.cell? ⟨g, j * 2 + 1, none⟩ = some (.int .i64 q.holds) := hRy.cell Wt.two hyq (j := 1) rfl
      have HQ := Lib.hid hq
      have j1 : (j : Int) < (n : Int) := by omega
      have j2 : (j : Int) + 1 ≤ 201 := by omega
      have i2 : (i : Int) + 1 ≤ 201 := by omega
      clear hS hRy hkr hq hyq hj
      have HW2 : Hid (Kept (fun k => k = g) w (wr.alloc (.cells #[.int .i64 q.thread, .int .i64 q.holds] 78))) := Lib.hid (HKR.out.alloc _)
      have HRA : Hid (Row (wr.alloc (.cells #[.int .i64 q.thread, .int .i64 q.holds] 78)) g c 78 2 Wt.cells ys) := Lib.hid (HRY.out.kept ((Kept.refl (fun _ => False) wr).alloc _) (fun f => f))
      have HBA : Hid ((wr.alloc (.cells #[.int .i64 q.thread, .int .i64 q.holds] 78)).heap[wr.heap.size]? = some (.cells #[.int .i64 q.thread, .int .i64 q.holds] 78 (0, 0))) := Lib.hid (heap_new1 wr _)
      cases he : (q.thread == t) with
      | true =>
        go_wp2_with fail
        refine (HC.out q _ HW2.out).mono ?_
        rintro e w2 ⟨rfl, hk2⟩
        rw [he]
        have HR2 := Lib.hid (HRA.out.kept hk2 (fun f => f))
        have HK2 : Hid (Kept (fun k => k = g) w w2) := Lib.hid (HW2.out.trans hk2 (fun _ _ f => f.elim))
        clear hk2
        go_wp2_with fail
        go_roundw
        case rel => exact ⟨i, j + 1, ys, rfl, by go_num, by omega, HSY.out.drop HQ.out (beq_iff_eq.1 he), HR2.out, HK2.out⟩
        case measure => simp [intOf]; omega
      | false =>
        go_wp2_with fail
        refine (HC.out q _ HW2.out).mono ?_
        rintro e w2 ⟨rfl, hk2⟩
        rw [he]
        have hR2 := HRA.out.kept hk2 (fun f => f)
        have HK2 : Hid (Kept (fun k => k = g) w w2) := Lib.hid (HW2.out.trans hk2 (fun _ _ f => f.elim))
        have hB2 := hk2.at0 HBA.out
        have v0 : w2.cell? ⟨wr.heap.size, 0, none⟩ = some (.int .i64 q.thread) := by rw [cell_at w2 _ 0 _ _ hB2]; rfl
        have v1 : w2.cell? ⟨wr.heap.size, 1, none⟩ = some (.int .i64 q.holds) := by rw [cell_at w2 _ 1 _ _ hB2]; rfl
        have hl2 := HSY.out.len
        obtain ⟨p, hp⟩ : ∃ p, ys[i]? = some p := ⟨_, List.getElem?_eq_getElem (by rw [hl2, HN.out]; omega)⟩
        have x0 : w2.cell? ⟨g, i * 2, none⟩ = some (.int .i64 p.thread) := hR2.cell Wt.two hp (j := 0) rfl
        have x1 : w2.cell? ⟨g, i * 2 + 1, none⟩ = some (.int .i64 p.holds) := hR2.cell Wt.two hp (j := 1) rfl
        have f0 := hR2.free (i * 2)
        have f1 := hR2.free (i * 2 + 1)
        have hS1 := hR2.set Wt.two (x' := ⟨q.thread, p.holds⟩) (v := .int .i64 q.thread) hp (j := 0) (by omega) rfl
        have hp1 : (ys.set i ⟨q.thread, p.holds⟩)[i]? = some ⟨q.thread, p.holds⟩ := List.getElem?_set_self (by have := (List.getElem?_eq_some_iff.1 hp).1; exact this)
        have hS2 := hS1.set Wt.two (x' := q) (v := .int .i64 q.holds) hp1 (j := 1) (by omega) rfl
        rw [List.set_set] at hS2
        have HS2 := Lib.hid hS2
        have HK3 : Hid (Kept (fun k => k = g) w ((w2.setCell ⟨g, i * 2 + 0, none⟩ (.int .i64 q.thread)).setCell ⟨g, i * 2 + 1, none⟩ (.int .i64 q.holds))) := Lib.hid ((HK2.out.setCell _ _ (fun _ => rfl)).setCell _ _ (fun _ => rfl))
        have i3 : (i : Int) < (n : Int) := by omega
        clear hk2 hR2 hB2 hl2 hp hS1 hp1 hS2
        go_wp2_with fail
        go_roundw
        case rel => exact ⟨i + 1, j + 1, ys.set i q, by go_num, by go_num, by omega, HSY.out.keep (by rw [HN.out]; omega) HQ.out (beq_eq_false_iff_ne.1 he), HS2.out, HK3.out⟩
        case measure => simp [intOf]; omega
    · obtain rfl : j = n := by omega
      have j1 : ¬ (j : Int) < (j : Int) := by omega
      have hyl : ys.length = j := by rw [hS.len, HN.out]
      have hyf := flat_len Wt.two ys
      rw [hyl] at hyf
      have hcell : ∀ m, m < j * 2 → wr.cell? ⟨g, m, none⟩ = (flat Wt.cells ys)[m]? := fun m hm => hRy.cellF (by rw [hyl]; exact hm)
      have hsome : ∀ m, m < (j - i) * 2 → (wr.cell? ⟨g, i * 2 + m, none⟩).isSome = true := fun m hm => by
        have hm2 : i * 2 + m < j * 2 := by omega
        rw [hcell _ hm2, List.getElem?_eq_getElem (by rw [hyf]; exact hm2)]; rfl
      have hfree : ∀ o, wr.frozen? ⟨g, o, none⟩ = false := fun o => hRy.free o
      have hcl : ∀ ty, (Builtin.clear_ #[40] ty #[.slice (some ⟨g, i * 2, none⟩) (j - i) (c - i)]).run Tryz.prog wr = .ok (.tuple #[]) (wr.setCells g (i * 2) (flat Wt.cells (List.replicate (j - i) zwt))) :=
        fun ty => run_clear_wt wr ty g (i * 2) (j - i) (c - i) (by omega) hsome hfree
      have hoth : ys.take i = others t ws := by rw [hS.head]; congr 1; exact List.take_of_length_le (by rw [HN.out]; exact Nat.le_refl _)
      have hi : (others t ws).length = i := by
        have := hS.cnt
        rwa [show ws.take j = ws from List.take_of_length_le (by rw [HN.out]; exact Nat.le_refl _)] at this
      have hk2 : Kept (fun k => k = g) w (wr.setCells g (i * 2) (flat Wt.cells (List.replicate (j - i) zwt))) := Kept.setCells (S := fun k => k = g) rfl _ _ hkr
      have hfin : Elems (wr.setCells g (i * 2) (flat Wt.cells (List.replicate (j - i) zwt))) (wr.setCells g (i * 2) (flat Wt.cells (List.replicate (j - i) zwt))).heap.size (some ⟨g, 0, none⟩) 2 Wt.cells (others t ws) := by
        refine ⟨by rw [hi]; unfold maxLen; omega, fun m x hx => ⟨g, 0, rfl, by have := hk2.size; omega, fun k v hk => ?_⟩⟩
        have hk' : k < 2 := by have := (List.getElem?_eq_some_iff.1 hk).1; rw [Wt.two] at this; exact this
        have hml : m < i := by have := (List.getElem?_eq_some_iff.1 hx).1; omega
        rw [World.cell?_setCells_out g _ _ _ _ (fun _ _ => .inl (by show 0 + m * 2 + k < i * 2; omega)), Nat.zero_add]
        rw [← hoth, List.getElem?_take, if_pos hml] at hx
        exact hRy.cell Wt.two hx hk
      have HF := Lib.hid (And.intro hfin (And.intro (fun o => (by rw [World.frozen?_setCells]; exact hfree o : (wr.setCells g (i * 2) (flat Wt.cells (List.replicate (j - i) zwt))).frozen? ⟨g, o, none⟩ = false)) hk2))
      have HI := Lib.hid hi
      have m1 : ¬ c = i := by omega
      have m2 : i ≤ j := by omega
      have m3 : (i : Int) ≤ (j : Int) := by omega
      have m4 : (i : Int) ≤ (c : Int) := by omega
      have m5 : i ≤ c := by omega
      clear hS hRy hkr hyl hyf hcell hsome hfree hoth hi hk2 hfin hj
      go_wp2_with fail
      go_ret
      exact ⟨by rw [HI.out]; rfl, HF.out⟩

end Go.Proofs.YtbodlaiakcoabaaGreatDoor
end
section
set_option maxRecDepth 100000
namespace Go.Proofs.YtbodlaiakcoabaaGreatDoor
open Go.RowKit
set_option linter.unusedSimpArgs false
set_option linter.unusedVariables false

/-- A thing's block was turned, and its waiters lie in new memory. -/
def Done (W : Nat) (w : World) (b : Nat) (x : Th) (e : Ending) (w' : World) : Prop :=
  e = .returned (.tuple #[]) ∧ ∃ s c, BoxT w' b x s c ∧ NewW W w' s c x.ws ∧ Kept (fun k => k = b ∨ W ≤ k) w w'

section
variable {W : Nat} {w : World} {b c : Nat} {x : Th} {s : Option Addr}

theorem Turn.done {e : Ending} {w' : World} {y : Th} (h : Turn w b y s c e w') (hO : NewW W w s c y.ws) (hb : b < W) : Done W w b y e w' :=
  ⟨h.1, s, c, h.2.1, hO.kept h.2.2 (fun g hg e => by omega), h.2.2.mono (fun _ _ e => .inl e)⟩
theorem Done.of0 {e : Ending} {w1 w' : World} {y : Th} (hk : Kept (fun k => k = b ∨ W ≤ k) w w1) (h : Done W w1 b y e w') : Done W w b y e w' := by
  obtain ⟨h1, s, c, h2, h3, h4⟩ := h
  exact ⟨h1, s, c, h2, h3, hk.trans h4 (fun _ _ e => e)⟩

/-- The world behind the boxes of a thread and a mark. -/
theorem two_box (h : BoxT w b x s c) (t k v : Int) : ∃ W1 W2, w.alloc (.cells #[.int .i64 t] 3) = W1 ∧ W1.alloc (.cells #[.int .i64 k, .int .i64 v] 36) = W2 ∧ W1.heap.size = w.heap.size + 1 ∧ BoxT W2 b x s c ∧ BoxN W2 (w.heap.size + 1) k v ∧ W2.cell? ⟨w.heap.size, 0, none⟩ = some (.int .i64 t) ∧ Kept (fun _ => False) w W2 ∧ W2.heap.size = w.heap.size + 1 + 1 := by
  have k1 : Kept (fun _ => False) w (w.alloc (.cells #[.int .i64 t] 3)) := (Kept.refl _ w).alloc _
  have k2 : Kept (fun _ => False) (w.alloc (.cells #[.int .i64 t] 3)) ((w.alloc (.cells #[.int .i64 t] 3)).alloc (.cells #[.int .i64 k, .int .i64 v] 36)) := (Kept.refl _ _).alloc _
  have hs : (w.alloc (.cells #[.int .i64 t] 3)).heap.size = w.heap.size + 1 := by simp
  refine ⟨_, _, rfl, rfl, hs, (h.kept0 k1).kept0 k2, ?_, ?_, k1.tr0 k2, by simp⟩
  · have := BoxN.new (w.alloc (.cells #[.int .i64 t] 3)) k v
    rwa [hs] at this
  · rw [cell_at _ _ 0 _ _ (k2.at0 (heap_new1 w _))]; rfl

theorem held_1 (h : BoxT w b x s c) (hO : NewW W w s c x.ws) (hb : b < W) (hF : Fit x) (t v : Int) :
    Calls Tryz.prog 83 #[.pointer (some ⟨b, 0, none⟩), .int .i64 t, .agg #[.int .i64 1, .int .i64 v]] w (Done W w b (takeM x t v)) := by
  obtain ⟨W1, W2, hW1, hW2, hs, hT, hN, ht, hk, hs2⟩ := two_box h t 1 v
  obtain ⟨d0, d1⟩ := hN.cells
  have hw : (takeM x t v).ws = x.ws := by unfold takeM; split <;> rfl
  have HC : Hid (Calls Tryz.prog 101 #[.pointer (some ⟨b, 0, none⟩), .int .i64 t, .int .i64 v] W2 (Done W w b (takeM x t v))) :=
    Lib.hid ((take_any hT t v hF.h0 hF.h1).mono (fun e w' hd => (hd.done (hw ▸ hO.kept hk (fun _ _ f => f)) hb).of0 (hk.mono (fun _ _ f => f.elim))))
  clear h hO hT hN hk hs2 hw
  go_enter Tryz.func83, Tryz.ntmps83
  go_wp2_with fail
  refine HC.out.mono ?_
  rintro e w3 ⟨rfl, hd⟩
  have HD := Lib.hid hd; clear hd
  go_wp2_with fail
  go_end0
  exact ⟨rfl, HD.out⟩

theorem held_3 (h : BoxT w b x s c) (hO : NewW W w s c x.ws) (hb : b < W) (h0 : -2000000 ≤ x.holds) (h1 : x.holds ≤ 2000001) (t v : Int) :
    Calls Tryz.prog 83 #[.pointer (some ⟨b, 0, none⟩), .int .i64 t, .agg #[.int .i64 3, .int .i64 v]] w (Done W w b (freeM x)) := by
  obtain ⟨W1, W2, hW1, hW2, hs, hT, hN, ht, hk, hs2⟩ := two_box h t 3 v
  obtain ⟨d0, d1⟩ := hN.cells
  have hw : (freeM x).ws = x.ws := by unfold freeM; split <;> rfl
  have HC : Hid (Calls Tryz.prog 102 #[.pointer (some ⟨b, 0, none⟩)] W2 (Done W w b (freeM x))) :=
    Lib.hid ((free_any hT h0 h1).mono (fun e w' hd => (hd.done (hw ▸ hO.kept hk (fun _ _ f => f)) hb).of0 (hk.mono (fun _ _ f => f.elim))))
  clear h hO hT hN hk hs2 hw
  go_enter Tryz.func83, Tryz.ntmps83
  go_wp2_with fail
  refine HC.out.mono ?_
  rintro e w3 ⟨rfl, hd⟩
  have HD := Lib.hid hd; clear hd
  go_wp2_with fail
  go_end0
  exact ⟨rfl, HD.out⟩

set_option maxHeartbeats 1000000 in
theorem held_2 (h : BoxT w b x s c) (hO : NewW W w s c x.ws) (hb : b < W) (hF : Fit x) (t : Nat) (htl : t < 8) (v : Int) :
    Calls Tryz.prog 83 #[.pointer (some ⟨b, 0, none⟩), .int .i64 (t : Int), .agg #[.int .i64 2, .int .i64 v]] w (Done W w b { x with r := updR x.r t (x.r t + 1) }) := by
  obtain ⟨W1, W2, hW1, hW2, hs, hT, hN, ht, hk, hs2⟩ := two_box h t 2 v
  obtain ⟨d0, d1⟩ := hN.cells
  have y0 := hT.read htl
  have f0 := hT.free (4 + t)
  have e0 := hF.r0 t htl
  have e1 := hF.r1 t htl
  have z0 : -2000001 ≤ x.r t + 1 := by omega
  have z1 : x.r t + 1 ≤ 2000001 := by omega
  have z2 : (t : Int) < 8 := by omega
  have HD : Hid (Done W w b { x with r := updR x.r t (x.r t + 1) } (.returned (.tuple #[])) (W2.drew.setCell ⟨b, 4 + t, none⟩ (.int .i64 (x.r t + 1)))) :=
    Lib.hid ⟨rfl, s, c, hT.drewB.setR htl _, (hO.kept hk (fun _ _ f => f)).kept ((Kept.one b W2).drew.sB _ _) (fun g hg e => by omega), (hk.mono (fun _ _ f => f.elim)).trans ((Kept.one b W2).drew.sB _ _) (fun _ _ e => .inl e)⟩
  clear h hO hT hN hk hs2 hF e0 e1
  go_enter Tryz.func83, Tryz.ntmps83
  go_wp2_with fail
  go_still_tail 10, (by kernel_rfl)
  change wpList _ _ _ _ _ W2.drew
  go_wp2_with fail
  go_end0
  exact HD.out

set_option maxHeartbeats 1000000 in
theorem held_4 (h : BoxT w b x s c) (hO : NewW W w s c x.ws) (hb : b < W) (h0 : ∀ i, i < 8 → -2000000 ≤ x.r i) (h1 : ∀ i, i < 8 → x.r i ≤ 2000001) (t : Nat) (htl : t < 8) (v : Int) :
    Calls Tryz.prog 83 #[.pointer (some ⟨b, 0, none⟩), .int .i64 (t : Int), .agg #[.int .i64 4, .int .i64 v]] w (Done W w b { x with r := updR x.r t (x.r t - 1) }) := by
  obtain ⟨W1, W2, hW1, hW2, hs, hT, hN, ht, hk, hs2⟩ := two_box h t 4 v
  obtain ⟨d0, d1⟩ := hN.cells
  have y0 := hT.read htl
  have f0 := hT.free (4 + t)
  have e0 := h0 t htl
  have e1 := h1 t htl
  have z0 : -2000001 ≤ x.r t - 1 := by omega
  have z1 : x.r t - 1 ≤ 2000001 := by omega
  have z2 : (t : Int) < 8 := by omega
  have HD : Hid (Done W w b { x with r := updR x.r t (x.r t - 1) } (.returned (.tuple #[])) (W2.drew.setCell ⟨b, 4 + t, none⟩ (.int .i64 (x.r t - 1)))) :=
    Lib.hid ⟨rfl, s, c, hT.drewB.setR htl _, (hO.kept hk (fun _ _ f => f)).kept ((Kept.one b W2).drew.sB _ _) (fun g hg e => by omega), (hk.mono (fun _ _ f => f.elim)).trans ((Kept.one b W2).drew.sB _ _) (fun _ _ e => .inl e)⟩
  clear h hO hT hN hk hs2 h0 h1 e0 e1
  go_enter Tryz.func83, Tryz.ntmps83
  go_wp2_with fail
  go_still_tail 10, (by kernel_rfl)
  change wpList _ _ _ _ _ W2.drew
  go_wp2_with fail
  go_end0
  exact HD.out

theorem held_no (h : BoxT w b x s c) (hO : NewW W w s c x.ws) (hb : b < W) (t k v : Int) (hn : k ≠ 1 ∧ k ≠ 3 ∧ k ≠ 2 ∧ k ≠ 4 ∧ k ≠ 10 ∧ k ≠ 11 ∧ k ≠ 13) :
    Calls Tryz.prog 83 #[.pointer (some ⟨b, 0, none⟩), .int .i64 t, .agg #[.int .i64 k, .int .i64 v]] w (Done W w b x) := by
  obtain ⟨W1, W2, hW1, hW2, hs, hT, hN, ht, hk, hs2⟩ := two_box h t k v
  obtain ⟨d0, d1⟩ := hN.cells
  obtain ⟨n1, n3, n2, n4, n10, n11, n13⟩ := hn
  have HD : Hid (Done W w b x (.returned (.tuple #[])) W2) := Lib.hid ⟨rfl, s, c, hT, hO.kept hk (fun _ _ f => f), hk.mono (fun _ _ f => f.elim)⟩
  clear h hO hT hN hk hs2
  go_enter Tryz.func83, Tryz.ntmps83
  go_wp2_with fail
  go_end0
  exact HD.out

end
end Go.Proofs.YtbodlaiakcoabaaGreatDoor
end
section
set_option maxRecDepth 100000
namespace Go.Proofs.YtbodlaiakcoabaaGreatDoor
open Go.RowKit
set_option linter.unusedSimpArgs false
set_option linter.unusedVariables false

section
variable {W : Nat} {w : World} {b c : Nat} {x : Th} {s : Option Addr}

set_option maxHeartbeats 1000000 in
theorem held_11 (h : BoxT w b x s c) (hO : OwnW W w s c x.ws) (hb : b < W) (hl : x.ws.length ≤ 200) (hne : x.ws ≠ []) (t v : Int) :
    Calls Tryz.prog 83 #[.pointer (some ⟨b, 0, none⟩), .int .i64 t, .agg #[.int .i64 11, .int .i64 v]] w (Done W w b { x with ws := x.ws.tail }) := by
  obtain ⟨W1, W2, hW1, hW2, hs, hT, hN, ht, hk, hs2⟩ := two_box h t 11 v
  obtain ⟨d0, d1⟩ := hN.cells
  obtain ⟨g, rfl, hg1, hg2, hg3, hR⟩ := (hO.kept hk (fun _ _ f => f)).row hne
  obtain ⟨q, l, hws⟩ : ∃ q l, x.ws = q :: l := by
    cases hx : x.ws with
    | nil => exact absurd hx hne
    | cons q l => exact ⟨q, l, rfl⟩
  have hlen : x.ws.length = l.length + 1 := by rw [hws]; rfl
  have c12 := hT.cells.c12
  have HX : Hid (∀ w', Kept (fun k => k = g) W2 w' → w'.cell? ⟨b, 12, none⟩ = some (.slice (some ⟨g, 0, none⟩) (l.length + 1) c) ∧ w'.frozen? ⟨b, 12, none⟩ = false ∧ BoxT w' b x (some ⟨g, 0, none⟩) c) := Lib.hid (fun w' hk' => by
    have hB := hT.kept hk' (by omega)
    have := hB.cells.c12
    rw [hlen] at this
    exact ⟨this, hB.free 12, hB⟩)
  have HC := Lib.hid (delete_any q l l.length rfl (by omega) g c W2 (by omega) (hws ▸ hR))
  rw [hlen] at c12
  have f12 := hT.free 12
  have HK := Lib.hid hk
  have HT2 : Hid (({ x with ws := x.ws.tail } : Th) = { x with ws := l }) := Lib.hid (by rw [hws]; rfl)
  clear h hO hT hN hk hs2 hR hws hlen hne
  rw [HT2.out]
  go_enter Tryz.func83, Tryz.ntmps83
  go_wp2_with fail
  refine HC.out.mono ?_
  rintro e w3 ⟨rfl, hE, hF, hk3⟩
  obtain ⟨x0, x1, hB⟩ := HX.out w3 hk3
  have HD : Hid (Done W w b { x with ws := l } (.returned (.tuple #[])) (w3.setCell ⟨b, 12, none⟩ (.slice (some ⟨g, 0, none⟩) l.length c))) :=
    Lib.hid ⟨rfl, some ⟨g, 0, none⟩, c, hB.setWs _ _ _, (NewW.mk hE (fun _ => ⟨g, rfl, hg1, by have := hk3.size; omega, hF⟩) : NewW W w3 (some ⟨g, 0, none⟩) c l).kept ((Kept.one b w3).sB _ _) (fun g hg e => by omega),
      ((HK.out.mono (fun _ _ f => f.elim)).trans (hk3.mono (fun k _ e => .inr (by omega))) (fun _ _ e => e)).setCell _ _ (fun _ => .inl rfl)⟩
  clear hE hF hk3 hB
  go_wp2_with fail
  go_end0
  exact HD.out

set_option maxHeartbeats 1000000 in
theorem held_13 (h : BoxT w b x s c) (hO : OwnW W w s c x.ws) (hb : b < W) (hl : x.ws.length ≤ 200) (t v : Int) (hne : waitsM x.ws t = true) :
    Calls Tryz.prog 83 #[.pointer (some ⟨b, 0, none⟩), .int .i64 t, .agg #[.int .i64 13, .int .i64 v]] w (Done W w b { x with ws := others t x.ws }) := by
  obtain ⟨W1, W2, hW1, hW2, hs, hT, hN, ht, hk, hs2⟩ := two_box h t 13 v
  obtain ⟨d0, d1⟩ := hN.cells
  obtain ⟨g, rfl, hg1, hg2, hg3, hR⟩ := (hO.kept hk (fun _ _ f => f)).row (fun e => by rw [e] at hne; cases hne)
  have hg0 : g < w.heap.size := by
    obtain ⟨g', e, _, h4, _⟩ := hO.row (fun e => by rw [e] at hne; cases hne)
    simp only [Option.some.injEq, Addr.mk.injEq, and_true] at e
    omega
  have c12 := hT.cells.c12
  have f12 := hT.free 12
  have HX : Hid (∀ w', Kept (fun k => k = g) W2 w' → w'.cell? ⟨b, 12, none⟩ = some (.slice (some ⟨g, 0, none⟩) x.ws.length c) ∧ w'.frozen? ⟨b, 12, none⟩ = false ∧ BoxT w' b x (some ⟨g, 0, none⟩) c) := Lib.hid (fun w' hk' => by
    have hB := hT.kept hk' (by omega)
    exact ⟨hB.cells.c12, hB.free 12, hB⟩)
  have HC := Lib.hid (strike_any x.ws x.ws.length rfl hl t w.heap.size g c W2 ht (by omega) hg3 hR hne)
  have HK := Lib.hid hk
  clear h hO hT hN hk hs2 hR hne
  go_enter Tryz.func83, Tryz.ntmps83
  go_wp2_with fail
  refine HC.out.mono ?_
  rintro e w3 ⟨rfl, hE, hF, hk3⟩
  obtain ⟨x0, x1, hB⟩ := HX.out w3 hk3
  have HD : Hid (Done W w b { x with ws := others t x.ws } (.returned (.tuple #[])) (w3.setCell ⟨b, 12, none⟩ (.slice (some ⟨g, 0, none⟩) (others t x.ws).length c))) :=
    Lib.hid ⟨rfl, some ⟨g, 0, none⟩, c, hB.setWs _ _ _, (NewW.mk hE (fun _ => ⟨g, rfl, hg1, by have := hk3.size; omega, hF⟩) : NewW W w3 (some ⟨g, 0, none⟩) c (others t x.ws)).kept ((Kept.one b w3).sB _ _) (fun g hg e => by omega),
      ((HK.out.mono (fun _ _ f => f.elim)).trans (hk3.mono (fun k _ e => .inr (by omega))) (fun _ _ e => e)).setCell _ _ (fun _ => .inl rfl)⟩
  clear hE hF hk3 hB
  go_wp2_with fail
  go_end0
  exact HD.out

set_option maxRecDepth 100000 in
set_option maxHeartbeats 2000000 in
theorem held_10 (h : BoxT w b x s c) (hO : OwnW W w s c x.ws) (hb : b < W) (hW : W ≤ w.heap.size) (hl : x.ws.length ≤ 200) (t v : Int) :
    Calls Tryz.prog 83 #[.pointer (some ⟨b, 0, none⟩), .int .i64 t, .agg #[.int .i64 10, .int .i64 v]] w (Done W w b { x with ws := x.ws ++ [⟨t, x.holds⟩], owner := -1, holds := 0 }) := by
  obtain ⟨i2, hi2, hz2, hn2, hb2⟩ := info_parts info_wt
  have HI := Lib.hid hi2; clear hi2
  have HZ := Lib.hid hz2; clear hz2
  have HN2 := Lib.hid hn2; clear hn2
  have HBY := Lib.hid hb2; clear hb2
  obtain ⟨W1, W2, hW1, hW2, hs, hT, hN, ht, hk, hs2⟩ := two_box h t 10 v
  obtain ⟨d0, d1⟩ := hN.cells
  have c3 := hT.cells.c3
  have c12 := hT.cells.c12
  have f12 := hT.free 12
  have hlt := hT.lt
  have HOWN : Hid (W2.ownsRow W 78 2 (.slice s x.ws.length c) x.ws.length (flat Wt.cells x.ws)) := Lib.hid (hO.kept hk (fun _ _ f => f))
  have HEL : Hid (Elems (W2.alloc (.cells #[.int .i64 t, .int .i64 x.holds] 78)).drew (W2.heap.size + 1) (some ⟨W2.heap.size, 0, none⟩) 2 Wt.cells [⟨t, x.holds⟩]) :=
    Lib.hid (Elems.block (f := Wt.cells) (xs := [⟨t, x.holds⟩]) Wt.two (heap_new1 W2 (.cells #[.int .i64 t, .int .i64 x.holds] 78)) rfl (by show 1 ≤ maxLen; decide))
  have hrow : ∀ g, (Value.slice s x.ws.length c).ownBlock = some g → W ≤ g ∧ g < w.heap.size := fun g e => World.ownsRow.lt hO g e
  have HB3 : Hid (∀ w1 w3, Kept (fun _ => False) W2 w1 → w1.grownBy w3 (Value.slice s x.ws.length c).ownBlock → BoxT w3 b x s c) := Lib.hid (fun w1 w3 hk1 hg => by
    have hk3 : Kept (fun g => (Value.slice s x.ws.length c).ownBlock = some g) W2 w3 := (hk1.mono (fun _ _ f => f.elim)).grown hg (fun g _ e => e)
    exact hT.kept hk3 (fun e => by have := hrow b e; omega))
  have HSL : Hid (∀ w1 w3, Kept (fun _ => False) W2 w1 → w1.grownBy w3 (Value.slice s x.ws.length c).ownBlock → w3.frozen? ⟨b, 12, none⟩ = false ∧ w3.cell? ⟨b, 12, none⟩ = some (.slice s x.ws.length c) ∧ w3.frozen? ⟨b, 2, none⟩ = false ∧ w3.cell? ⟨b, 2, none⟩ = some (.int .i64 x.owner) ∧ w3.frozen? ⟨b, 3, none⟩ = false ∧ w3.cell? ⟨b, 3, none⟩ = some (.int .i64 x.holds)) := Lib.hid (fun w1 w3 hk1 hg => by
    have hB := HB3.out w1 w3 hk1 hg
    exact ⟨hB.free 12, hB.cells.c12, hB.free 2, hB.cells.c2, hB.free 3, hB.cells.c3⟩)
  have MO : Hid (∀ w1 w3 v', Kept (fun _ => False) W2 w1 → w3.ownsRow W 78 2 v' (x.ws.length + 1) (flat Wt.cells x.ws ++ flat Wt.cells [⟨t, x.holds⟩]) → w1.grownBy w3 (Value.slice s x.ws.length c).ownBlock → ∃ s' c', v' = .slice s' (x.ws.length + 1) c' ∧
      Done W w b { x with ws := x.ws ++ [⟨t, x.holds⟩], owner := -1, holds := 0 } (.returned (.tuple #[])) (((w3.setCell ⟨b, 12, none⟩ v').setCell ⟨b, 2, none⟩ (.int .i64 (-1))).setCell ⟨b, 3, none⟩ (.int .i64 0))) := Lib.hid (fun w1 w3 v' hk1 g1 g2 => by
    have hB := HB3.out w1 w3 hk1 g2
    have hl2 : (x.ws ++ [(⟨t, x.holds⟩ : Wt)]).length = x.ws.length + 1 := by simp
    rw [show flat Wt.cells x.ws ++ flat Wt.cells [⟨t, x.holds⟩] = flat Wt.cells (x.ws ++ [⟨t, x.holds⟩]) from by simp [flat]] at g1
    obtain ⟨s', c', rfl, _⟩ := Made.of_own Wt.two g1 hl2.symm (by rw [hl2]; unfold maxLen; omega)
    rw [hl2] at g1 ⊢
    have hO3 : OwnW W w3 s' c' (x.ws ++ [⟨t, x.holds⟩]) := by unfold OwnW; rw [hl2]; exact g1
    have hB4 := hB.setWs s' c' (x.ws ++ [⟨t, x.holds⟩])
    rw [hl2] at hB4
    have hk4 : Kept (fun k => k = b) w3 (((w3.setCell ⟨b, 12, none⟩ (.slice s' (x.ws.length + 1) c')).setCell ⟨b, 2, none⟩ (.int .i64 (-1))).setCell ⟨b, 3, none⟩ (.int .i64 0)) := (((Kept.one b w3).sB _ _).sB _ _).sB _ _
    have hk3 : Kept (fun k => k = b ∨ W ≤ k) W2 w3 := (hk1.mono (fun _ _ f => f.elim)).grown g2 (fun g _ e => .inr (hrow g e).1)
    exact ⟨s', c', rfl, rfl, s', c', (hB4.setOwner (-1)).setHolds 0, (hO3.new (by rw [hl2]; unfold maxLen; omega)).kept hk4 (fun g hg e => by omega), ((hk.mono (fun _ _ f => f.elim)).trans hk3 (fun _ _ e => e)).trans hk4 (fun _ _ e => .inl e)⟩)
  have hn1 : x.ws.length + 1 ≤ 201 := by omega
  have hWs : W ≤ W2.heap.size := by omega
  clear h hO hT hN hk hrow HB3 hs2
  go_enter Tryz.func83, Tryz.ntmps83
  go_wp2_with fail
  go_region_law (refine step_append_elems (ys := [⟨t, x.holds⟩]) _ (by rfl) _ _ _ (by rfl) W 78 i2 (.agg #[.int .i64 0, .int .i64 0]) 2 16 Tryz.underlying40 HI.out HZ.out HN2.out HBY.out rfl (by decide) Wt.two (wt_cell _) (.slice s x.ws.length c) x.ws.length (flat Wt.cells x.ws) (by rfl) (by exact (HOWN.out.drew).alloc _) (W2.heap.size + 1) _ 1 (by rfl) (by exact HEL.out) (by show x.ws.length + 1 ≤ maxLen; unfold maxLen; omega) (by show (x.ws.length + 1) * 16 ≤ _; omega) (by simp; omega) ?_; intro v' w3 g1 g2 g3; obtain ⟨f53, c53, f2, c2, f3, c3'⟩ := HSL.out _ _ (((Kept.refl _ _).alloc _).drew) g2; obtain ⟨s', c', rfl, hd⟩ := MO.out _ _ _ (((Kept.refl _ _).alloc _).drew) g1 g2; have HD := Lib.hid hd; clear hd)
  all_goals
    clear g1 g2 g3
    go_wp2_with fail
    go_end0
    exact HD.out

end
end Go.Proofs.YtbodlaiakcoabaaGreatDoor
end
