/-
  slices.DeleteFunc at waiters: one thread's are struck.
  Conditions: the row is the call's own, of 200 at most; the thread is among them.
-/
import Derived.Test.YthjblniabnjfhaaModDel
import Derived.Test.YthjblniabnjfhaaModWait
namespace Go.Proofs.Ythjblniabnjfhaa
open Go.RowKit
set_option linter.unusedSimpArgs false

/-- The others. -/
def others (t : Int) (ws : List Wt) : List Wt := ws.filter (fun q => q.thread != t)
theorem others_take (t : Int) (ws : List Wt) (j : Nat) (q : Wt) (h : ws[j]? = some q) : others t (ws.take (j + 1)) = others t (ws.take j) ++ (if q.thread = t then [] else [q]) := by
  unfold others
  rw [List.take_add_one, h, Option.toList_some, List.filter_append]
  congr 1
  by_cases e : q.thread = t
  · rw [if_pos e, List.filter_cons_of_neg (by simp [e])]; rfl
  · rw [if_neg e, List.filter_cons_of_pos (by simp [e])]; rfl
theorem firstAt_lt {t : Int} : ∀ {ws : List Wt} {k : Nat}, firstAt t ws = some k → k < ws.length ∧ others t (ws.take (k + 1)) = ws.take k ∧ (others t (ws.take (k + 1))).length = k
  | [], k, h => by simp [firstAt] at h
  | q :: ws, k, h => by
    unfold firstAt at h
    split at h
    · rename_i e
      simp only [Option.some.injEq] at h
      subst h
      simp [others, e]
    · rename_i e
      cases hf : firstAt t ws with
      | none => rw [hf] at h; simp at h
      | some i =>
        rw [hf] at h
        simp only [Option.map_some, Option.some.injEq] at h
        subst h
        obtain ⟨h1, h2, h3⟩ := firstAt_lt (ws := ws) hf
        refine ⟨by simp; omega, ?_, ?_⟩
        · rw [List.take_succ_cons, List.take_succ_cons]
          unfold others at h2 ⊢
          rw [List.filter_cons_of_pos (by simp [e]), h2]
        · rw [List.take_succ_cons]
          unfold others at h3 ⊢
          rw [List.filter_cons_of_pos (by simp [e]), List.length_cons, h3]

/-- How the row stands when j of them were looked at. -/
structure Struck (t : Int) (ws ys : List Wt) (i j : Nat) : Prop where
  len : ys.length = ws.length
  head : ys.take i = others t (ws.take j)
  cnt : (others t (ws.take j)).length = i
  rest : ∀ m, j ≤ m → ys[m]? = ws[m]?
  lt : i < j
theorem Struck.keep {t : Int} {ws ys : List Wt} {i j : Nat} {q : Wt} (h : Struck t ws ys i j) (hj : j < ws.length) (hq : ws[j]? = some q) (he : q.thread ≠ t) : Struck t ws (ys.set i q) (i + 1) (j + 1) := by
  have hi := h.lt
  have hl := h.len
  have ho := others_take t ws j q hq
  rw [if_neg he] at ho
  refine ⟨by rw [List.length_set, hl], ?_, by rw [ho, List.length_append, h.cnt]; rfl, fun m hm => ?_, by omega⟩
  · rw [ho, ← h.head, List.take_add_one, List.getElem?_set_self (by omega), List.take_set_of_le (Nat.le_refl _)]; rfl
  · rw [List.getElem?_set_ne (by omega)]; exact h.rest m (by omega)
theorem Struck.drop {t : Int} {ws ys : List Wt} {i j : Nat} {q : Wt} (h : Struck t ws ys i j) (hq : ws[j]? = some q) (he : q.thread = t) : Struck t ws ys i (j + 1) := by
  have ho := others_take t ws j q hq
  rw [if_pos he, List.append_nil] at ho
  exact ⟨h.len, by rw [ho]; exact h.head, by rw [ho]; exact h.cnt, fun m hm => h.rest m (by omega), by have := h.lt; omega⟩

set_option maxHeartbeats 4000000 in
theorem strike_any (ws : List Wt) (n : Nat) (hn : ws.length = n) (hl : n ≤ 200) (t : Int) (B g c : Nat) (w : World) (hB : w.cell? ⟨B, 0, none⟩ = some (.int .i64 t)) (hBg : B ≠ g) (hc : n ≤ c) (hR : Row w g c 44 2 Wt.cells ws) (hw : waitsM ws t = true) :
    Calls Try.prog 50 #[.slice (some ⟨g, 0, none⟩) n c, .func (.func 51) #[] #[.pointer (some ⟨B, 0, none⟩)]] w fun e w' => e = .returned (.slice (some ⟨g, 0, none⟩) (others t ws).length c) ∧ Elems w' w'.heap.size (some ⟨g, 0, none⟩) 2 Wt.cells (others t ws) ∧ (∀ o, w'.frozen? ⟨g, o, none⟩ = false) ∧ Kept (fun k => k = g) w w' := by
  have hBl := World.block_lt_of_cell? w _ hB
  have hgl := hR.lt
  obtain ⟨k0, hk0⟩ : ∃ k0, firstAt t ws = some k0 := by
    rw [waits_first] at hw
    exact Option.isSome_iff_exists.1 hw
  obtain ⟨hk1, hk2, hk3⟩ := firstAt_lt hk0
  have HIX := idx_cancel ws n hn hl t B w.heap.size (some ⟨g, 0, none⟩) c w hB ((Elems.of_row Wt.two hR (by rw [hn]; unfold maxLen; omega)).more hgl) (Nat.le_refl _)
  rw [hk0] at HIX
  have HIX := Lib.hid HIX
  have HC : Hid (∀ (q : Wt) W', Kept (fun k => k = g) w W' → Calls Try.prog 51 #[q.agg, .pointer (some ⟨B, 0, none⟩)] W' fun e w' => e = .returned (.bool (q.thread == t)) ∧ Kept (fun _ => False) W' w') :=
    Lib.hid (fun q W' hk => clo_cancel q t B W' ((hk.cell (p := ⟨B, 0, none⟩) hBl hBg).trans hB))
  have HS0 : Hid (Struck t ws ws k0 (k0 + 1)) := Lib.hid ⟨rfl, hk2.symm, hk3, fun m _ => rfl, by omega⟩
  have HR := Lib.hid hR
  have HN := Lib.hid hn
  have k1 : k0 < n := by omega
  have k2 : (k0 : Int) + 1 ≤ 201 := by omega
  have k3 : ((k0 : Int) == -1) = false := by rw [beq_eq_false_iff_ne]; omega
  clear hB hR hw hk0 hk1 hk2 hk3 hn
  go_enter Try.func50, Try.ntmps50
  go_wp2_with fail
  refine (HIX.out).mono ?_
  rintro e w1 ⟨rfl, hkk⟩
  have HR1 := Lib.hid (HR.out.kept hkk (fun f => f))
  have HK1 : Hid (Kept (fun k => k = g) w w1) := Lib.hid (hkk.mono (fun _ _ f => f.elim))
  clear hkk
  rw [show atI (some k0) = (k0 : Int) from rfl]
  go_wp2_with fail
  go_loopw [5, 6] (fun i j wr => ∃ (i' j' : Nat) (ys : List Wt), i = .int .i64 i' ∧ j = .int .i64 j' ∧ j' ≤ n ∧ Struck t ws ys i' j' ∧ Row wr g c 44 2 Wt.cells ys ∧ Kept (fun k => k = g) w wr) (fun _ j _ => n - (intOf j).toNat)
  case atStart => exact ⟨k0, k0 + 1, ws, rfl, by go_num, by omega, HS0.out, HR1.out, HK1.out⟩
  case round =>
    obtain ⟨i, j, ys, rfl, rfl, hjn, hS, hRy, hkr⟩ := hrel
    have HSY := Lib.hid hS
    have HRY := Lib.hid hRy
    have HKR := Lib.hid hkr
    have hij := hS.lt
    by_cases hj : j < n
    · obtain ⟨q, hq⟩ : ∃ q, ws[j]? = some q := ⟨_, List.getElem?_eq_getElem (by rw [HN.out]; exact hj)⟩
      have hyq : ys[j]? = some q := by rw [hS.rest j (Nat.le_refl _)]; exact hq
      have y0 : wr.cell? ⟨g, j * 2, none⟩ = some (.int .i64 q.thread) := hRy.cell Wt.two hyq (j := 0) rfl
      have y1 : wr.cell? ⟨g, j * 2 + 1, none⟩ = some (.int .i64 q.holds) := hRy.cell Wt.two hyq (j := 1) rfl
      have HQ := Lib.hid hq
      have j1 : (j : Int) < (n : Int) := by omega
      have j2 : (j : Int) + 1 ≤ 201 := by omega
      have i2 : (i : Int) + 1 ≤ 201 := by omega
      clear hS hRy hkr hq hyq hj
      have HW2 : Hid (Kept (fun k => k = g) w (wr.alloc (.cells #[.int .i64 q.thread, .int .i64 q.holds] 44))) := Lib.hid (HKR.out.alloc _)
      have HRA : Hid (Row (wr.alloc (.cells #[.int .i64 q.thread, .int .i64 q.holds] 44)) g c 44 2 Wt.cells ys) := Lib.hid (HRY.out.kept ((Kept.refl (fun _ => False) wr).alloc _) (fun f => f))
      have HBA : Hid ((wr.alloc (.cells #[.int .i64 q.thread, .int .i64 q.holds] 44)).heap[wr.heap.size]? = some (.cells #[.int .i64 q.thread, .int .i64 q.holds] 44 (0, 0))) := Lib.hid (heap_new1 wr _)
      cases he : (q.thread == t) with
      | true =>
        go_wp2_with fail
        refine (HC.out q _ HW2.out).mono ?_
        rintro e w2 ⟨rfl, hk2⟩
        rw [he]
        have HR2 := Lib.hid (HRA.out.kept hk2 (fun f => f))
        have HK2 : Hid (Kept (fun k => k = g) w w2) := Lib.hid (HW2.out.trans hk2 (fun _ _ f => f.elim))
        clear hk2
        go_wp2_with fail
        go_roundw
        case rel => exact ⟨i, j + 1, ys, rfl, by go_num, by omega, HSY.out.drop HQ.out (beq_iff_eq.1 he), HR2.out, HK2.out⟩
        case measure => simp [intOf]; omega
      | false =>
        go_wp2_with fail
        refine (HC.out q _ HW2.out).mono ?_
        rintro e w2 ⟨rfl, hk2⟩
        rw [he]
        have hR2 := HRA.out.kept hk2 (fun f => f)
        have HK2 : Hid (Kept (fun k => k = g) w w2) := Lib.hid (HW2.out.trans hk2 (fun _ _ f => f.elim))
        have hB2 := hk2.at0 HBA.out
        have v0 : w2.cell? ⟨wr.heap.size, 0, none⟩ = some (.int .i64 q.thread) := by rw [cell_at w2 _ 0 _ _ hB2]; rfl
        have v1 : w2.cell? ⟨wr.heap.size, 1, none⟩ = some (.int .i64 q.holds) := by rw [cell_at w2 _ 1 _ _ hB2]; rfl
        have hl2 := HSY.out.len
        obtain ⟨p, hp⟩ : ∃ p, ys[i]? = some p := ⟨_, List.getElem?_eq_getElem (by rw [hl2, HN.out]; omega)⟩
        have x0 : w2.cell? ⟨g, i * 2, none⟩ = some (.int .i64 p.thread) := hR2.cell Wt.two hp (j := 0) rfl
        have x1 : w2.cell? ⟨g, i * 2 + 1, none⟩ = some (.int .i64 p.holds) := hR2.cell Wt.two hp (j := 1) rfl
        have f0 := hR2.free (i * 2)
        have f1 := hR2.free (i * 2 + 1)
        have hS1 := hR2.set Wt.two (x' := ⟨q.thread, p.holds⟩) (v := .int .i64 q.thread) hp (j := 0) (by omega) rfl
        have hp1 : (ys.set i ⟨q.thread, p.holds⟩)[i]? = some ⟨q.thread, p.holds⟩ := List.getElem?_set_self (by have := (List.getElem?_eq_some_iff.1 hp).1; exact this)
        have hS2 := hS1.set Wt.two (x' := q) (v := .int .i64 q.holds) hp1 (j := 1) (by omega) rfl
        rw [List.set_set] at hS2
        have HS2 := Lib.hid hS2
        have HK3 : Hid (Kept (fun k => k = g) w ((w2.setCell ⟨g, i * 2 + 0, none⟩ (.int .i64 q.thread)).setCell ⟨g, i * 2 + 1, none⟩ (.int .i64 q.holds))) := Lib.hid ((HK2.out.setCell _ _ (fun _ => rfl)).setCell _ _ (fun _ => rfl))
        have i3 : (i : Int) < (n : Int) := by omega
        clear hk2 hR2 hB2 hl2 hp hS1 hp1 hS2
        go_wp2_with fail
        go_roundw
        case rel => exact ⟨i + 1, j + 1, ys.set i q, by go_num, by go_num, by omega, HSY.out.keep (by rw [HN.out]; omega) HQ.out (beq_eq_false_iff_ne.1 he), HS2.out, HK3.out⟩
        case measure => simp [intOf]; omega
    · obtain rfl : j = n := by omega
      have j1 : ¬ (j : Int) < (j : Int) := by omega
      have hyl : ys.length = j := by rw [hS.len, HN.out]
      have hyf := flat_len Wt.two ys
      rw [hyl] at hyf
      have hcell : ∀ m, m < j * 2 → wr.cell? ⟨g, m, none⟩ = (flat Wt.cells ys)[m]? := fun m hm => hRy.cellF (by rw [hyl]; exact hm)
      have hsome : ∀ m, m < (j - i) * 2 → (wr.cell? ⟨g, i * 2 + m, none⟩).isSome = true := fun m hm => by
        have hm2 : i * 2 + m < j * 2 := by omega
        rw [hcell _ hm2, List.getElem?_eq_getElem (by rw [hyf]; exact hm2)]; rfl
      have hfree : ∀ o, wr.frozen? ⟨g, o, none⟩ = false := fun o => hRy.free o
      have hcl : ∀ ty, (Builtin.clear_ #[25] ty #[.slice (some ⟨g, i * 2, none⟩) (j - i) (c - i)]).run Try.prog wr = .ok (.tuple #[]) (wr.setCells g (i * 2) (flat Wt.cells (List.replicate (j - i) zwt))) :=
        fun ty => run_clear_wt wr ty g (i * 2) (j - i) (c - i) (by omega) hsome hfree
      have hoth : ys.take i = others t ws := by rw [hS.head]; congr 1; exact List.take_of_length_le (by rw [HN.out]; exact Nat.le_refl _)
      have hi : (others t ws).length = i := by
        have := hS.cnt
        rwa [show ws.take j = ws from List.take_of_length_le (by rw [HN.out]; exact Nat.le_refl _)] at this
      have hk2 : Kept (fun k => k = g) w (wr.setCells g (i * 2) (flat Wt.cells (List.replicate (j - i) zwt))) := Kept.setCells (S := fun k => k = g) rfl _ _ hkr
      have hfin : Elems (wr.setCells g (i * 2) (flat Wt.cells (List.replicate (j - i) zwt))) (wr.setCells g (i * 2) (flat Wt.cells (List.replicate (j - i) zwt))).heap.size (some ⟨g, 0, none⟩) 2 Wt.cells (others t ws) := by
        refine ⟨by rw [hi]; unfold maxLen; omega, fun m x hx => ⟨g, 0, rfl, by have := hk2.size; omega, fun k v hk => ?_⟩⟩
        have hk' : k < 2 := by have := (List.getElem?_eq_some_iff.1 hk).1; rw [Wt.two] at this; exact this
        have hml : m < i := by have := (List.getElem?_eq_some_iff.1 hx).1; omega
        rw [World.cell?_setCells_out g _ _ _ _ (fun _ _ => .inl (by show 0 + m * 2 + k < i * 2; omega)), Nat.zero_add]
        rw [← hoth, List.getElem?_take, if_pos hml] at hx
        exact hRy.cell Wt.two hx hk
      have HF := Lib.hid (And.intro hfin (And.intro (fun o => (by rw [World.frozen?_setCells]; exact hfree o : (wr.setCells g (i * 2) (flat Wt.cells (List.replicate (j - i) zwt))).frozen? ⟨g, o, none⟩ = false)) hk2))
      have HI := Lib.hid hi
      have m1 : ¬ c = i := by omega
      have m2 : i ≤ j := by omega
      have m3 : (i : Int) ≤ (j : Int) := by omega
      have m4 : (i : Int) ≤ (c : Int) := by omega
      have m5 : i ≤ c := by omega
      clear hS hRy hkr hyl hyf hcell hsome hfree hoth hi hk2 hfin hj
      go_wp2_with fail
      go_ret
      exact ⟨by rw [HI.out]; rfl, HF.out⟩

end Go.Proofs.Ythjblniabnjfhaa
