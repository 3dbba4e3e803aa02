/-
  Rows in memory: someBegins and someComes.
  Conditions: the rows lie in blocks that nothing writes, the marks in a block that a look doesn't write.
  The rows of calls that wait, of a Latch and of a Swap: what waiting, latchRows and swapRows lay.
  Conditions: the colours fit the world.
  The rows of a Lock's Wait: what waitRows lays, with the variable that its two closures share.
  Conditions: the colours fit the world; the variable gets the colour 4.
-/
import Derived.Test.YtbodlaiakcoabaaGreatDoorRepTo
import Derived.Test.YtbodlaiakcoabaaGreatDoorGrow
import Derived.Test.YtbodlaiakcoabaaGreatDoorScrOwn
import Derived.Laws.OwnMore
import Derived.Deep.RegionHeld3
import Derived.Deep.RegionWith
section
namespace Go.Proofs.YtbodlaiakcoabaaGreatDoor
open Go.RowKit
set_option linter.unusedSimpArgs false
set_option maxRecDepth 100000

/-- A row in memory: its look, its results. -/
structure Rc where
  f : Nat
  c : Array Value
  g : Nat
  d : Array Value
def Rc.cells (x : Rc) : List Value := [.func (.func x.f) #[] x.c, .func (.func x.g) #[] x.d]
@[reducible] def Rc.agg (x : Rc) : Value := .agg #[.func (.func x.f) #[] x.c, .func (.func x.g) #[] x.d]
structure RowsIn (κ : Nat → Nat) (w : World) (s : Option Addr) (xs : List Rc) (rs : List Rw) : Prop where
  row : ElemsQ (fun g => κ g = 0) w s 2 Rc.cells xs
  len : xs.length = rs.length
  look : ∀ (i : Nat) (x : Rc) (r : Rw), xs[i]? = some x → rs[i]? = some r → Looks κ w x.f x.c r.look
  come : ∀ (i : Nat) (x : Rc) (r : Rw), xs[i]? = some x → rs[i]? = some r → Comes κ w x.g x.d r.to
theorem RowsIn.lat {κ κ' : Nat → Nat} {w w' : World} {s : Option Addr} {xs : List Rc} {rs : List Rw} (h : RowsIn κ w s xs rs) (k : Lat κ κ' w w') : RowsIn κ' w' s xs rs :=
  ⟨h.row.lat k, h.len, fun i x r a b => (h.look i x r a b).lat k, fun i x r a b => (h.come i x r a b).lat k⟩
theorem rc_at {Q : Nat → Prop} {w : World} {s : Option Addr} {l : List Rc} (h : ElemsQ Q w s 2 Rc.cells l) {k : Nat} {x : Rc} (hx : l[k]? = some x) :
    ∃ g off, s = some ⟨g, off, none⟩ ∧ w.cell? ⟨g, off + k * 2, none⟩ = some (.func (.func x.f) #[] x.c) ∧ w.cell? ⟨g, off + k * 2 + 1, none⟩ = some (.func (.func x.g) #[] x.d) := by
  obtain ⟨g, off, e, hb, hc⟩ := h.2 k x hx
  exact ⟨g, off, e, hc 0 _ rfl, hc 1 _ rfl⟩

set_option maxHeartbeats 1000000 in
theorem index_rows (κ : Nat → Nat) (f : Nat) (c : Array Value) (xs : List Rc) (p : Nat → Bool) (n : Nat) (hn : n = xs.length) (hl : n ≤ 200) (s : Option Addr) (cp : Nat) (w : World) (hE : ElemsQ (fun g => κ g = 0) w s 2 Rc.cells xs)
    (hf : Ent f) (hp : ∀ wr i x, Soft κ w wr → xs[i]? = some x → Calls Tryz.prog f (#[x.agg] ++ c) wr fun e w'' => e = .returned (.bool (p i)) ∧ Soft κ wr w'') :
    Calls Tryz.prog 87 #[.slice s n cp, .func (.func f) #[] c] w fun e w' => ∃ i : Int, e = .returned (.int .i64 i) ∧ (decide (0 ≤ i) = true ↔ ∃ k, k < n ∧ p k = true) ∧ Soft κ w w' := by
  have he : ∀ (args : Array Value) (w : World), (callFunc f args).run Tryz.prog w = .ok (.enter f args) w := hf
  have HP : Hid (∀ wr k x, Soft κ w wr → xs[k]? = some x → ∃ g off, s = some ⟨g, off, none⟩ ∧ wr.cell? ⟨g, off + k * 2, none⟩ = some (.func (.func x.f) #[] x.c) ∧ wr.cell? ⟨g, off + k * 2 + 1, none⟩ = some (.func (.func x.g) #[] x.d)) :=
    Lib.hid (fun wr k x hs hx => rc_at ((hE.mono (fun g e => (by rw [e]; decide : κ g ≠ 4))).soft hs) hx)
  have HF := Lib.hid hp
  have HN := Lib.hid hn
  clear hE hn hp hf
  go_enter Tryz.func87, Tryz.ntmps87
  go_wp2_with fail
  go_loopw [8] (fun i wr => ∃ k : Nat, i = .int .i64 k ∧ k ≤ n ∧ Soft κ w wr ∧ ∀ j, j < k → p j = false) (fun i _ => n - (intOf i).toNat)
  case atStart => exact ⟨0, rfl, by omega, Soft.refl _ _, fun j hj => absurd hj (Nat.not_lt_zero _)⟩
  case round =>
    obtain ⟨k, rfl, hk1, hk, hne⟩ := hrel
    have HK := Lib.hid hk; clear hk
    have HNE := Lib.hid hne; clear hne
    by_cases hkk : k < n
    · obtain ⟨x, hx⟩ : ∃ x, xs[k]? = some x := ⟨_, List.getElem?_eq_getElem (by rw [← HN.out]; exact hkk)⟩
      obtain ⟨g, off, rfl, y0, y1⟩ := HP.out wr k x HK.out hx
      have HC := Lib.hid (HF.out wr k x HK.out hx)
      have HKK := Lib.hid hkk
      clear hx
      have k0 : (0 : Int) ≤ (k : Int) := by omega
      have k1 : (k : Int) < (n : Int) := by omega
      clear hkk
      cases hpk : p k with
      | true =>
        rw [hpk] at HC
        go_wp2_with fail
        refine HC.out.mono ?_
        rintro e w2 ⟨rfl, hk2⟩
        have HK2 := Lib.hid hk2; clear hk2
        go_wp2_with fail
        go_ret
        have h1 : (decide ((0 : Int) ≤ (k : Int)) = true ↔ ∃ k, k < n ∧ p k = true) := ⟨fun _ => ⟨k, HKK.out, hpk⟩, fun _ => decide_eq_true k0⟩
        exact ⟨_, rfl, by first | exact h1 | simpa using h1, HK.out.trans HK2.out⟩
      | false =>
        rw [hpk] at HC
        go_wp2_with fail
        refine HC.out.mono ?_
        rintro e w2 ⟨rfl, hk2⟩
        have HK2 := Lib.hid hk2; clear hk2
        go_wp2_with fail
        go_roundw
        case rel =>
          refine ⟨k + 1, by go_num, by omega, HK.out.trans HK2.out, fun j hj => ?_⟩
          by_cases e : j = k
          · subst e; exact hpk
          · exact HNE.out j (by omega)
        case measure => simp [intOf]; omega
    · have k1 : ¬ ((k : Int) < (n : Int)) := by omega
      have hkn : k = n := by omega
      go_wp2_with fail
      go_ret
      have h1 : (decide ((0 : Int) ≤ (-1 : Int)) = true ↔ ∃ k, k < n ∧ p k = true) := ⟨fun h => by simp at h, fun ⟨j, hj, hpj⟩ => by have := HNE.out j (by omega); rw [hpj] at this; simp at this⟩
      exact ⟨_, rfl, by first | exact h1 | simpa using h1, HK.out⟩
theorem contains_rows (κ : Nat → Nat) (f : Nat) (c : Array Value) (xs : List Rc) (p : Nat → Bool) (n : Nat) (hn : n = xs.length) (hl : n ≤ 200) (s : Option Addr) (cp : Nat) (w : World) (hE : ElemsQ (fun g => κ g = 0) w s 2 Rc.cells xs)
    (hf : Ent f) (hp : ∀ wr i x, Soft κ w wr → xs[i]? = some x → Calls Tryz.prog f (#[x.agg] ++ c) wr fun e w'' => e = .returned (.bool (p i)) ∧ Soft κ wr w'') (r : Bool) (hr : r = true ↔ ∃ k, k < n ∧ p k = true) :
    Calls Tryz.prog 66 #[.slice s n cp, .func (.func f) #[] c] w fun e w' => e = .returned (.bool r) ∧ Soft κ w w' := by
  have HC := Lib.hid (index_rows κ f c xs p n hn hl s cp w hE hf hp)
  have HR := Lib.hid hr
  clear hE hn hp hf hr
  go_enter Tryz.func66, Tryz.ntmps66
  go_wp2_with fail
  refine (HC.out).mono ?_
  rintro e w1 ⟨i, rfl, hi, hs⟩
  have e : decide (0 ≤ i) = r := by rw [Bool.eq_iff_iff]; exact hi.trans HR.out.symm
  have HE := Lib.hid e
  clear hi e
  go_wp2_with fail
  go_ret
  exact ⟨by rw [← HE.out]; rfl, hs⟩

theorem beginc_any (κ : Nat → Nat) (x : Rc) (L : List Mk → Bool × Bool) (B n lc : Nat) (ls : Option Addr) (l : List Mk) (hn : n = l.length) (w : World) (hW : Wl κ w) (hB : w.cell? ⟨B, 0, none⟩ = some (.slice ls n lc)) (hE : ElemsQ (fun g => κ g ≠ 4) w ls 2 Mk.cells l) (hL : Looks κ w x.f x.c L) :
    Calls Tryz.prog 86 #[x.agg, .pointer (some ⟨B, 0, none⟩)] w fun e w' => e = .returned (.bool (L l).1) ∧ Soft κ w w' := by
  have he : ∀ (args : Array Value) (w : World), (callFunc x.f args).run Tryz.prog w = .ok (.enter x.f args) w := hL.1
  obtain ⟨W1, hW1⟩ : ∃ W1, w.alloc (.cells #[.func (.func x.f) #[] x.c, .func (.func x.g) #[] x.d] 140) = W1 := ⟨_, rfl⟩
  have hk1 : Kept (fun _ => False) w W1 := by rw [← hW1]; exact (Kept.refl _ _).alloc _
  have b1 := (hk1.cell (p := ⟨B, 0, none⟩) (World.block_lt_of_cell? w _ hB) (fun f => f)).trans hB
  have hh : W1.heap[w.heap.size]? = some (.cells #[.func (.func x.f) #[] x.c, .func (.func x.g) #[] x.d] 140 (0, 0)) := by rw [← hW1]; exact heap_new1 _ _
  have m0 : W1.cell? ⟨w.heap.size, 0, none⟩ = some (.func (.func x.f) #[] x.c) := by rw [cell_at _ _ 0 _ _ hh]; rfl
  have HC := Lib.hid (hL.2 κ W1 ls n lc l (Lat.of0 hk1) (hW.kept0 hk1) (hE.soft (Soft.of0 hk1)) hn)
  have HK := Lib.hid hk1
  clear hL hE hB hW hk1 hh hn
  go_enter Tryz.func86, Tryz.ntmps86
  go_wp2_with fail
  refine HC.out.mono ?_
  rintro e w2 ⟨rfl, hk2⟩
  have HK2 := Lib.hid hk2; clear hk2
  go_wp2_with fail
  go_ret
  exact ⟨rfl, (Soft.of0 HK.out).trans HK2.out⟩

set_option maxHeartbeats 1000000 in
theorem comec_any (κ : Nat → Nat) (x : Rc) (L : List Mk → Bool × Bool) (R : List Int) (B C n lc : Nat) (ls : Option Addr) (l : List Mk) (res : Int) (hn : n = l.length) (w : World) (hW : Wl κ w) (hB : w.cell? ⟨B, 0, none⟩ = some (.slice ls n lc)) (hC : w.cell? ⟨C, 0, none⟩ = some (.int .i64 res)) (hCκ : κ C ≠ 4)
    (hE : ElemsQ (fun g => κ g ≠ 4) w ls 2 Mk.cells l) (hL : Looks κ w x.f x.c L) (hR : Comes κ w x.g x.d R) :
    Calls Tryz.prog 67 #[x.agg, .pointer (some ⟨B, 0, none⟩), .pointer (some ⟨C, 0, none⟩)] w fun e w' => e = .returned (.bool ((L l).2 && hasI R res)) ∧ Soft κ w w' := by
  have he : ∀ (args : Array Value) (w : World), (callFunc x.f args).run Tryz.prog w = .ok (.enter x.f args) w := hL.1
  have he2 : ∀ (args : Array Value) (w : World), (callFunc x.g args).run Tryz.prog w = .ok (.enter x.g args) w := hR.1
  obtain ⟨W1, hW1⟩ : ∃ W1, w.alloc (.cells #[.func (.func x.f) #[] x.c, .func (.func x.g) #[] x.d] 140) = W1 := ⟨_, rfl⟩
  have hk1 : Kept (fun _ => False) w W1 := by rw [← hW1]; exact (Kept.refl _ _).alloc _
  have b1 := (hk1.cell (p := ⟨B, 0, none⟩) (World.block_lt_of_cell? w _ hB) (fun f => f)).trans hB
  have hh : W1.heap[w.heap.size]? = some (.cells #[.func (.func x.f) #[] x.c, .func (.func x.g) #[] x.d] 140 (0, 0)) := by rw [← hW1]; exact heap_new1 _ _
  have m0 : W1.cell? ⟨w.heap.size, 0, none⟩ = some (.func (.func x.f) #[] x.c) := by rw [cell_at _ _ 0 _ _ hh]; rfl
  have HC := Lib.hid (hL.2 κ W1 ls n lc l (Lat.of0 hk1) (hW.kept0 hk1) (hE.soft (Soft.of0 hk1)) hn)
  have HCC : Hid (∀ w2, Soft κ W1 w2 → w2.cell? ⟨C, 0, none⟩ = some (.int .i64 res) ∧ w2.cell? ⟨w.heap.size, 1, none⟩ = some (.func (.func x.g) #[] x.d) ∧ Calls Tryz.prog x.g (#[.int .i64 res] ++ x.d) w2 fun e w'' => e = .returned (.bool (hasI R res)) ∧ Kept (fun _ => False) w2 w'') := Lib.hid (fun w2 hs => by
    have n1 : κ w.heap.size ≠ 4 := fun h => Nat.lt_irrefl _ (hW.lt w.heap.size (by rw [h]; decide))
    have h := hs.kept.at_ hh n1
    refine ⟨(((Soft.of0 hk1).trans hs).kept.cell (p := ⟨C, 0, none⟩) (World.block_lt_of_cell? w _ hC) hCκ).trans hC, ?_, hR.2 κ w2 res (Lat.soft ((Soft.of0 hk1).trans hs))⟩
    rw [cell_at _ _ 1 _ _ h]; rfl)
  have HK := Lib.hid hk1
  clear hL hE hB hW hk1 hh hn hC hR
  cases hb : (L l).2
  · rw [hb] at HC
    go_enter Tryz.func67, Tryz.ntmps67
    go_wp2_with fail
    refine HC.out.mono ?_
    rintro e w2 ⟨rfl, hk2⟩
    have HK2 := Lib.hid hk2; clear hk2
    go_wp2_with fail
    go_ret
    exact ⟨rfl, (Soft.of0 HK.out).trans HK2.out⟩
  · rw [hb] at HC
    go_enter Tryz.func67, Tryz.ntmps67
    go_wp2_with fail
    refine HC.out.mono ?_
    rintro e w2 ⟨rfl, hk2⟩
    obtain ⟨r0, r1, hc⟩ := HCC.out w2 hk2
    have HC2 := Lib.hid hc
    have HK2 := Lib.hid hk2; clear hk2 hc
    go_wp2_with fail
    refine HC2.out.mono ?_
    rintro e w3 ⟨rfl, hk3⟩
    have HK3 := Lib.hid hk3; clear hk3
    go_wp2_with fail
    go_ret
    exact ⟨rfl, (Soft.of0 HK.out).trans (HK2.out.trans (Soft.of0 HK3.out))⟩

theorem any_at {rs : List Rw} {q : Rw → Bool} {n : Nat} (hn : n = rs.length) (p : Nat → Bool) (hp : ∀ i r, rs[i]? = some r → p i = q r) : rs.any q = true ↔ ∃ k, k < n ∧ p k = true := by
  rw [List.any_eq_true]
  constructor
  · rintro ⟨r, hr, hq⟩
    obtain ⟨k, hk⟩ := List.mem_iff_getElem?.1 hr
    exact ⟨k, by rw [hn]; exact (List.getElem?_eq_some_iff.1 hk).1, by rw [hp k r hk]; exact hq⟩
  · rintro ⟨k, hk, hq⟩
    obtain ⟨r, hr⟩ : ∃ r, rs[k]? = some r := ⟨_, List.getElem?_eq_getElem (by rw [← hn]; exact hk)⟩
    exact ⟨r, List.mem_of_getElem? hr, by rw [← hp k r hr]; exact hq⟩

theorem begins_any (κ : Nat → Nat) (xs : List Rc) (rs : List Rw) (s : Option Addr) (n cp : Nat) (hn : n = xs.length) (hl : n ≤ 200) (ls : Option Addr) (m lc : Nat) (l : List Mk) (hm : m = l.length) (w : World) (hW : Wl κ w) (hR : RowsIn κ w s xs rs) (hE : ElemsQ (fun g => κ g ≠ 4) w ls 2 Mk.cells l) :
    Calls Tryz.prog 65 #[.slice s n cp, .slice ls m lc] w fun e w' => e = .returned (.bool (beginsM rs l)) ∧ Soft κ w w' := by
  obtain ⟨W1, hW1⟩ : ∃ W1, w.alloc (.cells #[.slice ls m lc] 123) = W1 := ⟨_, rfl⟩
  have hk1 : Kept (fun _ => False) w W1 := by rw [← hW1]; exact (Kept.refl _ _).alloc _
  have hc : W1.cell? ⟨w.heap.size, 0, none⟩ = some (.slice ls m lc) := by rw [← hW1]; exact cell0 _ _ _
  have hR1 := hR.lat (Lat.of0 hk1)
  have hW2 := hW.kept0 hk1
  have hE1 := hE.soft (Soft.of0 hk1)
  have n0 : κ w.heap.size ≠ 4 := fun h => Nat.lt_irrefl _ (hW.lt w.heap.size (by rw [h]; decide))
  have HC := Lib.hid (contains_rows κ 86 #[.pointer (some ⟨w.heap.size, 0, none⟩)] xs (fun k => match rs[k]? with | some r => (r.look l).1 | none => false) n hn hl s cp W1 hR1.row (ent_of Tryz.func86 (by kernel_rfl) rfl)
    (fun wr i x hs hx => by
      obtain ⟨r, hr⟩ : ∃ r, rs[i]? = some r := ⟨_, List.getElem?_eq_getElem (by rw [← hR.len]; exact (List.getElem?_eq_some_iff.1 hx).1)⟩
      simp only [hr]
      exact beginc_any κ x r.look w.heap.size m lc ls l hm wr (hs.wl hW2) ((hs.kept.cell (p := ⟨w.heap.size, 0, none⟩) (World.block_lt_of_cell? W1 _ hc) n0).trans hc) (hE1.soft hs) ((hR1.look i x r hx hr).lat (Lat.soft hs)))
    (beginsM rs l) (any_at (hn.trans hR.len) _ (fun i r hr => by simp only [hr])))
  have HK := Lib.hid hk1
  clear hk1 hc hR1 hW2 hE1 hR hW hE hn hm
  go_enter Tryz.func65, Tryz.ntmps65
  go_wp2_with fail
  refine (HC.out).mono ?_
  rintro e w2 ⟨rfl, hs⟩
  go_wp2_with fail
  go_ret
  exact ⟨rfl, (Soft.of0 HK.out).trans hs⟩

theorem comes_any (κ : Nat → Nat) (xs : List Rc) (rs : List Rw) (s : Option Addr) (n cp : Nat) (hn : n = xs.length) (hl : n ≤ 200) (ls : Option Addr) (m lc : Nat) (l : List Mk) (hm : m = l.length) (res : Int) (w : World) (hW : Wl κ w) (hR : RowsIn κ w s xs rs) (hE : ElemsQ (fun g => κ g ≠ 4) w ls 2 Mk.cells l) :
    Calls Tryz.prog 48 #[.slice s n cp, .slice ls m lc, .int .i64 res] w fun e w' => e = .returned (.bool (comesM rs l res)) ∧ Soft κ w w' := by
  obtain ⟨W1, hW1⟩ : ∃ W1, w.alloc (.cells #[.slice ls m lc] 123) = W1 := ⟨_, rfl⟩
  have hk0 : Kept (fun _ => False) w W1 := by rw [← hW1]; exact (Kept.refl _ _).alloc _
  have hs1 : W1.heap.size = w.heap.size + 1 := by rw [← hW1]; simp
  have hc0 : W1.cell? ⟨w.heap.size, 0, none⟩ = some (.slice ls m lc) := by rw [← hW1]; exact cell0 _ _ _
  obtain ⟨W2, hW2⟩ : ∃ W2, W1.alloc (.cells #[.int .i64 res] 3) = W2 := ⟨_, rfl⟩
  have hk2 : Kept (fun _ => False) W1 W2 := by rw [← hW2]; exact (Kept.refl _ _).alloc _
  have hk1 := hk0.tr0 hk2
  have hd : W2.cell? ⟨w.heap.size + 1, 0, none⟩ = some (.int .i64 res) := by rw [← hW2, ← hs1]; exact cell0 _ _ _
  have hc := (hk2.cell (p := ⟨w.heap.size, 0, none⟩) (World.block_lt_of_cell? W1 _ hc0) (fun f => f)).trans hc0
  have hR1 := hR.lat (Lat.of0 hk1)
  have hW3 := hW.kept0 hk1
  have hE1 := hE.soft (Soft.of0 hk1)
  have n0 : κ w.heap.size ≠ 4 := fun h => Nat.lt_irrefl _ (hW.lt w.heap.size (by rw [h]; decide))
  have n1 : κ (w.heap.size + 1) ≠ 4 := fun h => by have := hW.lt (w.heap.size + 1) (by rw [h]; decide); omega
  have HC := Lib.hid (contains_rows κ 67 #[.pointer (some ⟨w.heap.size, 0, none⟩), .pointer (some ⟨w.heap.size + 1, 0, none⟩)] xs (fun k => match rs[k]? with | some r => (r.look l).2 && hasI r.to res | none => false) n hn hl s cp W2 hR1.row (ent_of Tryz.func67 (by kernel_rfl) rfl)
    (fun wr i x hs hx => by
      obtain ⟨r, hr⟩ : ∃ r, rs[i]? = some r := ⟨_, List.getElem?_eq_getElem (by rw [← hR.len]; exact (List.getElem?_eq_some_iff.1 hx).1)⟩
      simp only [hr]
      exact comec_any κ x r.look r.to w.heap.size (w.heap.size + 1) m lc ls l res hm wr (hs.wl hW3) ((hs.kept.cell (p := ⟨w.heap.size, 0, none⟩) (World.block_lt_of_cell? W2 _ hc) n0).trans hc) ((hs.kept.cell (p := ⟨w.heap.size + 1, 0, none⟩) (World.block_lt_of_cell? W2 _ hd) n1).trans hd) n1 (hE1.soft hs) ((hR1.look i x r hx hr).lat (Lat.soft hs)) ((hR1.come i x r hx hr).lat (Lat.soft hs)))
    (comesM rs l res) (any_at (hn.trans hR.len) _ (fun i r hr => by simp only [hr]; rfl)))
  have HK := Lib.hid hk1
  clear hk0 hk1 hk2 hc hc0 hd hR1 hE1 hR hW hE hn hm hW3 n0 n1
  go_enter Tryz.func48, Tryz.ntmps48
  go_wp2_with fail
  refine (HC.out).mono ?_
  rintro e w2 ⟨rfl, hs⟩
  go_wp2_with fail
  go_ret
  exact ⟨rfl, (Soft.of0 HK.out).trans hs⟩

end Go.Proofs.YtbodlaiakcoabaaGreatDoor
end
section
namespace Go.Proofs.YtbodlaiakcoabaaGreatDoor
open Go.RowKit
set_option linter.unusedSimpArgs false
set_option linter.unusedVariables false
set_option maxRecDepth 100000

/-- Each row's look and results. -/
def RowsAt (κ : Nat → Nat) (w : World) : List Rc → List Rw → Prop
  | [], [] => True
  | x :: xs, r :: rs => (Looks κ w x.f x.c r.look ∧ Comes κ w x.g x.d r.to) ∧ RowsAt κ w xs rs
  | _, _ => False
theorem RowsAt.len {κ : Nat → Nat} {w : World} : ∀ {xs : List Rc} {rs : List Rw}, RowsAt κ w xs rs → xs.length = rs.length
  | [], [], _ => rfl
  | x :: xs, r :: rs, h => by simp [RowsAt.len h.2]
  | [], _ :: _, h => h.elim
  | _ :: _, [], h => h.elim
theorem RowsAt.at_ {κ : Nat → Nat} {w : World} : ∀ {xs : List Rc} {rs : List Rw}, RowsAt κ w xs rs → ∀ (i : Nat) (x : Rc) (r : Rw), xs[i]? = some x → rs[i]? = some r → Looks κ w x.f x.c r.look ∧ Comes κ w x.g x.d r.to
  | [], [], _, i, x, r, hx, _ => by simp at hx
  | y :: xs, q :: rs, h, 0, x, r, hx, hr => by
    simp only [List.getElem?_cons_zero, Option.some.injEq] at hx hr
    subst hx hr; exact h.1
  | y :: xs, q :: rs, h, i + 1, x, r, hx, hr => RowsAt.at_ h.2 i x r (by simpa using hx) (by simpa using hr)
  | [], _ :: _, h, _, _, _, _, _ => h.elim
  | _ :: _, [], h, _, _, _, _, _ => h.elim
theorem RowsAt.of {κ : Nat → Nat} {w : World} : ∀ {xs : List Rc} {rs : List Rw}, xs.length = rs.length → (∀ (i : Nat) (x : Rc) (r : Rw), xs[i]? = some x → rs[i]? = some r → Looks κ w x.f x.c r.look ∧ Comes κ w x.g x.d r.to) → RowsAt κ w xs rs
  | [], [], _, _ => trivial
  | x :: xs, r :: rs, hl, h => ⟨h 0 x r rfl rfl, RowsAt.of (by simpa using hl) (fun i y q hy hq => h (i + 1) y q (by simpa using hy) (by simpa using hq))⟩
  | [], _ :: _, hl, _ => by simp at hl
  | _ :: _, [], hl, _ => by simp at hl
theorem RowsAt.lat {κ κ' : Nat → Nat} {w w' : World} {xs : List Rc} {rs : List Rw} (h : RowsAt κ w xs rs) (k : Lat κ κ' w w') : RowsAt κ' w' xs rs :=
  RowsAt.of h.len (fun i x r hx hr => ⟨(h.at_ i x r hx hr).1.lat k, (h.at_ i x r hx hr).2.lat k⟩)
theorem RowsIn.at_ {κ : Nat → Nat} {w : World} {s : Option Addr} {xs : List Rc} {rs : List Rw} (h : RowsIn κ w s xs rs) : RowsAt κ w xs rs := RowsAt.of h.len (fun i x r hx hr => ⟨h.look i x r hx hr, h.come i x r hx hr⟩)
theorem RowsIn.of {κ : Nat → Nat} {w : World} {s : Option Addr} {xs : List Rc} {rs : List Rw} (h : ElemsQ (fun g => κ g = 0) w s 2 Rc.cells xs) (h2 : RowsAt κ w xs rs) : RowsIn κ w s xs rs :=
  ⟨h, h2.len, fun i x r hx hr => (h2.at_ i x r hx hr).1, fun i x r hx hr => (h2.at_ i x r hx hr).2⟩
theorem Rc.two (x : Rc) : x.cells.length = 2 := rfl
theorem elems_block {α : Type} {f : α → List Value} {m : Nat} (hf : ∀ x, (f x).length = m) {κ : Nat → Nat} {w : World} (hW : Wl κ w) (xs : List α) (a : Array Value) (t : TypeId) (ha : a.toList = flat f xs) (hm : xs.length ≤ maxLen) : ElemsQ (fun g => κ g = 0) (w.alloc (.cells a t)) (some ⟨w.heap.size, 0, none⟩) m f xs := by
  refine ⟨hm, fun i x hx => ⟨_, _, rfl, ⟨by simp, Classical.byContradiction fun h => Nat.lt_irrefl _ (hW.lt _ h)⟩, fun j v hv => ?_⟩⟩
  have hj : j < m := by have := (List.getElem?_eq_some_iff.1 hv).1; have := hf x; omega
  rw [cell_at _ _ _ _ _ (heap_new1 _ _), Nat.zero_add, ← Array.getElem?_toList, ha, flat_at hf xs i j x hx hj, hv]
theorem rows_new {κ : Nat → Nat} {w : World} (hW : Wl κ w) (xs : List Rc) (rs : List Rw) (a : Array Value) (t : TypeId) (ha : a.toList = flat Rc.cells xs) (hm : xs.length ≤ maxLen) (h : RowsAt κ w xs rs) : RowsIn κ (w.alloc (.cells a t)) (some ⟨w.heap.size, 0, none⟩) xs rs :=
  RowsIn.of (elems_block Rc.two hW xs a t ha hm) (h.lat (Lat.of0 ((Kept.refl _ w).alloc _)))

/-- What a function that lays rows tells. -/
def Lad (κ : Nat → Nat) (w : World) (rs : List Rw) (e : Ending) (w' : World) : Prop := ∃ s n c xs, e = .returned (.slice s n c) ∧ n = xs.length ∧ RowsIn κ w' s xs rs ∧ Kept (fun _ => False) w w'
theorem Lad.since {κ : Nat → Nat} {w w1 w' : World} {rs : List Rw} {e : Ending} (h : Lad κ w1 rs e w') (hk : Kept (fun _ => False) w w1) : Lad κ w rs e w' := by
  obtain ⟨s, n, c, xs, h1, h2, h3, h4⟩ := h
  exact ⟨s, n, c, xs, h1, h2, h3, hk.tr0 h4⟩

theorem info_row : (Tryz.prog.info? 140).map (fun i => (i.zero, i.size, i.bytes)) = some (some (.agg #[.nilFunc, .nilFunc]), 2, 16) := by kernel_rfl
theorem rc_cell (xs : List Rc) : ∀ u ∈ flat Rc.cells xs, u.oneCell' = true := by
  intro u hu
  simp only [flat, List.mem_flatMap, Rc.cells, List.mem_cons, List.not_mem_nil, or_false] at hu
  obtain ⟨x, _, h | h⟩ := hu <;> subst h <;> rfl
theorem Made.elemsQ {α : Type} {f : α → List Value} {m : Nat} {κ : Nat → Nat} {w0 w : World} {B : Nat} {s : Option Addr} {c : Nat} {xs : List α} (h : Made B w s c m f xs) (hW : Wl κ w0) (hB : w0.heap.size ≤ B) : ElemsQ (fun g => κ g = 0) w s m f xs :=
  ⟨h.elems.1, fun i x hx => by
    have hne : xs ≠ [] := by rintro rfl; simp at hx
    obtain ⟨g, hs, h1, h2⟩ := h.new hne
    obtain ⟨g', off, e, hb, hc⟩ := h.elems.2 i x hx
    rw [hs] at e
    simp only [Option.some.injEq, Addr.mk.injEq, and_true] at e
    obtain ⟨rfl, rfl⟩ := e
    exact ⟨g, 0, hs, ⟨h2, Classical.byContradiction fun hn => by have := hW.lt g hn; omega⟩, hc⟩⟩
theorem flat_append {α : Type} (f : α → List Value) (a b : List α) : flat f (a ++ b) = flat f a ++ flat f b := by simp [flat]
theorem ElemsQ.elems {α : Type} {Q : Nat → Prop} {w : World} {s : Option Addr} {m : Nat} {f : α → List Value} {xs : List α} (h : ElemsQ Q w s m f xs) : Elems w w.heap.size s m f xs :=
  ⟨h.1, fun i x hx => by obtain ⟨g, off, e, hb, hc⟩ := h.2 i x hx; exact ⟨g, off, e, hb.1, hc⟩⟩

set_option maxHeartbeats 2000000 in
theorem rwaiting_any (κ : Nat → Nat) (w : World) (hW : Wl κ w) (so : Option Addr) (no co : Nat) (xo : List Rc) (ro : List Rw) (hn : no = xo.length) (hl : no ≤ 10) (hR : RowsIn κ w so xo ro) :
    Calls Tryz.prog 76 #[.slice so no co] w (Lad κ w (quitR :: noneR :: ro)) := by
  obtain ⟨i0, hi, hz0, hz1, hz2⟩ := info_parts info_row
  have HI := Lib.hid hi
  have HZ0 := Lib.hid hz0
  have HZ1 := Lib.hid hz1
  have HZ2 := Lib.hid hz2
  have HW0 := Lib.hid hW
  have HR := Lib.hid hR
  subst hn
  clear hW hR hi hz0 hz1 hz2
  go_enter Tryz.func76, Tryz.ntmps76
  go_wp2_with fail
  refine (of_any1 κ 17 _ HW0.out).mono ?_
  rintro e w1 ⟨f1, c1, rfl, hx1, hk1⟩
  have hl1 := Lat.of0 (κ := κ) hk1
  have HW1 := Lib.hid (HW0.out.kept0 hk1)
  have HR_1 := Lib.hid (HR.out.lat hl1)
  clear HR
  have HK1 := Lib.hid hk1
  have HF00 := Lib.hid hx1
  clear hx1 hk1 hl1
  go_wp2_with fail
  refine (marks1 HW1.out HF00.out).mono ?_
  rintro e w2 ⟨f2, c2, rfl, hx2, hk2⟩
  have hl2 := Lat.of0 (κ := κ) hk2
  have HW2 := Lib.hid (HW1.out.kept0 hk2)
  have HR_2 := Lib.hid (HR_1.out.lat hl2)
  clear HR_1
  have HF00_2 := Lib.hid (HF00.out.lat hl2)
  clear HF00
  have HK2 := Lib.hid (HK1.out.tr0 hk2)
  clear HK1
  have HL0 := Lib.hid hx2
  clear hx2 hk2 hl2
  go_wp2_with fail
  refine (to2 HW2.out 2 3).mono ?_
  rintro e w3 ⟨f3, c3, rfl, hx3, hk3⟩
  have hl3 := Lat.of0 (κ := κ) hk3
  have HW3 := Lib.hid (HW2.out.kept0 hk3)
  have HR_3 := Lib.hid (HR_2.out.lat hl3)
  clear HR_2
  have HL0_3 := Lib.hid (HL0.out.lat hl3)
  clear HL0
  have HK3 := Lib.hid (HK2.out.tr0 hk3)
  clear HK2
  have HC0 := Lib.hid hx3
  clear hx3 hk3 hl3
  go_wp2_with fail
  refine (marks0 κ _ HW3.out).mono ?_
  rintro e w4 ⟨f4, c4, rfl, hx4, hk4⟩
  have hl4 := Lat.of0 (κ := κ) hk4
  have HW4 := Lib.hid (HW3.out.kept0 hk4)
  have HR_4 := Lib.hid (HR_3.out.lat hl4)
  clear HR_3
  have HL0_4 := Lib.hid (HL0_3.out.lat hl4)
  clear HL0_3
  have HC0_4 := Lib.hid (HC0.out.lat hl4)
  clear HC0
  have HK4 := Lib.hid (HK3.out.tr0 hk4)
  clear HK3
  have HL1 := Lib.hid hx4
  clear hx4 hk4 hl4
  go_wp2_with fail
  refine (to1 HW4.out 6).mono ?_
  rintro e w5 ⟨f5, c5, rfl, hx5, hk5⟩
  have hl5 := Lat.of0 (κ := κ) hk5
  have HW5 := Lib.hid (HW4.out.kept0 hk5)
  have HR_5 := Lib.hid (HR_4.out.lat hl5)
  clear HR_4
  have HL0_5 := Lib.hid (HL0_4.out.lat hl5)
  clear HL0_4
  have HC0_5 := Lib.hid (HC0_4.out.lat hl5)
  clear HC0_4
  have HL1_5 := Lib.hid (HL1.out.lat hl5)
  clear HL1
  have HK5 := Lib.hid (HK4.out.tr0 hk5)
  clear HK4
  have HC1 := Lib.hid hx5
  clear hx5 hk5 hl5
  have hown : (w5.alloc (.cells #[.func (.func f2) #[] c2, .func (.func f3) #[] c3, .func (.func f4) #[] c4, .func (.func f5) #[] c5] 140)).ownsRow w5.heap.size 140 2 (.slice (some ⟨w5.heap.size, 0, none⟩) 2 2) 2 (flat Rc.cells [Rc.mk f2 c2 f3 c3, Rc.mk f4 c4 f5 c5]) :=
    World.ownsRow_lit w5 #[.func (.func f2) #[] c2, .func (.func f3) #[] c3, .func (.func f4) #[] c4, .func (.func f5) #[] c5] 2 (Nat.le_refl _) (by unfold maxLen; omega) rfl
  have hka : Kept (fun _ => False) w5 (w5.alloc (.cells #[.func (.func f2) #[] c2, .func (.func f3) #[] c3, .func (.func f4) #[] c4, .func (.func f5) #[] c5] 140)) := (Kept.refl _ _).alloc _
  have hEo := (HR_5.out.lat (Lat.of0 hka)).row.elems
  have HOWN := Lib.hid hown
  have HEO := Lib.hid hEo
  have HKA := Lib.hid hka
  clear hown hEo hka
  go_wp2_with (at_builtin; refine wpList_append_elems (f := Rc.cells) (ys := xo) _ rfl (.tmp 13) (.tmp 14) 121 rfl w5.heap.size 140 i0 (.agg #[.nilFunc, .nilFunc]) 2 16 Tryz.underlying121 HI.out HZ0.out HZ1.out HZ2.out rfl (by decide) Rc.two (rc_cell _) _ 2 _ rfl HOWN.out _ _ _ rfl HEO.out ?e3 ?e4 ?e5 ?_)
  case e3 => unfold maxLen; omega
  case e4 => omega
  case e5 => simp
  intro v' w6 h1 h2 h3
  have hk6 : Kept (fun _ => False) w5 w6 := HKA.out.grown h2 (fun k hk e => by simp [Value.ownBlock] at e; omega)
  obtain ⟨s6, c6, rfl, hM⟩ := Made.of_own (ys := [Rc.mk f2 c2 f3 c3, Rc.mk f4 c4 f5 c5] ++ xo) Rc.two (by rw [flat_append]; exact h1) (by simp; omega) (by simp; unfold maxLen; omega)
  have hl6 := Lat.of0 (κ := κ) hk6
  have hat := (HR_5.out.lat hl6).at_
  have HT : Hid (Lad κ w (quitR :: noneR :: ro) (.returned (.slice s6 ([Rc.mk f2 c2 f3 c3, Rc.mk f4 c4 f5 c5] ++ xo).length c6)) w6) := Lib.hid
    ⟨s6, _, c6, [Rc.mk f2 c2 f3 c3, Rc.mk f4 c4 f5 c5] ++ xo, rfl, rfl, RowsIn.of (hM.elemsQ HW5.out (Nat.le_refl _)) ⟨⟨HL0_5.out.lat hl6, HC0_5.out.lat hl6⟩, ⟨HL1_5.out.lat hl6, HC1.out.lat hl6⟩, hat⟩, HK5.out.tr0 hk6⟩
  clear h1 h2 h3 hk6 hM hl6 hat
  go_wp2_with fail
  go_ret
  exact HT.out

set_option maxHeartbeats 2000000 in
theorem rlatch_8 (κ : Nat → Nat) (w : World) (hW : Wl κ w) (x : Cl) (hx : (x.kind == 8) = true) : Calls Tryz.prog 58 #[x.agg] w (Lad κ w ([quitR, noneR, takeR 0])) := by
  obtain ⟨W0, hW0⟩ : ∃ W0, w.alloc (.cells #[.int .i64 x.kind, .int .i64 x.obj, .int .i64 x.n, .int .i64 x.wait, .bool x.breaks] 72) = W0 := ⟨_, rfl⟩
  have hk0 : Kept (fun _ => False) w W0 := by rw [← hW0]; exact (Kept.refl _ _).alloc _
  have hh : W0.heap[w.heap.size]? = some (.cells #[.int .i64 x.kind, .int .i64 x.obj, .int .i64 x.n, .int .i64 x.wait, .bool x.breaks] 72 (0, 0)) := by rw [← hW0]; exact heap_new1 _ _
  have m0 : W0.cell? ⟨w.heap.size, 0, none⟩ = some (.int .i64 x.kind) := by rw [cell_at _ _ 0 _ _ hh]; rfl
  have m2 : W0.cell? ⟨w.heap.size, 2, none⟩ = some (.int .i64 x.n) := by rw [cell_at _ _ 2 _ _ hh]; rfl
  have HW0 := Lib.hid (hW.kept0 hk0)
  have HK0 := Lib.hid hk0
  clear hW hk0 hh
  go_enter Tryz.func58, Tryz.ntmps58
  go_wp2_with fail
  refine (just_any κ 1 0 _ HW0.out).mono ?_
  rintro e w1 ⟨f1, c1, rfl, hx1, hk1⟩
  have hl1 := Lat.of0 (κ := κ) hk1
  have HW1 := Lib.hid (HW0.out.kept0 hk1)
  have HK1 := Lib.hid (HK0.out.tr0 hk1)
  clear HK0
  have HF00 := Lib.hid hx1
  clear hx1 hk1 hl1
  go_wp2_with fail
  refine (marks1 HW1.out HF00.out).mono ?_
  rintro e w2 ⟨f2, c2, rfl, hx2, hk2⟩
  have hl2 := Lat.of0 (κ := κ) hk2
  have HW2 := Lib.hid (HW1.out.kept0 hk2)
  have HF00_2 := Lib.hid (HF00.out.lat hl2)
  clear HF00
  have HK2 := Lib.hid (HK1.out.tr0 hk2)
  clear HK1
  have HL0 := Lib.hid hx2
  clear hx2 hk2 hl2
  go_wp2_with fail
  refine (to1 HW2.out 0).mono ?_
  rintro e w3 ⟨f3, c3, rfl, hx3, hk3⟩
  have hl3 := Lat.of0 (κ := κ) hk3
  have HW3 := Lib.hid (HW2.out.kept0 hk3)
  have HL0_3 := Lib.hid (HL0.out.lat hl3)
  clear HL0
  have HK3 := Lib.hid (HK2.out.tr0 hk3)
  clear HK2
  have HC0 := Lib.hid hx3
  clear hx3 hk3 hl3
  have hRI := rows_new HW3.out [Rc.mk f2 c2 f3 c3] [takeR 0] #[.func (.func f2) #[] c2, .func (.func f3) #[] c3] 140 rfl (by simp [maxLen]) ⟨⟨HL0_3.out, HC0.out⟩, trivial⟩
  have hRK : Kept (fun _ => False) w (w3.alloc (.cells #[.func (.func f2) #[] c2, .func (.func f3) #[] c3] 140)) := HK3.out.alloc _
  have HRW := Lib.hid (HW3.out.kept0 ((Kept.refl _ _).alloc (.cells #[.func (.func f2) #[] c2, .func (.func f3) #[] c3] 140)))
  have HRI := Lib.hid hRI
  have HRK := Lib.hid hRK
  clear hRI hRK
  clear HL0_3
  clear HC0
  go_wp2_with fail
  refine (rwaiting_any κ _ HRW.out _ 1 1 _ _ rfl (by decide) HRI.out).mono ?_
  rintro e w99 ⟨s9, n9, c9, xs9, rfl, h91, h92, h93⟩
  have HT := Lib.hid (show Lad κ w _ _ w99 from ⟨s9, n9, c9, xs9, rfl, h91, h92, HRK.out.tr0 h93⟩)
  clear h91 h92 h93
  go_wp2_with fail
  go_ret
  exact HT.out
set_option maxHeartbeats 2000000 in
theorem rlatch_9 (κ : Nat → Nat) (w : World) (hW : Wl κ w) (x : Cl) (hx : (x.kind == 8) = false) : Calls Tryz.prog 58 #[x.agg] w (Lad κ w ([okR 8])) := by
  obtain ⟨W0, hW0⟩ : ∃ W0, w.alloc (.cells #[.int .i64 x.kind, .int .i64 x.obj, .int .i64 x.n, .int .i64 x.wait, .bool x.breaks] 72) = W0 := ⟨_, rfl⟩
  have hk0 : Kept (fun _ => False) w W0 := by rw [← hW0]; exact (Kept.refl _ _).alloc _
  have hh : W0.heap[w.heap.size]? = some (.cells #[.int .i64 x.kind, .int .i64 x.obj, .int .i64 x.n, .int .i64 x.wait, .bool x.breaks] 72 (0, 0)) := by rw [← hW0]; exact heap_new1 _ _
  have m0 : W0.cell? ⟨w.heap.size, 0, none⟩ = some (.int .i64 x.kind) := by rw [cell_at _ _ 0 _ _ hh]; rfl
  have m2 : W0.cell? ⟨w.heap.size, 2, none⟩ = some (.int .i64 x.n) := by rw [cell_at _ _ 2 _ _ hh]; rfl
  have HW0 := Lib.hid (hW.kept0 hk0)
  have HK0 := Lib.hid hk0
  clear hW hk0 hh
  go_enter Tryz.func58, Tryz.ntmps58
  go_wp2_with fail
  refine (of_any1 κ 8 _ HW0.out).mono ?_
  rintro e w1 ⟨f1, c1, rfl, hx1, hk1⟩
  have hl1 := Lat.of0 (κ := κ) hk1
  have HW1 := Lib.hid (HW0.out.kept0 hk1)
  have HK1 := Lib.hid (HK0.out.tr0 hk1)
  clear HK0
  have HF00 := Lib.hid hx1
  clear hx1 hk1 hl1
  go_wp2_with fail
  refine (marks1 HW1.out HF00.out).mono ?_
  rintro e w2 ⟨f2, c2, rfl, hx2, hk2⟩
  have hl2 := Lat.of0 (κ := κ) hk2
  have HW2 := Lib.hid (HW1.out.kept0 hk2)
  have HF00_2 := Lib.hid (HF00.out.lat hl2)
  clear HF00
  have HK2 := Lib.hid (HK1.out.tr0 hk2)
  clear HK1
  have HL0 := Lib.hid hx2
  clear hx2 hk2 hl2
  go_wp2_with fail
  refine (to1 HW2.out 0).mono ?_
  rintro e w3 ⟨f3, c3, rfl, hx3, hk3⟩
  have hl3 := Lat.of0 (κ := κ) hk3
  have HW3 := Lib.hid (HW2.out.kept0 hk3)
  have HL0_3 := Lib.hid (HL0.out.lat hl3)
  clear HL0
  have HK3 := Lib.hid (HK2.out.tr0 hk3)
  clear HK2
  have HC0 := Lib.hid hx3
  clear hx3 hk3 hl3
  have hRI := rows_new HW3.out [Rc.mk f2 c2 f3 c3] [okR 8] #[.func (.func f2) #[] c2, .func (.func f3) #[] c3] 140 rfl (by simp [maxLen]) ⟨⟨HL0_3.out, HC0.out⟩, trivial⟩
  have hRK : Kept (fun _ => False) w (w3.alloc (.cells #[.func (.func f2) #[] c2, .func (.func f3) #[] c3] 140)) := HK3.out.alloc _
  have HRW := Lib.hid (HW3.out.kept0 ((Kept.refl _ _).alloc (.cells #[.func (.func f2) #[] c2, .func (.func f3) #[] c3] 140)))
  have HRI := Lib.hid hRI
  have HRK := Lib.hid hRK
  clear hRI hRK
  clear HL0_3
  clear HC0
  go_wp2_with fail
  go_ret
  exact ⟨_, _, _, _, rfl, rfl, HRI.out, HRK.out⟩
set_option maxHeartbeats 2000000 in
theorem rswap_any (κ : Nat → Nat) (w : World) (hW : Wl κ w) (x : Cl)  : Calls Tryz.prog 60 #[x.agg] w (Lad κ w (swapRows x.n)) := by
  obtain ⟨W0, hW0⟩ : ∃ W0, w.alloc (.cells #[.int .i64 x.kind, .int .i64 x.obj, .int .i64 x.n, .int .i64 x.wait, .bool x.breaks] 72) = W0 := ⟨_, rfl⟩
  have hk0 : Kept (fun _ => False) w W0 := by rw [← hW0]; exact (Kept.refl _ _).alloc _
  have hh : W0.heap[w.heap.size]? = some (.cells #[.int .i64 x.kind, .int .i64 x.obj, .int .i64 x.n, .int .i64 x.wait, .bool x.breaks] 72 (0, 0)) := by rw [← hW0]; exact heap_new1 _ _
  have m0 : W0.cell? ⟨w.heap.size, 0, none⟩ = some (.int .i64 x.kind) := by rw [cell_at _ _ 0 _ _ hh]; rfl
  have m2 : W0.cell? ⟨w.heap.size, 2, none⟩ = some (.int .i64 x.n) := by rw [cell_at _ _ 2 _ _ hh]; rfl
  have HW0 := Lib.hid (hW.kept0 hk0)
  have HK0 := Lib.hid hk0
  clear hW hk0 hh
  go_enter Tryz.func60, Tryz.ntmps60
  go_wp2_with fail
  refine (just_any κ 15 x.n _ HW0.out).mono ?_
  rintro e w1 ⟨f1, c1, rfl, hx1, hk1⟩
  have hl1 := Lat.of0 (κ := κ) hk1
  have HW1 := Lib.hid (HW0.out.kept0 hk1)
  have HK1 := Lib.hid (HK0.out.tr0 hk1)
  clear HK0
  have HA := Lib.hid hx1
  clear hx1 hk1 hl1
  go_wp2_with fail
  refine (of_any1 κ 14 _ HW1.out).mono ?_
  rintro e w2 ⟨f2, c2, rfl, hx2, hk2⟩
  have hl2 := Lat.of0 (κ := κ) hk2
  have HW2 := Lib.hid (HW1.out.kept0 hk2)
  have HA_2 := Lib.hid (HA.out.lat hl2)
  clear HA
  have HK2 := Lib.hid (HK1.out.tr0 hk2)
  clear HK1
  have HF00 := Lib.hid hx2
  clear hx2 hk2 hl2
  go_wp2_with fail
  refine (marks1 HW2.out HF00.out).mono ?_
  rintro e w3 ⟨f3, c3, rfl, hx3, hk3⟩
  have hl3 := Lat.of0 (κ := κ) hk3
  have HW3 := Lib.hid (HW2.out.kept0 hk3)
  have HA_3 := Lib.hid (HA_2.out.lat hl3)
  clear HA_2
  have HF00_3 := Lib.hid (HF00.out.lat hl3)
  clear HF00
  have HK3 := Lib.hid (HK2.out.tr0 hk3)
  clear HK2
  have HL0 := Lib.hid hx3
  clear hx3 hk3 hl3
  go_wp2_with fail
  refine (to1 HW3.out 0).mono ?_
  rintro e w4 ⟨f4, c4, rfl, hx4, hk4⟩
  have hl4 := Lat.of0 (κ := κ) hk4
  have HW4 := Lib.hid (HW3.out.kept0 hk4)
  have HA_4 := Lib.hid (HA_3.out.lat hl4)
  clear HA_3
  have HL0_4 := Lib.hid (HL0.out.lat hl4)
  clear HL0
  have HK4 := Lib.hid (HK3.out.tr0 hk4)
  clear HK3
  have HC0 := Lib.hid hx4
  clear hx4 hk4 hl4
  go_wp2_with fail
  refine (of_any1 κ 0 _ HW4.out).mono ?_
  rintro e w5 ⟨f5, c5, rfl, hx5, hk5⟩
  have hl5 := Lat.of0 (κ := κ) hk5
  have HW5 := Lib.hid (HW4.out.kept0 hk5)
  have HA_5 := Lib.hid (HA_4.out.lat hl5)
  clear HA_4
  have HL0_5 := Lib.hid (HL0_4.out.lat hl5)
  clear HL0_4
  have HC0_5 := Lib.hid (HC0.out.lat hl5)
  clear HC0
  have HK5 := Lib.hid (HK4.out.tr0 hk5)
  clear HK4
  have HF11 := Lib.hid hx5
  clear hx5 hk5 hl5
  go_wp2_with fail
  refine (marks2 HW5.out HA_5.out HF11.out).mono ?_
  rintro e w6 ⟨f6, c6, rfl, hx6, hk6⟩
  have hl6 := Lat.of0 (κ := κ) hk6
  have HW6 := Lib.hid (HW5.out.kept0 hk6)
  have HA_6 := Lib.hid (HA_5.out.lat hl6)
  clear HA_5
  have HL0_6 := Lib.hid (HL0_5.out.lat hl6)
  clear HL0_5
  have HC0_6 := Lib.hid (HC0_5.out.lat hl6)
  clear HC0_5
  have HF11_6 := Lib.hid (HF11.out.lat hl6)
  clear HF11
  have HK6 := Lib.hid (HK5.out.tr0 hk6)
  clear HK5
  have HL1 := Lib.hid hx6
  clear hx6 hk6 hl6
  go_wp2_with fail
  refine (to1 HW6.out 0).mono ?_
  rintro e w7 ⟨f7, c7, rfl, hx7, hk7⟩
  have hl7 := Lat.of0 (κ := κ) hk7
  have HW7 := Lib.hid (HW6.out.kept0 hk7)
  have HA_7 := Lib.hid (HA_6.out.lat hl7)
  clear HA_6
  have HL0_7 := Lib.hid (HL0_6.out.lat hl7)
  clear HL0_6
  have HC0_7 := Lib.hid (HC0_6.out.lat hl7)
  clear HC0_6
  have HL1_7 := Lib.hid (HL1.out.lat hl7)
  clear HL1
  have HK7 := Lib.hid (HK6.out.tr0 hk7)
  clear HK6
  have HC1 := Lib.hid hx7
  clear hx7 hk7 hl7
  go_wp2_with fail
  refine (of_any1 κ 16 _ HW7.out).mono ?_
  rintro e w8 ⟨f8, c8, rfl, hx8, hk8⟩
  have hl8 := Lat.of0 (κ := κ) hk8
  have HW8 := Lib.hid (HW7.out.kept0 hk8)
  have HA_8 := Lib.hid (HA_7.out.lat hl8)
  clear HA_7
  have HL0_8 := Lib.hid (HL0_7.out.lat hl8)
  clear HL0_7
  have HC0_8 := Lib.hid (HC0_7.out.lat hl8)
  clear HC0_7
  have HL1_8 := Lib.hid (HL1_7.out.lat hl8)
  clear HL1_7
  have HC1_8 := Lib.hid (HC1.out.lat hl8)
  clear HC1
  have HK8 := Lib.hid (HK7.out.tr0 hk8)
  clear HK7
  have HF21 := Lib.hid hx8
  clear hx8 hk8 hl8
  go_wp2_with fail
  refine (marks2 HW8.out HA_8.out HF21.out).mono ?_
  rintro e w9 ⟨f9, c9, rfl, hx9, hk9⟩
  have hl9 := Lat.of0 (κ := κ) hk9
  have HW9 := Lib.hid (HW8.out.kept0 hk9)
  have HA_9 := Lib.hid (HA_8.out.lat hl9)
  clear HA_8
  have HL0_9 := Lib.hid (HL0_8.out.lat hl9)
  clear HL0_8
  have HC0_9 := Lib.hid (HC0_8.out.lat hl9)
  clear HC0_8
  have HL1_9 := Lib.hid (HL1_8.out.lat hl9)
  clear HL1_8
  have HC1_9 := Lib.hid (HC1_8.out.lat hl9)
  clear HC1_8
  have HF21_9 := Lib.hid (HF21.out.lat hl9)
  clear HF21
  have HK9 := Lib.hid (HK8.out.tr0 hk9)
  clear HK8
  have HL2 := Lib.hid hx9
  clear hx9 hk9 hl9
  go_wp2_with fail
  refine (to2 HW9.out 2 3).mono ?_
  rintro e w10 ⟨f10, c10, rfl, hx10, hk10⟩
  have hl10 := Lat.of0 (κ := κ) hk10
  have HW10 := Lib.hid (HW9.out.kept0 hk10)
  have HA_10 := Lib.hid (HA_9.out.lat hl10)
  clear HA_9
  have HL0_10 := Lib.hid (HL0_9.out.lat hl10)
  clear HL0_9
  have HC0_10 := Lib.hid (HC0_9.out.lat hl10)
  clear HC0_9
  have HL1_10 := Lib.hid (HL1_9.out.lat hl10)
  clear HL1_9
  have HC1_10 := Lib.hid (HC1_9.out.lat hl10)
  clear HC1_9
  have HL2_10 := Lib.hid (HL2.out.lat hl10)
  clear HL2
  have HK10 := Lib.hid (HK9.out.tr0 hk10)
  clear HK9
  have HC2 := Lib.hid hx10
  clear hx10 hk10 hl10
  have hRI := rows_new HW10.out [Rc.mk f3 c3 f4 c4, Rc.mk f6 c6 f7 c7, Rc.mk f9 c9 f10 c10] [okR 14, ⟨marksL [justP 15 x.n, ofP 0], [0]⟩, ⟨marksL [justP 15 x.n, ofP 16], [2, 3]⟩] #[.func (.func f3) #[] c3, .func (.func f4) #[] c4, .func (.func f6) #[] c6, .func (.func f7) #[] c7, .func (.func f9) #[] c9, .func (.func f10) #[] c10] 140 rfl (by simp [maxLen]) ⟨⟨HL0_10.out, HC0_10.out⟩, ⟨HL1_10.out, HC1_10.out⟩, ⟨HL2_10.out, HC2.out⟩, trivial⟩
  have hRK : Kept (fun _ => False) w (w10.alloc (.cells #[.func (.func f3) #[] c3, .func (.func f4) #[] c4, .func (.func f6) #[] c6, .func (.func f7) #[] c7, .func (.func f9) #[] c9, .func (.func f10) #[] c10] 140)) := HK10.out.alloc _
  have HRW := Lib.hid (HW10.out.kept0 ((Kept.refl _ _).alloc (.cells #[.func (.func f3) #[] c3, .func (.func f4) #[] c4, .func (.func f6) #[] c6, .func (.func f7) #[] c7, .func (.func f9) #[] c9, .func (.func f10) #[] c10] 140)))
  have HRI := Lib.hid hRI
  have HRK := Lib.hid hRK
  clear hRI hRK
  clear HA_10
  clear HL0_10
  clear HC0_10
  clear HL1_10
  clear HC1_10
  clear HL2_10
  clear HC2
  go_wp2_with fail
  refine (rwaiting_any κ _ HRW.out _ 3 3 _ _ rfl (by decide) HRI.out).mono ?_
  rintro e w99 ⟨s9, n9, c9, xs9, rfl, h91, h92, h93⟩
  have HT := Lib.hid (show Lad κ w _ _ w99 from ⟨s9, n9, c9, xs9, rfl, h91, h92, HRK.out.tr0 h93⟩)
  clear h91 h92 h93
  go_wp2_with fail
  go_ret
  exact HT.out
end Go.Proofs.YtbodlaiakcoabaaGreatDoor
end
section
namespace Go.Proofs.YtbodlaiakcoabaaGreatDoor
open Go.RowKit
set_option linter.unusedSimpArgs false
set_option linter.unusedVariables false
set_option maxRecDepth 100000

/-- What the variable holds behind the first mark. -/
def HeldJ (H : Nat) (pre : List Mk) (w : World) : Prop := pre = [] ∨ w.cell? ⟨H, 0, none⟩ = some (.int .i64 (pre.headD ⟨0, 0⟩).v)
theorem HeldJ.stay {H : Nat} (pre : List Mk) (a b : World) (hk : Kept (fun _ => False) a b) (h : HeldJ H pre a) : HeldJ H pre b := by
  rcases h with h | h
  · exact .inl h
  · exact .inr ((hk.cell (p := ⟨H, 0, none⟩) (World.block_lt_of_cell? a _ h) (fun f => f)).trans h)
theorem HeldJ.more {H : Nat} {pre : List Mk} {w : World} (h : HeldJ H pre w) (hne : pre ≠ []) (m : Mk) : HeldJ H (pre ++ [m]) w := by
  rcases h with h | h
  · exact absurd h hne
  · refine .inr ?_
    cases pre with
    | nil => exact absurd rfl hne
    | cons x l => exact h
theorem fits_wait {κ : Nat → Nat} {w : World} {H : Nat} (hH : κ H = 4) (hlt : H < w.heap.size) : Fits κ w 90 #[.pointer (some ⟨H, 0, none⟩)] (HeldJ H) [] (ofP 10 []) := by
  refine ⟨ent_of Tryz.func90 (by kernel_rfl) rfl, fun κ' w' m hl hW _ => ?_⟩
  refine (waitc_any κ' m H w' hW ((hl.same H hlt).trans hH)).mono ?_
  rintro e w'' ⟨rfl, hs, hc⟩
  exact ⟨rfl, hs, fun _ => .inr hc⟩
theorem fits_take {κ : Nat → Nat} {w : World} {H : Nat} {pre : List Mk} (hp : pre ≠ []) : Fits κ w 91 #[.pointer (some ⟨H, 0, none⟩)] (HeldJ H) pre (takeP pre) := by
  refine ⟨ent_of Tryz.func91 (by kernel_rfl) rfl, fun κ' w' m hl hW hJ => ?_⟩
  have hc : w'.cell? ⟨H, 0, none⟩ = some (.int .i64 (pre.headD ⟨0, 0⟩).v) := by
    rcases hJ with h | h
    · exact absurd h hp
    · exact h
  refine (takec_any m _ H w' hc).mono ?_
  rintro e w'' ⟨rfl, hk⟩
  exact ⟨rfl, Soft.of0 hk, fun _ => (HeldJ.stay _ _ _ hk hJ).more hp m⟩
theorem fits_mid {κ : Nat → Nat} {w : World} {H f : Nat} {c : Array Value} {q : Mk → Bool} (h : Fit0 κ w f c q) {pre : List Mk} (hp : pre ≠ []) : Fits κ w f c (HeldJ H) pre q :=
  ⟨h.1, fun κ' w' m hl _ hJ => (h.2 κ' w' m hl).mono (fun _ _ ⟨e, k⟩ => ⟨e, Soft.of0 k, fun _ => (HeldJ.stay _ _ _ k hJ).more hp m⟩)⟩
theorem marksw2 {κ : Nat → Nat} {w : World} (hW : Wl κ w) {H : Nat} (hH : κ H = 4) :
    Calls Tryz.prog 54 #[.slice (some ⟨w.heap.size, 0, none⟩) 2 2] (w.alloc (.cells #[.func (.func 90) #[] #[.pointer (some ⟨H, 0, none⟩)], .func (.func 91) #[] #[.pointer (some ⟨H, 0, none⟩)]] 150)) fun e w' => ∃ f c, e = .returned (.func (.func f) #[] c) ∧ Looks κ w' f c (marksL [ofP 10, takeP]) ∧ Kept (fun _ => False) w w' := by
  have hk : Kept (fun _ => False) w (w.alloc (.cells #[.func (.func 90) #[] #[.pointer (some ⟨H, 0, none⟩)], .func (.func 91) #[] #[.pointer (some ⟨H, 0, none⟩)]] 150)) := (Kept.refl _ w).alloc _
  have hlt : H < w.heap.size := hW.lt H (by rw [hH]; decide)
  refine (marks_any κ _ _ 2 2 [⟨90, #[.pointer (some ⟨H, 0, none⟩)]⟩, ⟨91, #[.pointer (some ⟨H, 0, none⟩)]⟩] [ofP 10, takeP] (HeldJ H) rfl (hW.kept0 hk) (fcs_new hW _ _ _ rfl (by simp)) rfl (by simp) ?_ (fun _ => .inl rfl) HeldJ.stay).mono ?_
  · intro i x P hx hP pre hpre
    match i, hx, hP, hpre with
    | 0, hx, hP, hpre =>
      simp only [List.getElem?_cons_zero, Option.some.injEq] at hx hP
      subst hx hP
      obtain rfl := List.eq_nil_of_length_eq_zero hpre
      exact (fits_wait hH hlt).lat (Lat.of0 hk)
    | 1, hx, hP, hpre =>
      simp only [List.getElem?_cons_succ, List.getElem?_cons_zero, Option.some.injEq] at hx hP
      subst hx hP
      exact fits_take (by rintro rfl; simp at hpre)
    | i + 2, hx, _, _ => simp at hx
  · rintro e w' ⟨f', c', rfl, hL, hk'⟩
    exact ⟨f', c', rfl, hL, hk.tr0 hk'⟩
theorem marksw3 {κ : Nat → Nat} {w : World} (hW : Wl κ w) {H : Nat} (hH : κ H = 4) {f : Nat} {c : Array Value} (h : Fit0 κ w f c (fun m => m.kind == 13 && m.v == 0)) :
    Calls Tryz.prog 54 #[.slice (some ⟨w.heap.size, 0, none⟩) 3 3] (w.alloc (.cells #[.func (.func 90) #[] #[.pointer (some ⟨H, 0, none⟩)], .func (.func f) #[] c, .func (.func 91) #[] #[.pointer (some ⟨H, 0, none⟩)]] 150)) fun e w' => ∃ f c, e = .returned (.func (.func f) #[] c) ∧ Looks κ w' f c (marksL [ofP 10, justP 13 0, takeP]) ∧ Kept (fun _ => False) w w' := by
  have hk : Kept (fun _ => False) w (w.alloc (.cells #[.func (.func 90) #[] #[.pointer (some ⟨H, 0, none⟩)], .func (.func f) #[] c, .func (.func 91) #[] #[.pointer (some ⟨H, 0, none⟩)]] 150)) := (Kept.refl _ w).alloc _
  have hlt : H < w.heap.size := hW.lt H (by rw [hH]; decide)
  refine (marks_any κ _ _ 3 3 [⟨90, #[.pointer (some ⟨H, 0, none⟩)]⟩, ⟨f, c⟩, ⟨91, #[.pointer (some ⟨H, 0, none⟩)]⟩] [ofP 10, justP 13 0, takeP] (HeldJ H) rfl (hW.kept0 hk) (fcs_new hW _ _ _ rfl (by simp)) rfl (by simp) ?_ (fun _ => .inl rfl) HeldJ.stay).mono ?_
  · intro i x P hx hP pre hpre
    match i, hx, hP, hpre with
    | 0, hx, hP, hpre =>
      simp only [List.getElem?_cons_zero, Option.some.injEq] at hx hP
      subst hx hP
      obtain rfl := List.eq_nil_of_length_eq_zero hpre
      exact (fits_wait hH hlt).lat (Lat.of0 hk)
    | 1, hx, hP, hpre =>
      simp only [List.getElem?_cons_succ, List.getElem?_cons_zero, Option.some.injEq] at hx hP
      subst hx hP
      exact fits_mid (h.lat (Lat.of0 hk)) (by rintro rfl; simp at hpre)
    | 2, hx, hP, hpre =>
      simp only [List.getElem?_cons_succ, List.getElem?_cons_zero, Option.some.injEq] at hx hP
      subst hx hP
      exact fits_take (by rintro rfl; simp at hpre)
    | i + 3, hx, _, _ => simp at hx
  · rintro e w' ⟨f', c', rfl, hL, hk'⟩
    exact ⟨f', c', rfl, hL, hk.tr0 hk'⟩

/-- One colour more. -/
def paint (κ : Nat → Nat) (b c : Nat) : Nat → Nat := fun i => if i = b then c else κ i
theorem paint_at (κ : Nat → Nat) (b c : Nat) : paint κ b c b = c := if_pos rfl
theorem paint_not (κ : Nat → Nat) {b c i : Nat} (h : i ≠ b) : paint κ b c i = κ i := if_neg h
/-- What waitRows tells: one variable more. -/
def LadW (κ : Nat → Nat) (w : World) (rs : List Rw) (e : Ending) (w' : World) : Prop := ∃ s n c xs w3, e = .returned (.slice s n c) ∧ n = xs.length ∧ RowsAt (paint κ w.heap.size 4) w3 xs rs ∧ Kept (fun _ => False) w w3 ∧ Wl (paint κ w.heap.size 4) w3 ∧ Kept (fun _ => False) w3 w' ∧ w'.ownsRow w3.heap.size 140 2 (.slice s n c) n (flat Rc.cells xs)

set_option maxHeartbeats 4000000 in
theorem waitRows_any (κ0 : Nat → Nat) (w : World) (hW : Wl κ0 w) : Calls Tryz.prog 73 #[] w (LadW κ0 w waitRows) := by
  obtain ⟨W0, hW0⟩ : ∃ W0, w.alloc (.cells #[.int .i64 0] 2) = W0 := ⟨_, rfl⟩
  have hk0 : Kept (fun _ => False) w W0 := by rw [← hW0]; exact (Kept.refl _ _).alloc _
  have hh : W0.heap[w.heap.size]? = some (.cells #[.int .i64 0] 2 (0, 0)) := by rw [← hW0]; exact heap_new1 _ _
  have hs : W0.heap.size = w.heap.size + 1 := by rw [← hW0]; simp
  obtain ⟨κ, hκ⟩ : ∃ κ, paint κ0 w.heap.size 4 = κ := ⟨_, rfl⟩
  have hwl : Wl κ W0 := by
    subst hκ
    refine ⟨fun b hb => ?_, fun b hb => ?_⟩
    · by_cases e : b = w.heap.size
      · omega
      · rw [paint_not κ0 e] at hb; have := hW.lt b hb; omega
    · by_cases e : b = w.heap.size
      · subst e; exact ⟨0, hh⟩
      · rw [paint_not κ0 e] at hb
        obtain ⟨v, hv⟩ := hW.hd b hb
        exact ⟨v, hk0.at0 hv⟩
  have HH4 : Hid (κ w.heap.size = 4) := Lib.hid (by rw [← hκ]; exact paint_at _ _ _)
  have Hκ := Lib.hid hκ
  have HW0 := Lib.hid hwl
  have HK0 := Lib.hid hk0
  clear hW hk0 hh hs hwl hκ
  subst hW0
  go_enter Tryz.func73, Tryz.ntmps73
  go_wp2_with fail
  refine (of_any1 κ 17 _ HW0.out).mono ?_
  rintro e w1 ⟨f1, c1, rfl, hx1, hk1⟩
  have hl1 := Lat.of0 (κ := κ) hk1
  have HW1 := Lib.hid (HW0.out.kept0 hk1)
  have HK1 := Lib.hid (HK0.out.tr0 hk1)
  clear HK0
  have HF00 := Lib.hid hx1
  clear hx1 hk1 hl1
  go_wp2_with fail
  refine (marks1 HW1.out HF00.out).mono ?_
  rintro e w2 ⟨f2, c2, rfl, hx2, hk2⟩
  have hl2 := Lat.of0 (κ := κ) hk2
  have HW2 := Lib.hid (HW1.out.kept0 hk2)
  have HF00_2 := Lib.hid (HF00.out.lat hl2)
  clear HF00
  have HK2 := Lib.hid (HK1.out.tr0 hk2)
  clear HK1
  have HL0 := Lib.hid hx2
  clear hx2 hk2 hl2
  go_wp2_with fail
  refine (to1 HW2.out 2).mono ?_
  rintro e w3 ⟨f3, c3, rfl, hx3, hk3⟩
  have hl3 := Lat.of0 (κ := κ) hk3
  have HW3 := Lib.hid (HW2.out.kept0 hk3)
  have HL0_3 := Lib.hid (HL0.out.lat hl3)
  clear HL0
  have HK3 := Lib.hid (HK2.out.tr0 hk3)
  clear HK2
  have HC0 := Lib.hid hx3
  clear hx3 hk3 hl3
  go_wp2_with fail
  refine (marks0 κ _ HW3.out).mono ?_
  rintro e w4 ⟨f4, c4, rfl, hx4, hk4⟩
  have hl4 := Lat.of0 (κ := κ) hk4
  have HW4 := Lib.hid (HW3.out.kept0 hk4)
  have HL0_4 := Lib.hid (HL0_3.out.lat hl4)
  clear HL0_3
  have HC0_4 := Lib.hid (HC0.out.lat hl4)
  clear HC0
  have HK4 := Lib.hid (HK3.out.tr0 hk4)
  clear HK3
  have HL1 := Lib.hid hx4
  clear hx4 hk4 hl4
  go_wp2_with fail
  refine (to1 HW4.out 6).mono ?_
  rintro e w5 ⟨f5, c5, rfl, hx5, hk5⟩
  have hl5 := Lat.of0 (κ := κ) hk5
  have HW5 := Lib.hid (HW4.out.kept0 hk5)
  have HL0_5 := Lib.hid (HL0_4.out.lat hl5)
  clear HL0_4
  have HC0_5 := Lib.hid (HC0_4.out.lat hl5)
  clear HC0_4
  have HL1_5 := Lib.hid (HL1.out.lat hl5)
  clear HL1
  have HK5 := Lib.hid (HK4.out.tr0 hk5)
  clear HK4
  have HC1 := Lib.hid hx5
  clear hx5 hk5 hl5
  go_wp2_with fail
  refine (marksw2 HW5.out HH4.out).mono ?_
  rintro e w6 ⟨f6, c6, rfl, hx6, hk6⟩
  have hl6 := Lat.of0 (κ := κ) hk6
  have HW6 := Lib.hid (HW5.out.kept0 hk6)
  have HL0_6 := Lib.hid (HL0_5.out.lat hl6)
  clear HL0_5
  have HC0_6 := Lib.hid (HC0_5.out.lat hl6)
  clear HC0_5
  have HL1_6 := Lib.hid (HL1_5.out.lat hl6)
  clear HL1_5
  have HC1_6 := Lib.hid (HC1.out.lat hl6)
  clear HC1
  have HK6 := Lib.hid (HK5.out.tr0 hk6)
  clear HK5
  have HL2 := Lib.hid hx6
  clear hx6 hk6 hl6
  go_wp2_with fail
  refine (to1 HW6.out 0).mono ?_
  rintro e w7 ⟨f7, c7, rfl, hx7, hk7⟩
  have hl7 := Lat.of0 (κ := κ) hk7
  have HW7 := Lib.hid (HW6.out.kept0 hk7)
  have HL0_7 := Lib.hid (HL0_6.out.lat hl7)
  clear HL0_6
  have HC0_7 := Lib.hid (HC0_6.out.lat hl7)
  clear HC0_6
  have HL1_7 := Lib.hid (HL1_6.out.lat hl7)
  clear HL1_6
  have HC1_7 := Lib.hid (HC1_6.out.lat hl7)
  clear HC1_6
  have HL2_7 := Lib.hid (HL2.out.lat hl7)
  clear HL2
  have HK7 := Lib.hid (HK6.out.tr0 hk7)
  clear HK6
  have HC2 := Lib.hid hx7
  clear hx7 hk7 hl7
  go_wp2_with fail
  refine (just_any κ 13 0 _ HW7.out).mono ?_
  rintro e w8 ⟨f8, c8, rfl, hx8, hk8⟩
  have hl8 := Lat.of0 (κ := κ) hk8
  have HW8 := Lib.hid (HW7.out.kept0 hk8)
  have HL0_8 := Lib.hid (HL0_7.out.lat hl8)
  clear HL0_7
  have HC0_8 := Lib.hid (HC0_7.out.lat hl8)
  clear HC0_7
  have HL1_8 := Lib.hid (HL1_7.out.lat hl8)
  clear HL1_7
  have HC1_8 := Lib.hid (HC1_7.out.lat hl8)
  clear HC1_7
  have HL2_8 := Lib.hid (HL2_7.out.lat hl8)
  clear HL2_7
  have HC2_8 := Lib.hid (HC2.out.lat hl8)
  clear HC2
  have HK8 := Lib.hid (HK7.out.tr0 hk8)
  clear HK7
  have HM := Lib.hid hx8
  clear hx8 hk8 hl8
  go_wp2_with fail
  refine (marksw3 HW8.out HH4.out HM.out).mono ?_
  rintro e w9 ⟨f9, c9, rfl, hx9, hk9⟩
  have hl9 := Lat.of0 (κ := κ) hk9
  have HW9 := Lib.hid (HW8.out.kept0 hk9)
  have HL0_9 := Lib.hid (HL0_8.out.lat hl9)
  clear HL0_8
  have HC0_9 := Lib.hid (HC0_8.out.lat hl9)
  clear HC0_8
  have HL1_9 := Lib.hid (HL1_8.out.lat hl9)
  clear HL1_8
  have HC1_9 := Lib.hid (HC1_8.out.lat hl9)
  clear HC1_8
  have HL2_9 := Lib.hid (HL2_8.out.lat hl9)
  clear HL2_8
  have HC2_9 := Lib.hid (HC2_8.out.lat hl9)
  clear HC2_8
  have HM_9 := Lib.hid (HM.out.lat hl9)
  clear HM
  have HK9 := Lib.hid (HK8.out.tr0 hk9)
  clear HK8
  have HL3 := Lib.hid hx9
  clear hx9 hk9 hl9
  go_wp2_with fail
  refine (to2 HW9.out 2 3).mono ?_
  rintro e w10 ⟨f10, c10, rfl, hx10, hk10⟩
  have hl10 := Lat.of0 (κ := κ) hk10
  have HW10 := Lib.hid (HW9.out.kept0 hk10)
  have HL0_10 := Lib.hid (HL0_9.out.lat hl10)
  clear HL0_9
  have HC0_10 := Lib.hid (HC0_9.out.lat hl10)
  clear HC0_9
  have HL1_10 := Lib.hid (HL1_9.out.lat hl10)
  clear HL1_9
  have HC1_10 := Lib.hid (HC1_9.out.lat hl10)
  clear HC1_9
  have HL2_10 := Lib.hid (HL2_9.out.lat hl10)
  clear HL2_9
  have HC2_10 := Lib.hid (HC2_9.out.lat hl10)
  clear HC2_9
  have HL3_10 := Lib.hid (HL3.out.lat hl10)
  clear HL3
  have HK10 := Lib.hid (HK9.out.tr0 hk10)
  clear HK9
  have HC3 := Lib.hid hx10
  clear hx10 hk10 hl10
  have hat : RowsAt κ w10 [Rc.mk f2 c2 f3 c3, Rc.mk f4 c4 f5 c5, Rc.mk f6 c6 f7 c7, Rc.mk f9 c9 f10 c10] [⟨marksL [ofP 17], [2]⟩, noneR, ⟨marksL [ofP 10, takeP], [0]⟩, ⟨marksL [ofP 10, justP 13 0, takeP], [2, 3]⟩] := ⟨⟨HL0_10.out, HC0_10.out⟩, ⟨HL1_10.out, HC1_10.out⟩, ⟨HL2_10.out, HC2_10.out⟩, ⟨HL3_10.out, HC3.out⟩, trivial⟩
  have HAT := Lib.hid hat
  clear hat
  clear HL0_10
  clear HC0_10
  clear HL1_10
  clear HC1_10
  clear HL2_10
  clear HC2_10
  clear HL3_10
  clear HC3
  have hown : (w10.alloc (.cells #[.func (.func f2) #[] c2, .func (.func f3) #[] c3, .func (.func f4) #[] c4, .func (.func f5) #[] c5, .func (.func f6) #[] c6, .func (.func f7) #[] c7, .func (.func f9) #[] c9, .func (.func f10) #[] c10] 140)).ownsRow w10.heap.size 140 2 (.slice (some ⟨w10.heap.size, 0, none⟩) 4 4) 4 (flat Rc.cells [Rc.mk f2 c2 f3 c3, Rc.mk f4 c4 f5 c5, Rc.mk f6 c6 f7 c7, Rc.mk f9 c9 f10 c10]) := World.ownsRow_lit w10 #[.func (.func f2) #[] c2, .func (.func f3) #[] c3, .func (.func f4) #[] c4, .func (.func f5) #[] c5, .func (.func f6) #[] c6, .func (.func f7) #[] c7, .func (.func f9) #[] c9, .func (.func f10) #[] c10] 4 (Nat.le_refl _) (by unfold maxLen; omega) rfl
  have HOWN := Lib.hid hown
  clear hown
  go_wp2_with fail
  go_ret
  exact ⟨_, _, _, _, w10, rfl, rfl, by rw [Hκ.out]; exact HAT.out, HK10.out, by rw [Hκ.out]; exact HW10.out, (Kept.refl _ _).alloc _, HOWN.out⟩
end Go.Proofs.YtbodlaiakcoabaaGreatDoor
end
