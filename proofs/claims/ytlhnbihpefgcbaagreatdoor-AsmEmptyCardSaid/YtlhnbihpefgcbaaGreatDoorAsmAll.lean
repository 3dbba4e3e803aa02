/-
  What the program's Assemble comes to.
  Conditions: the table lies as the program's text lays it; the texts' bytes and lines are at most 100000.
-/
import Derived.Test.YtlhnbihpefgcbaaGreatDoorAsmIn
import Derived.Deep.RegionLaw
namespace Go.Proofs.YtlhnbihpefgcbaaGreatDoor
open Go.RowKit Go.Shelf

/-- What the program's Assemble leaves. -/
def AsmPTo (w : World) (r : Except (Nat × Nat) (List Ln × Labs)) (e : Ending) (w' : World) : Prop :=
  Kept (fun _ => False) w w' ∧ match r with
    | .error p => ∃ g, w.heap.size ≤ g ∧ SpotAt w' g p ∧ e = .returned (.tuple #[.slice none 0 0, .slice none 0 0, spotV g])
    | .ok p => ∃ v u, e = .returned (.tuple #[v, u, .nilIface]) ∧ Two w.heap.size w' v u p.1 p.2

theorem row_base2 {w : World} {base base' : Nat} {e : TypeId} {size n : Nat} {v : Value} {xs : List Value} (h : w.ownsRow base e size v n xs) (hb : base' ≤ base) : w.ownsRow base' e size v n xs := by
  refine ⟨h.1, ?_⟩
  rcases h.2 with h2 | ⟨g, cap, cur, h3, h5, h4⟩
  · exact .inl h2
  · exact .inr ⟨g, cap, cur, h3, Nat.le_trans hb h5, h4⟩
/-- At the return: the marks are taken, the results' cells are read. -/
theorem ret_post {sl : Option Addr} {n cap r0 r1 r2 b : Nat} {iv : Value} {Ds : List Nat} {W : World} {R : Ending → World → Prop} {x0 x1 x2 : Value} {a : Act} (ha : ∃ u, a = frA sl n cap r0 r1 r2 b iv Ds u)
    (c0 : W.heap[r0]? = some (.cells #[x0] 25 (0, 0))) (c1 : W.heap[r1]? = some (.cells #[x1] 26 (0, 0))) (c2 : W.heap[r2]? = some (.cells #[x2] 28 (0, 0))) (h0 : r0 ≤ r2) (h1 : r1 ≤ r2)
    (hn : Ds.Nodup) (hm : ∀ D ∈ Ds, r2 < D ∧ W.heap[D]? = some (.deferred (some []))) (hR : ∀ w', Kept (fun k => k ∈ Ds) W w' → R (.returned (.tuple #[x0, x1, x2])) w') :
    bodyPostM Fence.wide 3 Tryz.prog Tryz.f9 R .ret a W := by
  obtain ⟨u, rfl⟩ := ha
  refine leaves_marks Ds W hn (fun D hD => (hm D hD).2) (fun w' hk => ⟨.tuple #[x0, x1, x2], ?_, hR w' hk⟩)
  have b0 : w'.cell? ⟨r0, 0, none⟩ = some x0 := by rw [cell_at w' _ 0 _ _ (hk.at_ c0 (fun hD => by have := (hm _ hD).1; omega))]; rfl
  have b1 : w'.cell? ⟨r1, 0, none⟩ = some x1 := by rw [cell_at w' _ 0 _ _ (hk.at_ c1 (fun hD => by have := (hm _ hD).1; omega))]; rfl
  have b2 : w'.cell? ⟨r2, 0, none⟩ = some x2 := by rw [cell_at w' _ 0 _ _ (hk.at_ c2 (fun hD => by have := (hm _ hD).1; omega))]; rfl
  unfold frA
  simp [results, Tryz.f9, go_sem, b0, b1, b2]

/-- A line that is none. -/
theorem ret_none {w W : World} {sl : Option Addr} {n cap b : Nat} {iv : Value} {Ds : List Nat} {LS : List Str} {a : Act} (ha : ∃ u, a = frA sl n cap w.heap.size (w.heap.size + 1) (w.heap.size + 2) b iv Ds u) (h : RetAt w (w.heap.size + 1) (w.heap.size + 2) LS (fun _ => False) Ds W) :
    bodyPostM Fence.wide 3 Tryz.prog Tryz.f9 (AsmPTo w (asmA LS)) .ret a W := by
  obtain ⟨g, p, e1, e2, e3, e4, e5, e6, e7, e8, e9, e10, e11⟩ := h
  refine ret_post ha e7 e8 e9 (by omega) (by omega) e10 e11 (fun w' hk => ?_)
  rw [e1]
  exact ⟨e6.trans hk (fun i hi hD => by have := (e11 i hD).1; omega), g, by omega, e3.kept hk e5, rfl⟩
/-- All is well. -/
theorem ret_all {w W W3 : World} {sl : Option Addr} {n cap m b : Nat} {iv : Value} {Ds : List Nat} {LS : List Str} {a : Act} {st : Bst} {v z q : Value} {F : Nat → Prop} {c : List Ln} {l : Labs} (ha : ∃ u, a = frA sl n cap w.heap.size (w.heap.size + 1) (w.heap.size + 2) b iv Ds u)
    (hA : asmA LS = .ok (c, l)) (hc : st.code = c) (hl : st.labs = l) (hH : Held w W3 (w.heap.size + 1) (w.heap.size + 2) Ds F) (hk : Kept (fun _ => False) w W3) (hb : Bld (w.heap.size + 5) b m W3 st v z q) (hF : ∀ k, foot b m v z q k → F k)
    (hW : W.heap = (((W3.setCell ⟨w.heap.size, 0, none⟩ v).setCell ⟨w.heap.size + 1, 0, none⟩ z).setCell ⟨w.heap.size + 2, 0, none⟩ .nilIface).heap) (hW1 : W.os = W3.os) (hW2 : W.tape = W3.tape) (hW3 : W.output = W3.output) :
    bodyPostM Fence.wide 3 Tryz.prog Tryz.f9 (AsmPTo w (asmA LS)) .ret a W := by
  subst hc hl
  obtain ⟨X1, hX1⟩ : ∃ X, W3.setCell ⟨w.heap.size, 0, none⟩ v = X := ⟨_, rfl⟩
  obtain ⟨X2, hX2⟩ : ∃ X, X1.setCell ⟨w.heap.size + 1, 0, none⟩ z = X := ⟨_, rfl⟩
  obtain ⟨X3, hX3⟩ : ∃ X, X2.setCell ⟨w.heap.size + 2, 0, none⟩ .nilIface = X := ⟨_, rfl⟩
  rw [hX1, hX2, hX3] at hW
  have k1 : Kept (fun k => k = w.heap.size) W3 X1 := by rw [← hX1]; exact (Kept.refl _ W3).setCell _ _ (fun _ => rfl)
  have k2 : Kept (fun k => k = w.heap.size + 1) X1 X2 := by rw [← hX2]; exact (Kept.refl _ X1).setCell _ _ (fun _ => rfl)
  have k3 : Kept (fun k => k = w.heap.size + 2) X2 X3 := by rw [← hX3]; exact (Kept.refl _ X2).setCell _ _ (fun _ => rfl)
  have k03 : Kept (fun k => k = w.heap.size ∨ k = w.heap.size + 1 ∨ k = w.heap.size + 2) W3 X3 := ((k1.mono (fun k _ e => .inl e)).trans k2 (fun k _ e => .inr (.inl e))).trans k3 (fun k _ e => .inr (.inr e))
  have k0 : Kept (fun k => k = w.heap.size ∨ k = w.heap.size + 1 ∨ k = w.heap.size + 2) W3 W := ⟨hW1, hW2, hW3, by rw [hW]; exact k03.size, fun k hk hn => by rw [hW]; exact k03.block k hk hn⟩
  have e0 : X1.heap[w.heap.size]? = some (.cells #[v] 25 (0, 0)) := by rw [← hX1]; exact set_cellB hH.c0
  have e1 : X2.heap[w.heap.size + 1]? = some (.cells #[z] 26 (0, 0)) := by rw [← hX2]; exact set_cellB (k1.at_ hH.c1 (by omega))
  have e2 : X3.heap[w.heap.size + 2]? = some (.cells #[.nilIface] 28 (0, 0)) := by rw [← hX3]; exact set_cellB (k2.at_ (k1.at_ hH.c2 (by omega)) (by omega))
  have hbW := hb.kept k0 (fun k hk => by have := hH.far k (hF k hk); omega)
  refine ret_post ha (by rw [hW]; exact k3.at_ (k2.at_ e0 (by omega)) (by omega)) (by rw [hW]; exact k3.at_ e1 (by omega)) (by rw [hW]; exact e2) (by omega) (by omega) hH.nod (fun D hD => ⟨(hH.mark D hD).1, k0.at_ (hH.mark D hD).2.1 (by have := (hH.mark D hD).1; omega)⟩) (fun w' hkw => ?_)
  rw [hA]
  have hnD : ∀ k, foot b m v z q k → ¬ k ∈ Ds := fun k hk hD => (hH.mark k hD).2.2 (hF k hk)
  have hbw := hbW.kept hkw hnD
  refine ⟨(hk.trans k0 (fun i hi e => by omega)).trans hkw (fun i hi hD => by have := (hH.mark i hD).1; omega), v, z, rfl, row_base2 hbw.code (by omega), row_base2 hbw.labs (by omega), fun g hg => (hbw.apart.2.2.2.2.2.2.2.1 g hg).1⟩

set_option maxRecDepth 100000 in
set_option maxHeartbeats 8000000 in
theorem asm_tail {w wr : World} {sl : Option Addr} {n cap r1 r2 m b : Nat} {iv : Value} {Ds : List Nat} {LS : List Str} (hr1 : r1 = w.heap.size + 1) (hr2 : r2 = w.heap.size + 2) (h : InAt w r1 r2 m b LS (fun _ => False) Ds LS.length wr)
    (a : Act) (ha : ∃ u, a = frA sl n cap w.heap.size r1 r2 b iv Ds u) : Code.wp Tryz.prog (down [1, 1, 1] (Tryz.f9.body.getD .skip)) (bodyPostM Fence.wide 3 Tryz.prog Tryz.f9 (AsmPTo w (asmA LS))) a wr := by
  obtain ⟨u, rfl⟩ := ha
  subst hr1 hr2
  unfold frA
  conv => arg 2; whnf
  obtain ⟨st, v, z, q, i1, i2, i3, i4, i5, i6, i7, i8⟩ := h
  rw [List.take_length] at i1
  have HA := Lib.hid (link_any i4 i2)
  have HI := Lib.hid i7
  have HK := Lib.hid i6
  have HP : Hid (asmA LS = match linkA st.labs st.code st.jmps with
    | .error i => .error (4, i)
    | .ok c => .ok (c, st.labs)) := Lib.hid (by rw [← prog_is]; unfold progA; rw [i1]; rfl)
  have HO := Lib.hid i2
  clear i1 i2 i4 i5 i6 i7
  go_wp2_with fail
  refine HA.out.mono ?_
  rintro e W3 ⟨hk3, hm⟩
  have hfar := HI.out.far
  cases hl : linkA st.labs st.code st.jmps with
  | error i =>
    rw [hl] at hm
    obtain ⟨g, hg, rfl, hs⟩ := hm
    have hA : asmA LS = .error (4, i) := by rw [HP.out, hl]
    obtain ⟨⟨d0, e0, d1, e1, d2, e2⟩, hK4, hR4⟩ := ret_end (R := fun _ => False) rfl rfl HI.out HK.out hk3 (fun _ _ f => f) (fun _ f => f.elim) hA hs hg (fun f => f)
    have HR4 := Lib.hid hR4
    clear hs hK4 hR4 hk3 hA hl HA hg
    go_wp2_with fail
    exact ret_none (sl := sl) (n := n) (cap := cap) (b := b) (iv := iv) (frA_of (by kernel_rfl)) HR4.out
  | ok c =>
    rw [hl] at hm
    obtain ⟨rfl, hb⟩ := hm
    have hA : asmA LS = .ok (c, st.labs) := by rw [HP.out, hl]
    have hcl : c.length = st.code.length := link_len _ _ _ _ hl
    have hH3 : Held w W3 (w.heap.size + 1) (w.heap.size + 2) Ds (foot b m v z q) := HI.out.on rfl rfl hk3 hfar (fun D hD => (HI.out.mark D hD).2.2) (fun k hk => .inl hk)
    have hkw : Kept (fun _ => False) w W3 := HK.out.trans hk3 (fun i hi e => by have := hfar i e; omega)
    obtain ⟨sv, cv, rfl, _⟩ := Made.of_own insC_five hb.code rfl (by show c.length ≤ maxLen; have := HO.out.code; unfold maxLen; omega)
    obtain ⟨sz, cz, rfl, _⟩ := Made.of_own labC_two hb.labs rfl (by show st.labs.length ≤ maxLen; have := HO.out.labs; have := HO.out.line; unfold maxLen; omega)
    dsimp only at hb hH3 hk3
    obtain ⟨⟨c0, c1, c2, c3, c4⟩, _⟩ := hb.cells
    have d0 : W3.cell? ⟨w.heap.size, 0, none⟩ = some (.slice none 0 0) := by rw [cell_at W3 _ 0 _ _ hH3.c0]; rfl
    have d1 : W3.cell? ⟨w.heap.size + 1, 0, none⟩ = some (.slice none 0 0) := by rw [cell_at W3 _ 0 _ _ hH3.c1]; rfl
    have d2 : W3.cell? ⟨w.heap.size + 2, 0, none⟩ = some .nilIface := by rw [cell_at W3 _ 0 _ _ hH3.c2]; rfl
    have e0 : W3.frozen? ⟨w.heap.size, 0, none⟩ = false := frozen_at W3 _ 0 _ _ hH3.c0
    have e1 : W3.frozen? ⟨w.heap.size + 1, 0, none⟩ = false := frozen_at W3 _ 0 _ _ hH3.c1
    have e2 : W3.frozen? ⟨w.heap.size + 2, 0, none⟩ = false := frozen_at W3 _ 0 _ _ hH3.c2
    have hbn : w.heap.size + 2 < b := hfar b (.inl rfl)
    have n0 : b ≠ w.heap.size := by omega
    have n1 : b ≠ w.heap.size + 1 := by omega
    have n2 : b ≠ w.heap.size + 2 := by omega
    have HFIN := Lib.hid (fun (a : Act) (W : World) ha h1 h2 h3 h4 => ret_all (a := a) (W := W) (sl := sl) (n := n) (cap := cap) (iv := iv) (st := ⟨c, st.labs, st.jmps, st.line⟩) ha hA rfl rfl hH3 hkw hb (fun k hk => hk) h1 h2 h3 h4)
    clear hH3 hkw hb hk3 hl hA HA hcl
    go_wp2_with fail
    go_region
    all_goals go_wp2_with fail
    all_goals exact HFIN.out _ _ (frA_of (by kernel_rfl)) rfl rfl rfl rfl

theorem texts_at {ts : List Str} {i : Nat} {t : Str} (h : ts[i]? = some t) (j : Nat) (x : Str) (hx : (linesL t)[j]? = some x) : (textsL ts)[(textsL (ts.take i)).length + j]? = some x := by
  have hi := (List.getElem?_eq_some_iff.1 h).1
  have e : textsL ts = textsL (ts.take i) ++ (linesL t ++ textsL (ts.drop (i + 1))) := by
    have : ts = ts.take i ++ t :: ts.drop (i + 1) := by
      rw [← (List.getElem?_eq_some_iff.1 h).2, ← List.drop_eq_getElem_cons hi, List.take_append_drop]
    conv => lhs; rw [this]
    simp [textsL]
  have hj := (List.getElem?_eq_some_iff.1 hx).1
  rw [e, List.getElem?_append_right (by omega), Nat.add_sub_cancel_left, List.getElem?_append_left hj]
  exact hx

def startW (w : World) : World := ((((w.alloc (.cells #[.slice none 0 0] 25)).alloc (.cells #[.slice none 0 0] 26)).alloc (.cells #[.nilIface] 28)).alloc (.map #[] 0)).alloc (.cells #[.slice none 0 0, .slice none 0 0, .map (some (w.heap.size + 1 + 1 + 1)), .slice none 0 0, .int .i64 0] 51)
theorem start_in (w : World) (LS : List Str) : InAt w (w.heap.size + 1) (w.heap.size + 2) (w.heap.size + 3) (w.heap.size + 4) LS (fun _ => False) [] 0 (startW w) := by
  unfold startW
  obtain ⟨W1, hW1⟩ : ∃ W, w.alloc (.cells #[.slice none 0 0] 25) = W := ⟨_, rfl⟩
  obtain ⟨W2, hW2⟩ : ∃ W, W1.alloc (.cells #[.slice none 0 0] 26) = W := ⟨_, rfl⟩
  obtain ⟨W3, hW3⟩ : ∃ W, W2.alloc (.cells #[.nilIface] 28) = W := ⟨_, rfl⟩
  obtain ⟨W4, hW4⟩ : ∃ W, W3.alloc (.map #[] 0) = W := ⟨_, rfl⟩
  obtain ⟨W5, hW5⟩ : ∃ W, W4.alloc (.cells #[.slice none 0 0, .slice none 0 0, .map (some (w.heap.size + 1 + 1 + 1)), .slice none 0 0, .int .i64 0] 51) = W := ⟨_, rfl⟩
  rw [hW1, hW2, hW3, hW4, hW5]
  have s1 : W1.heap.size = w.heap.size + 1 := by rw [← hW1]; simp
  have s2 : W2.heap.size = w.heap.size + 2 := by rw [← hW2]; simp [s1]
  have s3 : W3.heap.size = w.heap.size + 3 := by rw [← hW3]; simp [s2]
  have s4 : W4.heap.size = w.heap.size + 4 := by rw [← hW4]; simp [s3]
  have s5 : W5.heap.size = w.heap.size + 5 := by rw [← hW5]; simp [s4]
  have k1 : Kept (fun _ => False) w W1 := by rw [← hW1]; exact (Kept.refl _ w).alloc _
  have k2 : Kept (fun _ => False) W1 W2 := by rw [← hW2]; exact (Kept.refl _ W1).alloc _
  have k3 : Kept (fun _ => False) W2 W3 := by rw [← hW3]; exact (Kept.refl _ W2).alloc _
  have k4 : Kept (fun _ => False) W3 W4 := by rw [← hW4]; exact (Kept.refl _ W3).alloc _
  have k5 : Kept (fun _ => False) W4 W5 := by rw [← hW5]; exact (Kept.refl _ W4).alloc _
  have b0 : W1.heap[w.heap.size]? = some (.cells #[.slice none 0 0] 25 (0, 0)) := by rw [← hW1]; exact heap_new1 w _
  have b1 : W2.heap[w.heap.size + 1]? = some (.cells #[.slice none 0 0] 26 (0, 0)) := by rw [← hW2, ← s1]; exact heap_new1 W1 _
  have b2 : W3.heap[w.heap.size + 2]? = some (.cells #[.nilIface] 28 (0, 0)) := by rw [← hW3, ← s2]; exact heap_new1 W2 _
  have b3 : NamesAt W4 (w.heap.size + 3) [] := by rw [← hW4, ← s3]; exact names_new W3
  have b4 : W5.heap[w.heap.size + 4]? = some (.cells #[.slice none 0 0, .slice none 0 0, .map (some (w.heap.size + 3)), .slice none 0 0, .int .i64 0] 51 (0, 0)) := by rw [← hW5, ← s4]; exact heap_new1 W4 _
  refine ⟨bst0, .slice none 0 0, .slice none 0 0, .slice none 0 0, rfl, ⟨by decide, by decide, fun j h => (by cases h), by decide, by decide, fun j h => (by cases h), fun j h => (by cases h)⟩, rfl,
    ⟨b4, World.ownsRow_nil _ _ _ _, World.ownsRow_nil _ _ _ _, World.ownsRow_nil _ _ _ _, b3.kept k5 (fun f => f)⟩, fun _ _ f => f, (((k1.trans k2 (fun _ _ f => f)).trans k3 (fun _ _ f => f)).trans k4 (fun _ _ f => f)).trans k5 (fun _ _ f => f),
    ⟨k5.at_ (k4.at_ (k3.at_ (k2.at_ b0 (fun f => f)) (fun f => f)) (fun f => f)) (fun f => f), k5.at_ (k4.at_ (k3.at_ b1 (fun f => f)) (fun f => f)) (fun f => f), k5.at_ (k4.at_ b2 (fun f => f)) (fun f => f), ?_, List.nodup_nil, fun D h => by cases h⟩, by omega⟩
  rintro k (rfl | rfl | h | h | h)
  · omega
  · omega
  · cases h
  · cases h
  · cases h

set_option maxRecDepth 100000 in
set_option maxHeartbeats 8000000 in
theorem assemble_any (ts : List Str) (sl : Option Addr) (cap : Nat) (w : World) (hE : Elems w w.heap.size sl 1 sC ts) (hS : sizeL ts ≤ 100000) (hL : Laid w) {n : Nat} (hn : ts.length = n) :
    Calls Tryz.prog 9 #[.slice sl n cap] w (AsmPTo w (asmA (textsL ts))) := by
  have hmm := @run_makeMap Tryz.prog
  have HE := Lib.hid (fun w' (hk : Kept (fun _ => False) w w') => hE.kept hk (Nat.le_refl _) (fun _ _ f => f))
  have HLL := Lib.hid (Nat.le_trans (texts_len ts) hS)
  have HTL : Hid (∀ t ∈ ts, t.length ≤ 100000) := Lib.hid (fun t ht => by
    obtain ⟨i, hi⟩ := List.getElem?_of_mem ht
    have := size_snoc hi
    omega)
  have HSH : Hid (∀ s ∈ textsL ts, s.length ≤ 100000) := Lib.hid (texts_short HTL.out)
  have HN := Lib.hid hn
  have hn63 : (n : Int) ≤ 9223372036854775807 := by have := hE.1; rw [hn] at this; unfold maxLen at this; omega
  have HL := Lib.hid hL
  clear hE hS hL hn
  refine callsIn_wide.1 (callsIn_of_wp_marks (n := 3) Tryz.func9 rfl trivial ?_ rfl)
  simp only [Tryz.ntmps9, List.size_toArray, List.length_cons, List.length_nil, Nat.reduceAdd, Nat.reduceSub, Array.replicate_succ, Array.replicate_zero, List.push_toArray, List.append_toArray, List.nil_append, List.cons_append]
  refine wpIn_wide.2 ?_
  go_wp2_with fail
  rename_i K hK
  have HK := Lib.hid hK
  clear hK hmm
  refine wp_loop (fun a' w' => ∃ (i : Nat) (Ds : List Nat), i ≤ n ∧ (∃ u, a' = frA sl n cap w.heap.size (w.heap.size + 1) (w.heap.size + 2) (w.heap.size + 4) (.int .i64 i) Ds u) ∧
    InAt w (w.heap.size + 1) (w.heap.size + 2) (w.heap.size + 3) (w.heap.size + 4) (textsL ts) (fun _ => False) Ds (textsL (ts.take i)).length w') (fun a' _ => n - (intOf (a'.tmps.getD 15 undef)).toNat) ?start ?round
  case start =>
    exact ⟨0, [], by omega, frA_of (by kernel_rfl), start_in w (textsL ts)⟩
  case round =>
    rintro a wr ⟨i, Ds, hi, ⟨u, rfl⟩, hin⟩
    have HI := Lib.hid hin
    clear hin
    unfold frA
    by_cases hlt : i < n
    case neg =>
      obtain rfl : i = n := by omega
      have HIN : Hid (InAt w (w.heap.size + 1) (w.heap.size + 2) (w.heap.size + 3) (w.heap.size + 4) (textsL ts) (fun _ => False) Ds (textsL ts).length wr) := Lib.hid (by have := HI.out; rw [List.take_of_length_le (by rw [HN.out]; exact Nat.le_refl _)] at this; exact this)
      go_wp2_with fail
      refine HK.out _ _ ?_
      exact asm_tail (sl := sl) (n := i) (cap := cap) (iv := .int .i64 i) rfl rfl HIN.out _ (frA_of (by kernel_rfl))
    obtain ⟨t, ht⟩ : ∃ t, ts[i]? = some t := ⟨_, List.getElem?_eq_getElem (by rw [HN.out]; exact hlt)⟩
    have hkw : Kept (fun _ => False) w wr := by obtain ⟨st, v, z, q, _, _, _, _, _, h6, _⟩ := HI.out; exact h6
    obtain ⟨g, off, rfl, hg, hc⟩ := (HE.out wr hkw).2 i t ht
    have x0 : wr.cell? ⟨g, off + i, none⟩ = some (.string (strS t)) := by
      have := hc 0 (.string (strS t)) rfl
      simpa using this
    have HS := Lib.hid (splitSeq_any t wr)
    have HIX := Lib.hid (texts_at ht)
    have HTS : Hid (textsL (ts.take (i + 1)) = textsL (ts.take i) ++ linesL t) := Lib.hid (texts_snoc ht)
    have HTB := Lib.hid (HTL.out t (List.mem_of_getElem? ht))
    clear hc hkw ht
    go_wp2_with fail
    refine HS.out.mono ?_
    rintro e w' ⟨rfl, rfl⟩
    go_wp2_with fail
    refine asm_inner (sl := some ⟨g, off, none⟩) (n := n) (cap := cap) (iv := .int .i64 i) rfl rfl HTB.out HLL.out HSH.out HL.out HIX.out HI.out ?hdone ?hret _ (frF_of (by kernel_rfl))
    case hdone =>
      rintro a' W' ⟨u', rfl⟩ hin'
      have HI2 := Lib.hid hin'
      clear hin'
      unfold frA
      go_wp2_with fail
      refine ⟨⟨i + 1, (wr.heap.size + 3) :: Ds, by omega, frA_of (by kernel_rfl), ?_⟩, ?_⟩
      · rw [HTS.out, List.length_append]
        exact HI2.out
      · simp [intOf]; omega
    case hret =>
      intro a' W' ha hr
      exact ret_none ha hr
end Go.Proofs.YtlhnbihpefgcbaaGreatDoor
