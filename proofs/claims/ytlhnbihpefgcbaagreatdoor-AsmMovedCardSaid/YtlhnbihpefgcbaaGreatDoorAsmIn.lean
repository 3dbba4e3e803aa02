/-
  The loop over a text's lines in the program's Assemble.
  Conditions: the table lies as the program's text lays it; the texts' bytes and lines are at most 100000.
-/
import Derived.Test.YtlhnbihpefgcbaaGreatDoorAsmSeq
import Derived.Test.YtlhnbihpefgcbaaGreatDoorAsmAdd
import Derived.Test.YtlhnbihpefgcbaaGreatDoorAsmLink
import Derived.Test.YtlhnbihpefgcbaaGreatDoorLineSplit
namespace Go.Proofs.YtlhnbihpefgcbaaGreatDoor
open Go.RowKit Go.Shelf
attribute [local go_sem] Oper.semAt_some

/-- Assemble's frame: what is read later stands as it is, all else is any. -/
def frA (sl : Option Addr) (n cap r0 r1 r2 b : Nat) (iv : Value) (Ds : List Nat) (u : Nat → Value) : Act := ⟨#[.slice sl n cap, u 1, .pointer (some ⟨r0, 0, none⟩), .pointer (some ⟨r1, 0, none⟩), .pointer (some ⟨r2, 0, none⟩), .pointer (some ⟨b, 0, none⟩), u 6, u 7, u 8, u 9, u 10, u 11, u 12, .slice sl n cap, .int .i64 n, iv, u 16, u 17, u 18, u 19, u 20, u 21, u 22, u 23, u 24, u 25, u 26, u 27, u 28, u 29, u 30, u 31, u 32, u 33, u 34, u 35], Ds.map markAt⟩
/-- The same where an iterator stands. -/
def frF (sl : Option Addr) (n cap r0 r1 r2 b : Nat) (iv fv : Value) (Ds : List Nat) (u : Nat → Value) : Act := ⟨#[.slice sl n cap, u 1, .pointer (some ⟨r0, 0, none⟩), .pointer (some ⟨r1, 0, none⟩), .pointer (some ⟨r2, 0, none⟩), .pointer (some ⟨b, 0, none⟩), u 6, u 7, u 8, u 9, u 10, u 11, u 12, .slice sl n cap, .int .i64 n, iv, u 16, u 17, u 18, u 19, fv, u 21, u 22, u 23, u 24, u 25, u 26, u 27, u 28, u 29, u 30, u 31, u 32, u 33, u 34, u 35], Ds.map markAt⟩
/-- The same in a round. -/
def frC (sl : Option Addr) (n cap r0 r1 r2 b : Nat) (iv : Value) (x : ByteArray) (u : Nat → Value) : Act := ⟨#[.slice sl n cap, u 1, .pointer (some ⟨r0, 0, none⟩), .pointer (some ⟨r1, 0, none⟩), .pointer (some ⟨r2, 0, none⟩), .pointer (some ⟨b, 0, none⟩), u 6, u 7, .string x, u 9, u 10, u 11, u 12, .slice sl n cap, .int .i64 n, iv, u 16, u 17, u 18, u 19, u 20, .string x, u 22, u 23, u 24, u 25, u 26, u 27, u 28, u 29, u 30, u 31, u 32, u 33, u 34, u 35], []⟩
section
variable {sl : Option Addr} {n cap r0 r1 r2 b : Nat} {iv fv : Value} {Ds : List Nat} {a : Act}
theorem frA_of (h : a = frA sl n cap r0 r1 r2 b iv Ds (lett a)) : ∃ u, a = frA sl n cap r0 r1 r2 b iv Ds u := ⟨_, h⟩
theorem frF_of (h : a = frF sl n cap r0 r1 r2 b iv fv Ds (lett a)) : ∃ u, a = frF sl n cap r0 r1 r2 b iv fv Ds u := ⟨_, h⟩
end

theorem run_snoc {LS : List Str} {c : Nat} {st : Bst} {x : Str} (h : runA bst0 (LS.take c) = .ok st) (hx : LS[c]? = some x) : runA bst0 (LS.take (c + 1)) = addA st x := by
  have hc := (List.getElem?_eq_some_iff.1 hx).1
  rw [List.take_succ_eq_append_getElem hc, run_append, h, (List.getElem?_eq_some_iff.1 hx).2]
  dsimp only
  rw [run_cons]
  cases addA st x <;> rfl
theorem run_err {LS : List Str} {c : Nat} {p : Nat × Nat} (h : runA bst0 (LS.take c) = .error p) : asmA LS = .error p := by
  have e : runA bst0 LS = .error p := by
    have := run_append (LS.take c) (LS.drop c) bst0
    rw [List.take_append_drop, h] at this
    exact this
  rw [← prog_is]
  unfold progA
  rw [e]

/-- What stands beside the builder: the results' cells, and a mark for each loop that was left. -/
structure Held (w W : World) (r1 r2 : Nat) (Ds : List Nat) (F : Nat → Prop) : Prop where
  c0 : W.heap[w.heap.size]? = some (.cells #[.slice none 0 0] 25 (0, 0))
  c1 : W.heap[r1]? = some (.cells #[.slice none 0 0] 26 (0, 0))
  c2 : W.heap[r2]? = some (.cells #[.nilIface] 28 (0, 0))
  far : ∀ k, F k → r2 < k
  nod : Ds.Nodup
  mark : ∀ D ∈ Ds, r2 < D ∧ W.heap[D]? = some (.deferred (some [])) ∧ ¬ F D
section
variable {w A B : World} {r1 r2 : Nat} {Ds : List Nat} {F F' S : Nat → Prop}
theorem Held.on (h : Held w A r1 r2 Ds F) (hr1 : r1 = w.heap.size + 1) (hr2 : r2 = w.heap.size + 2) (hk : Kept S A B) (hS : ∀ k, S k → r2 < k) (hD : ∀ D ∈ Ds, ¬ S D) (hF : ∀ k, F' k → F k ∨ A.heap.size ≤ k) : Held w B r1 r2 Ds F' := by
  have e2 := (Array.getElem?_eq_some_iff.1 h.c2).1
  refine ⟨hk.at_ h.c0 (fun e => by have := hS _ e; omega), hk.at_ h.c1 (fun e => by have := hS _ e; omega), hk.at_ h.c2 (fun e => by have := hS _ e; omega), fun k hk2 => ?_, h.nod, fun D hd => ?_⟩
  · rcases hF k hk2 with e | e
    · exact h.far k e
    · omega
  · obtain ⟨d1, d2, d3⟩ := h.mark D hd
    refine ⟨d1, hk.at_ d2 (hD D hd), fun e => ?_⟩
    rcases hF D e with e | e
    · exact d3 e
    · have := (Array.getElem?_eq_some_iff.1 d2).1; omega
end

/-- How it stands when c lines are taken. -/
def InAt (w : World) (r1 r2 m b : Nat) (LS : List Str) (R : Nat → Prop) (Ds : List Nat) (c : Nat) (W : World) : Prop :=
  ∃ st v u q, runA bst0 (LS.take c) = .ok st ∧ BldOk st ∧ st.line = c ∧ Bld (w.heap.size + 5) b m W st v u q ∧ (∀ k, foot b m v u q k → ¬ R k) ∧ Kept (fun _ => False) w W ∧ Held w W r1 r2 Ds (foot b m v u q) ∧ w.heap.size + 5 ≤ W.heap.size
/-- How it stands when a line is none. -/
def RetAt (w : World) (r1 r2 : Nat) (LS : List Str) (R : Nat → Prop) (Ds : List Nat) (W : World) : Prop :=
  ∃ g p, asmA LS = .error p ∧ r2 < g ∧ SpotAt W g p ∧ ¬ R g ∧ g ∉ Ds ∧ Kept (fun _ => False) w W ∧ W.heap[w.heap.size]? = some (.cells #[.slice none 0 0] 25 (0, 0)) ∧ W.heap[r1]? = some (.cells #[.slice none 0 0] 26 (0, 0)) ∧
    W.heap[r2]? = some (.cells #[spotV g] 28 (0, 0)) ∧ Ds.Nodup ∧ ∀ D ∈ Ds, r2 < D ∧ W.heap[D]? = some (.deferred (some []))

/-- Behind the stores of an error. -/
theorem ret_end {w W W3 : World} {r1 r2 g : Nat} {Ds : List Nat} {F R : Nat → Prop} {LS : List Str} {p : Nat × Nat} (hr1 : r1 = w.heap.size + 1) (hr2 : r2 = w.heap.size + 2) (hH : Held w W r1 r2 Ds F) (hk0 : Kept (fun _ => False) w W) (hk3 : Kept F W W3) (hFR : ∀ k, F k → ¬ R k)
    (hRf : ∀ k, R k → r2 < k) (hA : asmA LS = .error p) (hs : SpotAt W3 g p) (hg : W.heap.size ≤ g) (hgR : ¬ R g) :
    (W3.cell? ⟨w.heap.size, 0, none⟩ = some (.slice none 0 0) ∧ W3.frozen? ⟨w.heap.size, 0, none⟩ = false ∧ W3.cell? ⟨w.heap.size + 1, 0, none⟩ = some (.slice none 0 0) ∧ W3.frozen? ⟨w.heap.size + 1, 0, none⟩ = false ∧ W3.cell? ⟨w.heap.size + 2, 0, none⟩ = some .nilIface ∧ W3.frozen? ⟨w.heap.size + 2, 0, none⟩ = false) ∧
    Kept (fun k => ¬ R k) W (((W3.setCell ⟨w.heap.size, 0, none⟩ (.slice none 0 0)).setCell ⟨w.heap.size + 1, 0, none⟩ (.slice none 0 0)).setCell ⟨w.heap.size + 2, 0, none⟩ (spotV g)) ∧
    RetAt w r1 r2 LS R Ds (((W3.setCell ⟨w.heap.size, 0, none⟩ (.slice none 0 0)).setCell ⟨w.heap.size + 1, 0, none⟩ (.slice none 0 0)).setCell ⟨w.heap.size + 2, 0, none⟩ (spotV g)) := by
  subst hr1 hr2
  have nF : ∀ k, k ≤ w.heap.size + 2 → ¬ F k := fun k hk hf => by have := hH.far k hf; omega
  have b0 := hk3.at_ hH.c0 (nF _ (by omega))
  have b1 := hk3.at_ hH.c1 (nF _ (by omega))
  have b2 := hk3.at_ hH.c2 (nF _ (by omega))
  have hlt2 : w.heap.size + 2 < W.heap.size := (Array.getElem?_eq_some_iff.1 hH.c2).1
  obtain ⟨X1, hX1⟩ : ∃ X, W3.setCell ⟨w.heap.size, 0, none⟩ (.slice none 0 0) = X := ⟨_, rfl⟩
  obtain ⟨X2, hX2⟩ : ∃ X, X1.setCell ⟨w.heap.size + 1, 0, none⟩ (.slice none 0 0) = X := ⟨_, rfl⟩
  obtain ⟨X3, hX3⟩ : ∃ X, X2.setCell ⟨w.heap.size + 2, 0, none⟩ (spotV g) = X := ⟨_, rfl⟩
  rw [hX1, hX2, hX3]
  have k1 : Kept (fun k => k = w.heap.size) W3 X1 := by rw [← hX1]; exact (Kept.refl _ W3).setCell _ _ (fun _ => rfl)
  have k2 : Kept (fun k => k = w.heap.size + 1) X1 X2 := by rw [← hX2]; exact (Kept.refl _ X1).setCell _ _ (fun _ => rfl)
  have k3 : Kept (fun k => k = w.heap.size + 2) X2 X3 := by rw [← hX3]; exact (Kept.refl _ X2).setCell _ _ (fun _ => rfl)
  have e0 : X1.heap[w.heap.size]? = some (.cells #[.slice none 0 0] 25 (0, 0)) := by rw [← hX1]; exact set_cellB b0
  have e1 : X2.heap[w.heap.size + 1]? = some (.cells #[.slice none 0 0] 26 (0, 0)) := by rw [← hX2]; exact set_cellB (k1.at_ b1 (by omega))
  have e2 : X3.heap[w.heap.size + 2]? = some (.cells #[spotV g] 28 (0, 0)) := by rw [← hX3]; exact set_cellB (k2.at_ (k1.at_ b2 (by omega)) (by omega))
  have k0 : Kept (fun k => k ≤ w.heap.size + 2) W3 X3 := ((k1.mono (fun k _ e => by omega)).trans k2 (fun k _ e => by omega)).trans k3 (fun k _ e => by omega)
  refine ⟨⟨by rw [cell_at W3 _ 0 _ _ b0]; rfl, frozen_at W3 _ 0 _ _ b0, by rw [cell_at W3 _ 0 _ _ b1]; rfl, frozen_at W3 _ 0 _ _ b1, by rw [cell_at W3 _ 0 _ _ b2]; rfl, frozen_at W3 _ 0 _ _ b2⟩, ?_, g, p, hA, by omega, ?_, hgR, ?_, ?_, ?_, ?_, e2, hH.nod, ?_⟩
  · exact (hk3.mono (fun k _ e => hFR k e)).trans k0 (fun k _ e hr => by have := hRf k hr; omega)
  · exact hs.kept k0 (by omega)
  · exact fun hD => by have := (Array.getElem?_eq_some_iff.1 (hH.mark g hD).2.1).1; omega
  · refine (hk0.trans hk3 (fun i hi hf => by have := hH.far i hf; omega)).trans (T := fun k => k = w.heap.size ∨ k = w.heap.size + 1 ∨ k = w.heap.size + 2) ?_ (fun i hi e => by omega)
    exact ((k1.mono (fun k _ e => .inl e)).trans k2 (fun k _ e => .inr (.inl e))).trans k3 (fun k _ e => .inr (.inr e))
  · exact k3.at_ (k2.at_ e0 (by omega)) (by omega)
  · exact k3.at_ e1 (by omega)
  · exact fun D hD => ⟨(hH.mark D hD).1, k0.at_ (hk3.at_ (hH.mark D hD).2.1 (hH.mark D hD).2.2) (by have := (hH.mark D hD).1; omega)⟩

set_option maxRecDepth 100000 in
set_option maxHeartbeats 8000000 in
theorem asm_inner {w wr : World} {sl : Option Addr} {n cap r1 r2 m b d : Nat} {iv : Value} {Ds : List Nat} {LS : List Str} {z : Str} {Q : Exit → Act → World → Prop} (hr1 : r1 = w.heap.size + 1) (hr2 : r2 = w.heap.size + 2) (hz : z.length ≤ 100000)
    (hLS : LS.length ≤ 100000) (hls : ∀ s ∈ LS, s.length ≤ 100000) (hL : Laid w) (hd : ∀ j x, (linesL z)[j]? = some x → LS[d + j]? = some x) (h : InAt w r1 r2 m b LS (fun _ => False) Ds d wr)
    (hdone : ∀ a' W', (∃ u', a' = frA sl n cap w.heap.size r1 r2 b iv ((wr.heap.size + 3) :: Ds) u') → InAt w r1 r2 m b LS (fun _ => False) ((wr.heap.size + 3) :: Ds) (d + (linesL z).length) W' → Q .normal a' W')
    (hret : ∀ a' W', (∃ u', a' = frA sl n cap w.heap.size r1 r2 b iv ((wr.heap.size + 3) :: Ds) u') → RetAt w r1 r2 LS (fun _ => False) ((wr.heap.size + 3) :: Ds) W' → Q .ret a' W')
    (a : Act) (ha : ∃ u, a = frF sl n cap w.heap.size r1 r2 b iv (seqV wr.heap.size) Ds u) : Code.wp Tryz.prog (down [1, 1, 0, 1, 0, 0, 1, 1, 0, 0, 1, 1, 0] (Tryz.f9.body.getD .skip)) Q a (seqW wr z) := by
  obtain ⟨u, rfl⟩ := ha
  unfold frF
  conv => arg 2; whnf
  have hs1 : (seqW wr z).heap.size = wr.heap.size + 3 := by unfold seqW; simp
  have hkw : Kept (fun _ => False) wr (seqW wr z) := by unfold seqW; exact (((Kept.refl _ wr).alloc _).alloc _).alloc _
  have hsq : SeqAt wr.heap.size (seqW wr z) (strS z) := by
    unfold seqW
    refine ⟨?_, ?_, ?_⟩
    · exact ((Kept.refl (fun _ => False) _).alloc _).at_ (((Kept.refl (fun _ => False) _).alloc _).at_ (heap_new1 wr _) (fun f => f)) (fun f => f)
    · have := heap_new1 (wr.alloc (.cells #[.string (strS z)] 9)) (.cells #[.string ⟨#[10]⟩] 9)
      rw [World.size_alloc] at this
      exact ((Kept.refl (fun _ => False) _).alloc _).at_ this (fun f => f)
    · have := heap_new1 ((wr.alloc (.cells #[.string (strS z)] 9)).alloc (.cells #[.string ⟨#[10]⟩] 9)) (.cells #[.int .i64 0] 3)
      rw [World.size_alloc, World.size_alloc] at this
      exact this
  obtain ⟨st0, v0, u0, q0, h1, h2, h3, h4, _, h6, h7, h8⟩ := h
  have hwr : w.heap.size + 5 ≤ wr.heap.size := h8
  obtain ⟨R, hR⟩ : ∃ R : Nat → Prop, ∀ k, R k ↔ seqU wr.heap.size k ∨ k = (seqW wr z).heap.size ∨ k = (seqW wr z).heap.size + 1 := ⟨_, fun _ => Iff.rfl⟩
  have hRl : ∀ k, R k → wr.heap.size ≤ k ∧ k ≤ wr.heap.size + 4 := fun k hk => by
    rw [hR, hs1] at hk
    rcases hk with (e | e | e) | e | e <;> omega
  have hDl : ∀ D ∈ Ds, D < wr.heap.size := fun D hD => (Array.getElem?_eq_some_iff.1 (h7.mark D hD).2.1).1
  have hR3 : R (wr.heap.size + 3) := (hR _).2 (.inr (.inl hs1.symm))
  refine (wpIn_wide (n := 4)).1 (wpIn_pieces (U := seqU wr.heap.size) (R := R) (gf := 43) (lb := #[.pointer (some ⟨wr.heap.size + 1, 0, none⟩), .pointer (some ⟨wr.heap.size, 0, none⟩), .pointer (some ⟨wr.heap.size + 2, 0, none⟩)]) rfl
    (enters_of Tryz.func43 (by kernel_rfl) rfl) rfl (seq_gives z hz _ _ hsq) ?hU hR (fun j W => InAt w r1 r2 m b LS R Ds (d + j) W)
    (fun c W => c = .ret ∧ RetAt w r1 r2 LS R Ds W) ?hI ?hIx ?h0 (fun x => frC sl n cap w.heap.size r1 r2 b iv (strS x) (fun k => if k = 20 then seqV wr.heap.size else u k)) ?assign ?body ?done ?stop)
  case hU => rintro k (rfl | rfl | rfl) <;> omega
  case hI =>
    rintro j A B ⟨st, v, u, q, i1, i2, i3, i4, i5, i6, i7, i8⟩ hk
    exact ⟨st, v, u, q, i1, i2, i3, i4.kept hk i5, i5, i6.trans hk (fun i hi hr => by have := hRl i hr; omega), i7.on hr1 hr2 hk (fun k hr => by have := hRl k hr; omega) (fun D hD hr => by have := hRl D hr; have := hDl D hD; omega) (fun k hk => .inl hk), Nat.le_trans i8 hk.size⟩
  case hIx =>
    rintro c A B ⟨rfl, g, p, e1, e2, e3, e4, e5, e6, e7, e8, e9, e10, e11⟩ hk
    have far : ∀ k, k ≤ r2 → ¬ R k := fun k h hr => by have := hRl k hr; omega
    exact ⟨rfl, g, p, e1, e2, e3.kept hk e4, e4, e5, e6.trans hk (fun i hi hr => by have := hRl i hr; omega), hk.at_ e7 (far _ (by omega)), hk.at_ e8 (far _ (by omega)), hk.at_ e9 (far _ (by omega)), e10, fun D hD => ⟨(e11 D hD).1, hk.at_ (e11 D hD).2 (fun hr => by have := hRl D hr; have := hDl D hD; omega)⟩⟩
  case h0 =>
    intro W hk
    have hk2 := hkw.trans hk (fun _ _ f => f)
    exact ⟨st0, v0, u0, q0, h1, h2, h3, h4.kept hk2 (fun _ _ f => f), fun k hf hr => by have := h4.low k hf; have := hRl k hr; omega, h6.trans hk2 (fun _ _ f => f), h7.on hr1 hr2 hk2 (fun _ f => f.elim) (fun _ _ f => f) (fun k hk => .inl hk), Nat.le_trans h8 hk2.size⟩
  case assign =>
    intro x W K hK
    clear hr1 hr2
    gi_wp2
    exact hK
  case body =>
    intro j x W hx hlt hi
    have hlx := hd j x hx
    obtain ⟨st, v, u', q, i1, i2, i3, i4, i5, i6, i7, i8⟩ := hi
    have hlc : d + j < LS.length := (List.getElem?_eq_some_iff.1 hlx).1
    have HA := Lib.hid (add_any i4 i2 x (hls x (List.mem_of_getElem? hlx)) (hL.on0 i6) i8)
    have HR := Lib.hid (run_snoc i1 hlx)
    have HI4 := Lib.hid i4
    have HI5 := Lib.hid i5
    have HI6 := Lib.hid i6
    have HI7 := Lib.hid i7
    have HI2 := Lib.hid i2
    unfold frC
    clear i1 i2 i4 i5 i6 i7 hlx hx hdone hret h1 h2 h3 h4 h6 h7 hsq hkw
    gi_wp2
    refine ⟨trivial, (CallsIn.inRound _ (callsIn_wide.2 HA.out)).mono ?_⟩
    rintro e W3 ⟨hk3, hm⟩
    rw [hs1] at hlt
    cases hr : addA st x with
    | error p =>
      rw [hr] at hm
      obtain ⟨g, hg, rfl, hs⟩ := hm
      obtain ⟨⟨d0, e0, d1, e1, d2, e2⟩, hK4, hR4⟩ := ret_end hr1 hr2 HI7.out HI6.out hk3 HI5.out (fun k hk => by have := hRl k hk; omega) (run_err (HR.out.trans hr)) hs hg (fun hk => by have := hRl g hk; omega)
      have HK4 := Lib.hid hK4
      have HR4 := Lib.hid hR4
      clear hr hk3 hs hK4 hR4 HA HR
      gi_wp2
      exact ⟨HK4.out, rfl, HR4.out⟩
    | ok s' =>
      rw [hr] at hm
      obtain ⟨v3, u3, q3, rfl, hb3, hf3⟩ := hm
      have HF : Hid (Kept (fun k => ¬ R k) W W3 ∧ InAt w r1 r2 m b LS R Ds (d + (j + 1)) W3) := Lib.hid (by
        have hfar := HI7.out.far
        refine ⟨hk3.mono (fun k _ e => HI5.out k e), s', v3, u3, q3, HR.out.trans hr, add_ok HI2.out (by omega) hr, ?_, hb3, ?_, HI6.out.trans hk3 (fun i hi e => by have := hfar i e; omega), ?_, Nat.le_trans i8 hk3.size⟩
        · rw [(add_short HI2.out.code hr).2.1, i3]; omega
        · intro k hk hk2
          rcases hf3 k hk with e | e
          · exact HI5.out k e hk2
          · have := hRl k hk2; omega
        · exact HI7.out.on hr1 hr2 hk3 hfar (fun D hD => (HI7.out.mark D hD).2.2) hf3)
      clear hr hk3 hb3 hf3 HA HR
      gi_wp2
      exact HF.out
  case done =>
    intro W hi hD
    rw [hs1] at hD ⊢
    obtain ⟨st, v, u', q, i1, i2, i3, i4, i5, i6, i7, i8⟩ := hi
    refine hdone _ _ (frA_of (by kernel_rfl)) ⟨st, v, u', q, i1, i2, i3, i4, fun _ _ f => f, i6, ⟨i7.c0, i7.c1, i7.c2, i7.far, ?_, ?_⟩, i8⟩
    · exact List.nodup_cons.2 ⟨fun hD => by have := hDl _ hD; omega, i7.nod⟩
    · intro D hD2
      rcases List.mem_cons.1 hD2 with rfl | hD2
      · exact ⟨by omega, hD, fun hf => i5 _ hf hR3⟩
      · exact i7.mark D hD2
  case stop =>
    rintro c W ⟨rfl, g, p, e1, e2, e3, e4, e5, e6, e7, e8, e9, e10, e11⟩ hD
    rw [hs1] at hD ⊢
    refine wpIn_wide.2 (wp_ret (hret _ _ (frA_of (by kernel_rfl)) ⟨g, p, e1, e2, e3, fun f => f, ?_, e6, e7, e8, e9, ?_, ?_⟩))
    · intro hg
      rcases List.mem_cons.1 hg with rfl | hg
      · exact e4 hR3
      · exact e5 hg
    · exact List.nodup_cons.2 ⟨fun hD => by have := hDl _ hD; omega, e10⟩
    · intro D hD2
      rcases List.mem_cons.1 hD2 with rfl | hD2
      · exact ⟨by omega, hD⟩
      · exact e11 D hD2
end Go.Proofs.YtlhnbihpefgcbaaGreatDoor
