/-
  What changes within a step of the document's machine: the last frame, a frame more or less, a mark more, the world.
  Conditions: none; these are lemmas for the walk.
-/
import Derived.Test.YtofnomkedpagfaaMachSt
namespace Go.Proofs.Ytofnomkedpagfaa
open Go.RowKit
set_option linter.unusedVariables false

theorem kept_fresh {w W : World} {o : Obj} {z : Nat} (hz : w.heap.size = z) (h : Kept (fun k => k = z) (w.alloc o) W) : Kept (fun _ => False) w W := by
  have h1 : Kept (fun k => k = z) w W := (((Kept.refl (fun _ => False) w).alloc o).mono (fun _ _ f => f.elim)).trans h (fun _ _ e => e)
  exact ⟨h1.os, h1.tape, h1.output, h1.size, fun k hk _ => h1.block k hk (by omega)⟩
def zeroFr : Fr := ⟨0, fun _ => 0⟩
theorem fresh_row (w : World) {z : Nat} (hz : w.heap.size = z) : Row (w.alloc (.cells #[.int .i64 0, .int .i64 0, .int .i64 0, .int .i64 0, .int .i64 0, .int .i64 0, .int .i64 0, .int .i64 0, .int .i64 0, .int .i64 0, .int .i64 0, .int .i64 0, .int .i64 0, .int .i64 0, .int .i64 0, .int .i64 0, .int .i64 0] 72)) z 1 72 17 Fr.cells [zeroFr] := by
  subst hz
  exact row_one Fr.cells Fr.len w 72 zeroFr
section
variable {w0 wr w' : World} {P : Wp} {og0 og oc fg fc : Nat} {nv : Value} {u : Ms}
/-- Only the frames' row is written. -/
theorem StIn.row (h : StIn w0 P og0 og oc fg fc nv u wr) (hk : Kept (fun k => k = fg) wr w') : RW P og oc u.zs u.ps w' ∧ w'.ownsRow w0.heap.size 77 2 nv u.ns.length (flat Nt.cells u.ns) ∧ Kept (P.foot og0) w0 w' :=
  ⟨h.rw.kept hk (fun k hq e => h.fg_far (by rw [← e]; exact hq)), own_kept h.nt hk (fun g hg e => (h.nt_far hg).2 e), h.k.trans hk (fun i hi e => by have := h.nf; omega)⟩
theorem StIn.setF (h : StIn w0 P og0 og oc fg fc nv u wr) {j : Nat} (hj : j < 17) (f' : Fr) {v : Value} (hf : f'.cells = u.f.cells.set j v) :
    StIn w0 P og0 og oc fg fc nv { u with f := f' } (wr.setCell ⟨fg, u.bs.length * 17 + j, none⟩ v) := by
  have hk : Kept (fun k => k = fg) wr (wr.setCell ⟨fg, u.bs.length * 17 + j, none⟩ v) := (Kept.refl _ wr).setCell _ _ (fun _ => rfl)
  obtain ⟨r1, r2, r3⟩ := h.row hk
  have hr := h.fr.set Fr.len h.f_at hj hf
  rw [show (u.bs ++ [u.f]).set u.bs.length f' = u.bs ++ [f'] by simp] at hr
  exact ⟨r1, hr, r2, h.nf, h.no, h.d1, h.d2, r3, h.low⟩
theorem StIn.goTo (h : StIn w0 P og0 og oc fg fc nv u wr) (p : Int) : StIn w0 P og0 og oc fg fc nv { u with f := u.f.go p } (wr.setCell ⟨fg, u.bs.length * 17, none⟩ (.int .i64 p)) :=
  h.setF (j := 0) (by decide) _ (u.f.go_cells p)
/-- The whole last frame is stored. -/
theorem StIn.putF (h : StIn w0 P og0 og oc fg fc nv u wr) (f' : Fr) (hr : Row w' fg fc 72 17 Fr.cells ((u.bs ++ [u.f]).set u.bs.length f')) (hk : Kept (fun k => k = fg) wr w') :
    StIn w0 P og0 og oc fg fc nv { u with f := f' } w' := by
  obtain ⟨r1, r2, r3⟩ := h.row hk
  rw [show (u.bs ++ [u.f]).set u.bs.length f' = u.bs ++ [f'] by simp] at hr
  exact ⟨r1, hr, r2, h.nf, h.no, h.d1, h.d2, r3, h.low⟩
/-- A register of the frame ahead of the last one. -/
theorem StIn.ahead (h : StIn w0 P og0 og oc fg fc nv u wr) {bs' : List Fr} {g : Fr} (hb : u.bs = bs' ++ [g]) {j : Nat} (hj : j < 16) (v : Int) :
    StIn w0 P og0 og oc fg fc nv { u with bs := bs' ++ [g.put j v] } (wr.setCell ⟨fg, bs'.length * 17 + (1 + j), none⟩ (.int .i64 v)) := by
  have hk : Kept (fun k => k = fg) wr (wr.setCell ⟨fg, bs'.length * 17 + (1 + j), none⟩ (.int .i64 v)) := (Kept.refl _ wr).setCell _ _ (fun _ => rfl)
  obtain ⟨r1, r2, r3⟩ := h.row hk
  have hg : (u.bs ++ [u.f])[bs'.length]? = some g := by rw [hb]; simp
  have hr := h.fr.set Fr.len hg (j := 1 + j) (by omega) (x' := g.put j v) (v := .int .i64 v) (by rw [g.put_cells, Nat.add_comm])
  rw [show (u.bs ++ [u.f]).set bs'.length (g.put j v) = (bs' ++ [g.put j v]) ++ [u.f] by rw [hb]; simp] at hr
  exact ⟨r1, hr, r2, h.nf, h.no, h.d1, h.d2, r3, h.low⟩
theorem own_fewer {w : World} {base : Nat} {e : TypeId} {size g cap n m : Nat} {xs : List Value} (h : w.ownsRow base e size (.slice (some ⟨g, 0, none⟩) n cap) n xs) (hm : m ≤ n) : w.ownsRow base e size (.slice (some ⟨g, 0, none⟩) m cap) m (xs.take (m * size)) := by
  have hle : m * size ≤ n * size := Nat.mul_le_mul_right _ hm
  refine ⟨by rw [List.length_take, h.1]; omega, ?_⟩
  rcases h.2 with ⟨h0, _⟩ | ⟨g', cap', cur, h3, hb, hg, h4, h5, h6, h7⟩
  · cases h0
  · simp only [Value.slice.injEq, Option.some.injEq, Addr.mk.injEq, and_true, true_and] at h3
    obtain ⟨rfl, rfl⟩ := h3
    exact .inr ⟨g, cap, cur, rfl, hb, hg, by omega, h5, h6, by rw [← h7, List.take_take, Nat.min_eq_left hle]⟩
/-- The last frame is left. -/
theorem StIn.pop (h : StIn w0 P og0 og oc fg fc nv u wr) {bs' : List Fr} {g : Fr} (hb : u.bs = bs' ++ [g]) : StIn w0 P og0 og oc fg fc nv { u with bs := bs', f := g } wr := by
  refine ⟨h.rw, ?_, h.nt, h.nf, h.no, h.d1, h.d2, h.k, h.low⟩
  have h1 := h.fr
  unfold Row at h1 ⊢
  have h2 := own_fewer h1 (m := (bs' ++ [g]).length) (by rw [hb]; simp)
  have e : (flat Fr.cells (u.bs ++ [u.f])).take ((bs' ++ [g]).length * 17) = flat Fr.cells (bs' ++ [g]) := by
    rw [hb]
    have e1 : flat Fr.cells (bs' ++ [g] ++ [u.f]) = flat Fr.cells (bs' ++ [g]) ++ flat Fr.cells [u.f] := by simp [flat]
    rw [e1, ← flat_len Fr.len (bs' ++ [g]), List.take_left]
  rw [e] at h2
  exact h2
/-- A frame more. -/
theorem StIn.push (h : StIn w0 P og0 og oc fg fc nv u wr) {w1 w3 : World} {v' : Value} {base : Nat} (hk1 : Kept (fun _ => False) wr w1) (f' : Fr) (h1 : w3.ownsRow base 72 17 v' (u.bs.length + 1 + 1) (flat Fr.cells (u.bs ++ [u.f]) ++ flat Fr.cells [f'])) (hg : w1.grownBy w3 (some fg)) (hv : v'.ownBlock = some fg ∨ v'.ownBlock = some w1.heap.size) :
    ∃ fg' fc', v' = .slice (some ⟨fg', 0, none⟩) (u.bs.length + 1 + 1) fc' ∧ StIn w0 P og0 og oc fg' fc' nv { u with bs := u.bs ++ [u.f], f := f' } w3 := by
  have hk3 : Kept (fun g => g = fg) wr w3 := (hk1.mono (fun _ _ f => f.elim)).grown hg (fun g _ e => (Option.some.inj e).symm)
  obtain ⟨r1, r2, r3⟩ := h.row hk3
  have hsz := hk1.size
  rcases h1.2 with ⟨_, h0⟩ | ⟨g', cap, cur, rfl, hb, hgg, hrest⟩
  · omega
  have hv' : g' = fg ∨ g' = w1.heap.size := by
    rcases hv with e | e
    · exact .inl (Option.some.inj e)
    · exact .inr (Option.some.inj e)
  have hfl : fg < wr.heap.size := h.fr.lt
  have hol := h.rw.lts.2.1
  refine ⟨g', cap, rfl, r1, ?_, r2, ?_, h.no, ?_, ?_, r3, h.low⟩
  · refine Row.made (m := u.bs.length + 1 + 1) (by simp) ?_
    rw [show flat Fr.cells (u.bs ++ [u.f] ++ [f']) = flat Fr.cells (u.bs ++ [u.f]) ++ flat Fr.cells [f'] by simp [flat]]
    exact ⟨h1.1, .inr ⟨g', cap, cur, rfl, Nat.zero_le _, hgg, hrest⟩⟩
  · have := h.nf
    have := h.k.size
    rcases hv' with rfl | rfl <;> omega
  · rcases hv' with rfl | rfl
    · exact h.d1
    · omega
  · intro g hgn
    have := (World.ownsRow.lt h.nt g hgn).2
    refine ⟨?_, (h.d2 g hgn).2⟩
    rcases hv' with rfl | rfl
    · exact (h.d2 g hgn).1
    · omega
/-- A mark more. -/
theorem StIn.mark (h : StIn w0 P og0 og oc fg fc nv u wr) {w1 w3 : World} {v' : Value} (hk1 : Kept (fun _ => False) wr w1) (x : Nt) (h1 : w3.ownsRow w0.heap.size 77 2 v' (u.ns.length + 1) (flat Nt.cells u.ns ++ flat Nt.cells [x])) (hg : w1.grownBy w3 nv.ownBlock) (hv : v'.ownBlock = nv.ownBlock ∨ v'.ownBlock = some w1.heap.size) :
    StIn w0 P og0 og oc fg fc v' { u with ns := u.ns ++ [x] } w3 := by
  have hk3 : Kept (fun g => nv.ownBlock = some g) wr w3 := (hk1.mono (fun _ _ f => f.elim)).grown hg (fun g _ e => e)
  have hsz := hk1.size
  refine ⟨h.rw.kept hk3 (fun k hq e => (h.nt_far e).1 hq), h.fr.kept hk3 (fun e => (h.nt_far e).2 rfl), ?_, h.nf, h.no, h.d1, ?_, h.k.trans hk3 (fun i hi e => by have := (World.ownsRow.lt h.nt i e).1; omega), h.low⟩
  · show w3.ownsRow w0.heap.size 77 2 v' (u.ns ++ [x]).length (flat Nt.cells (u.ns ++ [x]))
    rw [List.length_append, show flat Nt.cells (u.ns ++ [x]) = flat Nt.cells u.ns ++ flat Nt.cells [x] by simp [flat]]
    exact h1
  · intro g hgn
    rcases hv with e | e
    · exact h.d2 g (by rw [← e]; exact hgn)
    · rw [e] at hgn
      have := Option.some.inj hgn
      have := h.fr.lt
      have := h.rw.lts.2.1
      omega
/-- The world has turned, and a frame elsewhere. -/
theorem StIn.turned (h : StIn w0 P og0 og oc fg fc nv u wr) {og' oc' fb : Nat} {zs' : List Int} {ps' : List Pk} (hr : RW P og' oc' zs' ps' w') (hk : Kept (fun q => P.foot og q ∨ q = fb) wr w') (ho : og' = og ∨ wr.heap.size ≤ og') (hb : fb ≠ fg ∧ ∀ g, nv.ownBlock = some g → g ≠ fb) (hn : w0.heap.size ≤ fb) :
    StIn w0 P og0 og' oc' fg fc nv { u with zs := zs', ps := ps' } w' := by
  have hfl : fg < wr.heap.size := h.fr.lt
  have hs := h.k.size
  refine ⟨hr, h.fr.kept hk (fun e => e.elim (fun e => h.fg_far e) (fun e => hb.1 e.symm)), own_kept h.nt hk (fun g hg e => e.elim (fun e => (h.nt_far hg).1 e) (fun e => hb.2 g hg e)), h.nf, ?_, ?_, ?_, ?_, h.low⟩
  · rcases ho with rfl | ho
    · exact h.no
    · exact .inr (by omega)
  · rcases ho with rfl | ho
    · exact h.d1
    · omega
  · intro g hg
    have := (World.ownsRow.lt h.nt g hg).2
    refine ⟨(h.d2 g hg).1, ?_⟩
    rcases ho with rfl | ho
    · exact (h.d2 g hg).2
    · omega
  · exact h.k.trans hk (fun i hi e => by
      rcases e with e | e
      · exact h.foot_new e hi
      · omega)
theorem StIn.regAt (h : StIn w0 P og0 og oc fg fc nv u wr) {j : Nat} (hj : j < 16) : wr.cell? ⟨fg, u.bs.length * 17 + (1 + j), none⟩ = some (.int .i64 (u.f.r j)) := by
  rw [Nat.add_comm 1 j]
  exact h.fr.cell Fr.len h.f_at (u.f.at_r hj)
/-- The frames' row holds the last frame. -/
theorem StIn.range (h : StIn w0 P og0 og oc fg fc nv u wr) : wr.rangeAt fg (u.bs.length * 17) u.f.cells := fun j v hj => h.fr.cell Fr.len h.f_at hj

section
variable {w0 wr w' : World} {P : Wp} {og0 og oc fg fc : Nat} {nv : Value} {u : Ms}
/-- All registers of the last frame. -/
theorem StIn.all (h : StIn w0 P og0 og oc fg fc nv u wr) {k : Nat} (hk : u.bs.length = k) : wr.cell? ⟨fg, k * 17 + 1, none⟩ = some (.int .i64 (u.f.r 0)) ∧ wr.cell? ⟨fg, k * 17 + 2, none⟩ = some (.int .i64 (u.f.r 1)) ∧ wr.cell? ⟨fg, k * 17 + 3, none⟩ = some (.int .i64 (u.f.r 2)) ∧ wr.cell? ⟨fg, k * 17 + 4, none⟩ = some (.int .i64 (u.f.r 3)) ∧ wr.cell? ⟨fg, k * 17 + 5, none⟩ = some (.int .i64 (u.f.r 4)) ∧ wr.cell? ⟨fg, k * 17 + 6, none⟩ = some (.int .i64 (u.f.r 5)) ∧ wr.cell? ⟨fg, k * 17 + 7, none⟩ = some (.int .i64 (u.f.r 6)) ∧ wr.cell? ⟨fg, k * 17 + 8, none⟩ = some (.int .i64 (u.f.r 7)) ∧ wr.cell? ⟨fg, k * 17 + 9, none⟩ = some (.int .i64 (u.f.r 8)) ∧ wr.cell? ⟨fg, k * 17 + 10, none⟩ = some (.int .i64 (u.f.r 9)) ∧ wr.cell? ⟨fg, k * 17 + 11, none⟩ = some (.int .i64 (u.f.r 10)) ∧ wr.cell? ⟨fg, k * 17 + 12, none⟩ = some (.int .i64 (u.f.r 11)) ∧ wr.cell? ⟨fg, k * 17 + 13, none⟩ = some (.int .i64 (u.f.r 12)) ∧ wr.cell? ⟨fg, k * 17 + 14, none⟩ = some (.int .i64 (u.f.r 13)) ∧ wr.cell? ⟨fg, k * 17 + 15, none⟩ = some (.int .i64 (u.f.r 14)) ∧ wr.cell? ⟨fg, k * 17 + 16, none⟩ = some (.int .i64 (u.f.r 15)) := by
  subst hk
  exact ⟨h.regAt (j := 0) (by decide), h.regAt (j := 1) (by decide), h.regAt (j := 2) (by decide), h.regAt (j := 3) (by decide), h.regAt (j := 4) (by decide), h.regAt (j := 5) (by decide), h.regAt (j := 6) (by decide), h.regAt (j := 7) (by decide), h.regAt (j := 8) (by decide), h.regAt (j := 9) (by decide), h.regAt (j := 10) (by decide), h.regAt (j := 11) (by decide), h.regAt (j := 12) (by decide), h.regAt (j := 13) (by decide), h.regAt (j := 14) (by decide), h.regAt (j := 15) (by decide)⟩
theorem StIn.ahead0 (h : StIn w0 P og0 og oc fg fc nv u wr) {bs' : List Fr} {g : Fr} (hb : u.bs = bs' ++ [g]) {j : Nat} (hj : j < 16) : wr.cell? ⟨fg, bs'.length * 17 + (1 + j), none⟩ = some (.int .i64 (g.r j)) := by
  have hg : (u.bs ++ [u.f])[bs'.length]? = some g := by rw [hb]; simp
  rw [Nat.add_comm 1 j]
  exact h.fr.cell Fr.len hg (g.at_r hj)
end
/-- How it stands behind an instruction: the frame's copy in block v, the instruction in block z, the note in block nb. -/
structure Aft (w0 : World) (P : Wp) (og0 og oc fg fc : Nat) (nv : Value) (us : Ms) (v : Nat) (f4 : Fr) (z : Nat) (X : Obj) (nb : Nat) (N : Obj) (W : World) : Prop where
  fr : Row W v 1 72 17 Fr.cells [f4]
  st : StIn w0 P og0 og oc fg fc nv us W
  x : W.heap[z]? = some X
  n : W.heap[nb]? = some N
  far : fg ≠ v ∧ fg ≠ z ∧ fg ≠ nb
section
variable {zs : List Int} {ps : List Pk} {us : Ms} {v z nb : Nat} {f' f4 : Fr} {X N : Obj} {W2 W4 W5 : World}
theorem aft_alloc (hr : Row W2 v 1 72 17 Fr.cells [f']) (hs : StIn w0 P og0 og oc fg fc nv us W2) (hx : W2.heap[z]? = some X) (hf : fg ≠ v) (hz : fg ≠ z) {W3 : World} (h3 : W2.alloc N = W3) (hnb : W2.heap.size = nb) : Aft w0 P og0 og oc fg fc nv us v f' z X nb N W3 := by
  have hk : Kept (fun _ => False) W2 (W2.alloc N) := (Kept.refl _ W2).alloc N
  rw [← h3, ← hnb]
  exact ⟨hr.kept hk (fun f => f), hs.kept0 hk, hk.at0 hx, heap_new1 W2 N, hf, hz, by have := hs.fr.lt; omega⟩
theorem aft_stay (hone : OneAt P og oc zs ps v f' W2) (hs : StIn w0 P og0 og oc fg fc nv us W2) (hx : W2.heap[z]? = some X) (hv : fg ≠ v ∧ ¬ P.foot og v ∧ ∀ g, nv.ownBlock = some g → g ≠ v) (hz : fg ≠ z) (hnb : W2.heap.size = nb) (hW : W2.alloc N = W4) : Aft w0 P og0 og oc fg fc nv us v f' z X nb N W4 :=
  aft_alloc hone.fr hs hx hv.1 hz hW hnb
theorem aft_go (hone : OneAt P og oc zs ps v f' W2) (hs : StIn w0 P og0 og oc fg fc nv us W2) (hx : W2.heap[z]? = some X) (hv : fg ≠ v ∧ ¬ P.foot og v ∧ ∀ g, nv.ownBlock = some g → g ≠ v) (hz : fg ≠ z) (hzv : z ≠ v) (hv0 : w0.heap.size ≤ v) (hnb : W2.heap.size = nb) (q : Int)
    (hW : (W2.setCell ⟨v, 0, none⟩ (.int .i64 q)).alloc N = W4) : Aft w0 P og0 og oc fg fc nv us v (f'.go q) z X nb N W4 := by
  obtain ⟨h1, h2⟩ := hone.go q
  have hs3 : StIn w0 P og0 og oc fg fc nv us (W2.setCell ⟨v, 0, none⟩ (.int .i64 q)) :=
    ⟨hs.rw.kept h2 (fun k hk e => hv.2.1 (by rw [← e]; exact hk)), hs.fr.kept h2 hv.1, own_kept hs.nt h2 (fun g hg e => hv.2.2 g hg e), hs.nf, hs.no, hs.d1, hs.d2, hs.k.trans h2 (fun i hi e => by omega), hs.low⟩
  refine aft_alloc h1.fr hs3 (h2.at_ hx hzv) hv.1 hz hW ?_
  rw [← hnb]
  simp [World.setCell]
theorem aft_put (A : Aft w0 P og0 og oc fg fc nv us v f4 z X nb N W4) (hr : Row W5 fg fc 72 17 Fr.cells ((us.bs ++ [us.f]).set us.bs.length f4)) (hk : Kept (fun k => k = fg) W4 W5) :
    Aft w0 P og0 og oc fg fc nv { us with f := f4 } v f4 z X nb N W5 :=
  ⟨A.fr.kept hk (fun e => A.far.1 e.symm), A.st.putF f4 hr hk, hk.at_ A.x (fun e => A.far.2.1 e.symm), hk.at_ A.n (fun e => A.far.2.2 e.symm), A.far⟩
theorem Aft.range (A : Aft w0 P og0 og oc fg fc nv us v f4 z X nb N W4) : W4.rangeAt v 0 f4.cells := by
  have := row_range Fr.len A.fr (j := 0) (x := f4) rfl
  rwa [Nat.zero_mul] at this
theorem Aft.reg (A : Aft w0 P og0 og oc fg fc nv us v f4 z X nb N W4) {j : Nat} (hj : j < 16) : W4.cell? ⟨v, 1 + j, none⟩ = some (.int .i64 (f4.r j)) := by
  have := A.fr.cell Fr.len (i := 0) (x := f4) rfl (f4.at_r hj)
  rw [Nat.zero_mul, Nat.zero_add, Nat.add_comm] at this
  exact this
theorem Aft.kept0 (A : Aft w0 P og0 og oc fg fc nv us v f4 z X nb N W4) (hk : Kept (fun _ => False) W4 W5) : Aft w0 P og0 og oc fg fc nv us v f4 z X nb N W5 :=
  ⟨A.fr.kept hk (fun f => f), A.st.kept0 hk, hk.at0 A.x, hk.at0 A.n, A.far⟩
end
theorem cells2 {w : World} {g : Nat} {t : TypeId} {x0 x1 : Value} (h : w.heap[g]? = some (.cells #[x0, x1] t (0, 0))) : w.cell? ⟨g, 0, none⟩ = some x0 ∧ w.cell? ⟨g, 1, none⟩ = some x1 :=
  ⟨by rw [cell_at w _ 0 _ _ h]; rfl, by rw [cell_at w _ 1 _ _ h]; rfl⟩
end

end Go.Proofs.Ytofnomkedpagfaa
