/-
  A step in memory: what the program's step holds, its frames and marks, the cells and the threads; colours keep their blocks apart.
  Conditions: none; these are lemmas on worlds for the walks.
-/
import Derived.Test.YtdkableaooaebaaDoorMicM
import Derived.Test.YtdkableaooaebaaDoorClone
import Derived.Test.YtdkableaooaebaaDoorGrow
namespace Go.Proofs.YtdkableaooaebaaDoor
open Go.RowKit

/-- Where a step's things lie that don't move. -/
structure Sp where
  sb : Nat
  ab : Nat
  tb : Nat
  tg : Nat
  tc : Nat
  so : Option Addr
  cc : Nat
  code : List Ix
  most : Int
  now : Int
  self : Nat
/-- And what may. -/
structure Kp where
  og : Option Nat
  fg : Nat
  fc : Nat
  nv : Value

/-- The code, where nothing is written. -/
def CodeAt (so : Option Addr) (code : List Ix) (col : Nat → Nat) (w : World) : Prop :=
  code.length ≤ maxLen ∧ ∀ i x, code[i]? = some x → ∃ g off, so = some ⟨g, off, none⟩ ∧ g < w.heap.size ∧ col g = 0 ∧ ∀ j v, x.cells[j]? = some v → w.cell? ⟨g, off + i * 5 + j, none⟩ = some v

def Sp.cells (L : Sp) (k : Kp) (d n : Nat) : Array Value :=
  #[.slice L.so L.code.length L.cc, .pointer (some ⟨L.ab, 0, none⟩), .pointer (some ⟨L.tb, 0, none⟩), .int .i64 L.self, .slice (some ⟨k.fg, 0, none⟩) n k.fc, k.nv, .int .i64 d]

structure On (L : Sp) (col : Nat → Nat) (k : Kp) (d : Nat) (s : Ms) (w : World) : Prop where
  st : w.heap[L.sb]? = some (.cells (L.cells k d (s.bs.length + 1)) 67 (0, 0))
  fr : Row w k.fg k.fc 60 17 Fr.cells (s.bs ++ [s.f])
  nt : w.ownsRow 0 78 2 k.nv s.ns.length (flat Nt.cells s.ns)
  ar : Arena w L.ab k.og L.most s.zs
  tab : Tab w L.tb L.tg L.tc L.now s.ps
  cd : CodeAt L.so L.code col w
  ld : Laid w
  c0 : ∀ g, Glob g → col g = 0
  c1 : col L.sb = 1
  c2 : col k.fg = 2
  c3 : ∀ g, k.nv.ownBlock = some g → col g = 3
  c4 : ∀ g, Foot L.ab k.og g → col g = 4
  c5 : col L.tb = 5 ∧ col L.tg = 5
  new : ∀ g, w.heap.size ≤ g → col g = 0

/-- What may have turned: only blocks that have a colour; new blocks may have got one. -/
structure Goes (col : Nat → Nat) (w : World) (col' : Nat → Nat) (w' : World) : Prop where
  kept : Kept (fun g => col g ≠ 0) w w'
  same : ∀ g, g < w.heap.size → col' g = col g
theorem Goes.refl (col : Nat → Nat) (w : World) : Goes col w col w := ⟨Kept.refl _ _, fun _ _ => rfl⟩
theorem Goes.trans {c c1 c2 : Nat → Nat} {w w1 w2 : World} (h : Goes c w c1 w1) (h1 : Goes c1 w1 c2 w2) : Goes c w c2 w2 :=
  ⟨h.kept.trans h1.kept (fun i hi hc => by rwa [← h.same i hi]), fun g hg => (h1.same g (Nat.lt_of_lt_of_le hg h.kept.size)).trans (h.same g hg)⟩
theorem Goes.of0 {c : Nat → Nat} {w w' : World} (h : Kept (fun _ => False) w w') : Goes c w c w' := ⟨h.mono (fun _ _ f => f.elim), fun _ _ => rfl⟩
/-- A block without a colour stays. -/
theorem Goes.at_ {c c' : Nat → Nat} {w w' : World} (h : Goes c w c' w') {g : Nat} {o : Obj} (hg : w.heap[g]? = some o) (hc : c g = 0) : w'.heap[g]? = some o :=
  (h.kept.block g (Array.getElem?_eq_some_iff.1 hg).1 (fun e => e hc)).trans hg

theorem nt_kept {S : Nat → Prop} {w w' : World} {base : Nat} {e : TypeId} {size : Nat} {v : Value} {n : Nat} {xs : List Value} (h : w.ownsRow base e size v n xs) (hk : Kept S w w') (hg : ∀ g, v.ownBlock = some g → ¬ S g) : w'.ownsRow base e size v n xs := by
  refine ⟨h.1, ?_⟩
  rcases h.2 with hn | ⟨g, cap, cur, rfl, hbg, hgg, rest⟩
  · exact .inl hn
  · exact .inr ⟨g, cap, cur, rfl, hbg, (hk.block g (Array.getElem?_eq_some_iff.1 hgg).1 (hg g rfl)).trans hgg, rest⟩
theorem nt_form {w : World} {base : Nat} {e : TypeId} {size : Nat} {v : Value} {n : Nat} {xs : List Value} (h : w.ownsRow base e size v n xs) : ∃ ao cap, v = .slice ao n cap ∧ n ≤ maxLen := by
  rcases h.2 with ⟨rfl, rfl⟩ | ⟨g, cap, cur, h3, _, _, h4, h5, _⟩
  · exact ⟨none, 0, rfl, by simp⟩
  · exact ⟨_, cap, h3, by omega⟩

theorem CodeAt.kept {so : Option Addr} {code : List Ix} {col col' : Nat → Nat} {S : Nat → Prop} {w w' : World} (h : CodeAt so code col w) (hk : Kept S w w') (hS : ∀ g, g < w.heap.size → S g → col g ≠ 0) (hc : ∀ g, g < w.heap.size → col' g = col g) : CodeAt so code col' w' :=
  ⟨h.1, fun i x hi => by
    obtain ⟨g, off, e, hg, h0, hx⟩ := h.2 i x hi
    exact ⟨g, off, e, Nat.lt_of_lt_of_le hg hk.size, (hc g hg).trans h0, fun j v hj => (hk.cell (p := ⟨g, off + i * 5 + j, none⟩) hg (fun hs => hS g hg hs h0)).trans (hx j v hj)⟩⟩

section
variable {L : Sp} {col : Nat → Nat} {k : Kp} {d : Nat} {s : Ms} {w w' : World}

theorem On.lts (h : On L col k d s w) : L.sb < w.heap.size ∧ k.fg < w.heap.size ∧ (∀ g, k.nv.ownBlock = some g → g < w.heap.size) ∧ (∀ g, Foot L.ab k.og g → g < w.heap.size) ∧ L.tb < w.heap.size ∧ L.tg < w.heap.size :=
  ⟨(Array.getElem?_eq_some_iff.1 h.st).1, h.fr.lt, fun g hg => (World.ownsRow.lt h.nt g hg).2, fun g hg => by rcases hg with rfl | hg; exact h.ar.lt; exact (h.ar.rowLt g hg).1, h.tab.lt.1, h.tab.lt.2⟩

/-- What is of another colour stays. -/
theorem On.part (h : On L col k d s w) {S : Nat → Prop} (hk : Kept S w w') (C : Nat → Prop) (hS : ∀ g, g < w.heap.size → S g → C (col g)) :
    (¬ C 1 → w'.heap[L.sb]? = some (.cells (L.cells k d (s.bs.length + 1)) 67 (0, 0))) ∧ (¬ C 2 → Row w' k.fg k.fc 60 17 Fr.cells (s.bs ++ [s.f])) ∧ (¬ C 3 → w'.ownsRow 0 78 2 k.nv s.ns.length (flat Nt.cells s.ns)) ∧
      (¬ C 4 → Arena w' L.ab k.og L.most s.zs) ∧ (¬ C 5 → Tab w' L.tb L.tg L.tc L.now s.ps) ∧ (¬ C 0 → Laid w') := by
  obtain ⟨l1, l2, l3, l4, l5, l6⟩ := h.lts
  have q : ∀ g c, g < w.heap.size → col g = c → ¬ C c → ¬ S g := fun g c hg hc hn e => hn (by rw [← hc]; exact hS g hg e)
  exact ⟨fun hc => (hk.block _ l1 (q _ _ l1 h.c1 hc)).trans h.st, fun hc => h.fr.kept hk (q _ _ l2 h.c2 hc), fun hc => nt_kept h.nt hk (fun g hg => q _ _ (l3 g hg) (h.c3 g hg) hc),
    fun hc => h.ar.kept hk (q _ _ (l4 _ (.inl rfl)) (h.c4 _ (.inl rfl)) hc) (fun g hg => q _ _ (l4 _ (.inr hg)) (h.c4 _ (.inr hg)) hc),
    fun hc => h.tab.kept hk (q _ _ l5 h.c5.1 hc) (q _ _ l6 h.c5.2 hc), fun hc => h.ld.on hk (fun g hg => q _ _ (h.ld.low g hg) (h.c0 g hg) hc)⟩

/-- Nothing of it is written. -/
theorem On.kept0 (h : On L col k d s w) (hk : Kept (fun _ => False) w w') : On L col k d s w' := by
  obtain ⟨p1, p2, p3, p4, p5, _⟩ := h.part hk (fun _ => False) (fun _ _ f => f.elim)
  exact ⟨p1 id, p2 id, p3 id, p4 id, p5 id, h.cd.kept hk (fun _ _ f => f.elim) (fun _ _ => rfl), h.ld.on0 hk, h.c0, h.c1, h.c2, h.c3, h.c4, h.c5, fun g hg => h.new g (Nat.le_trans hk.size hg)⟩
theorem On.alloc (h : On L col k d s w) (o : Obj) : On L col k d s (w.alloc o) := h.kept0 ((Kept.refl _ w).alloc o)
theorem On.drew (h : On L col k d s w) : On L col k d s w.drew := h.kept0 (Kept.refl _ w).drew

theorem On.f_at (_h : On L col k d s w) : (s.bs ++ [s.f])[s.bs.length]? = some s.f := by simp
/-- The cells of the step. -/
theorem On.cells (h : On L col k d s w) : (w.cell? ⟨L.sb, 0, none⟩ = some (.slice L.so L.code.length L.cc) ∧ w.cell? ⟨L.sb, 1, none⟩ = some (.pointer (some ⟨L.ab, 0, none⟩)) ∧ w.cell? ⟨L.sb, 2, none⟩ = some (.pointer (some ⟨L.tb, 0, none⟩)) ∧ w.cell? ⟨L.sb, 3, none⟩ = some (.int .i64 L.self) ∧
    w.cell? ⟨L.sb, 4, none⟩ = some (.slice (some ⟨k.fg, 0, none⟩) (s.bs.length + 1) k.fc) ∧ w.cell? ⟨L.sb, 5, none⟩ = some k.nv ∧ w.cell? ⟨L.sb, 6, none⟩ = some (.int .i64 d)) ∧ ∀ o, w.frozen? ⟨L.sb, o, none⟩ = false :=
  ⟨⟨by rw [cell_at w _ 0 _ _ h.st]; rfl, by rw [cell_at w _ 1 _ _ h.st]; rfl, by rw [cell_at w _ 2 _ _ h.st]; rfl, by rw [cell_at w _ 3 _ _ h.st]; rfl, by rw [cell_at w _ 4 _ _ h.st]; rfl, by rw [cell_at w _ 5 _ _ h.st]; rfl, by rw [cell_at w _ 6 _ _ h.st]; rfl⟩, fun o => frozen_at w _ o _ _ h.st⟩
/-- The cells of the last frame. -/
theorem On.pcAt (h : On L col k d s w) : w.cell? ⟨k.fg, s.bs.length * 17, none⟩ = some (.int .i64 s.f.pc) := by
  have := h.fr.cell Fr.len h.f_at (j := 0) (v := .int .i64 s.f.pc) rfl
  rwa [Nat.add_zero] at this
theorem On.regAt (h : On L col k d s w) {j : Nat} (hj : j < 16) : w.cell? ⟨k.fg, s.bs.length * 17 + 1 + j, none⟩ = some (.int .i64 (s.f.r j)) := by
  rw [Nat.add_assoc, Nat.add_comm 1 j]
  exact h.fr.cell Fr.len h.f_at (s.f.at_r hj)
theorem On.free (h : On L col k d s w) (o : Nat) : w.frozen? ⟨k.fg, o, none⟩ = false := h.fr.free o

/-- The last frame is written. -/
theorem On.setF (h : On L col k d s w) {j : Nat} (hj : j < 17) (f' : Fr) {v : Value} (hf : f'.cells = s.f.cells.set j v) :
    On L col k d { s with f := f' } (w.setCell ⟨k.fg, s.bs.length * 17 + j, none⟩ v) ∧ Goes col w col (w.setCell ⟨k.fg, s.bs.length * 17 + j, none⟩ v) := by
  have hk : Kept (fun g => g = k.fg) w (w.setCell ⟨k.fg, s.bs.length * 17 + j, none⟩ v) := (Kept.refl _ w).setCell _ _ (fun _ => rfl)
  have hS : ∀ g, g < w.heap.size → g = k.fg → col g = 2 := fun g _ e => by rw [e]; exact h.c2
  obtain ⟨p1, p2, p3, p4, p5, p6⟩ := h.part hk (fun c => c = 2) hS
  have hr := h.fr.set Fr.len h.f_at hj hf
  rw [show (s.bs ++ [s.f]).set s.bs.length f' = s.bs ++ [f'] by simp] at hr
  exact ⟨⟨p1 (by decide), hr, p3 (by decide), p4 (by decide), p5 (by decide), h.cd.kept hk (fun g hg e => by rw [hS g hg e]; decide) (fun _ _ => rfl), p6 (by decide), h.c0, h.c1, h.c2, h.c3, h.c4, h.c5, fun g hg => h.new g (Nat.le_trans hk.size hg)⟩, hk.mono (fun g hg e => by rw [hS g hg e]; decide), fun _ _ => rfl⟩
theorem On.put (h : On L col k d s w) {j : Nat} (hj : j < 16) (v : Int) :
    On L col k d { s with f := s.f.put j v } (w.setCell ⟨k.fg, s.bs.length * 17 + 1 + j, none⟩ (.int .i64 v)) ∧ Goes col w col (w.setCell ⟨k.fg, s.bs.length * 17 + 1 + j, none⟩ (.int .i64 v)) := by
  rw [Nat.add_assoc, Nat.add_comm 1 j]
  exact h.setF (by omega) _ (s.f.put_cells j v)
theorem On.goTo (h : On L col k d s w) (p : Int) : On L col k d (s.go p) (w.setCell ⟨k.fg, s.bs.length * 17, none⟩ (.int .i64 p)) ∧ Goes col w col (w.setCell ⟨k.fg, s.bs.length * 17, none⟩ (.int .i64 p)) :=
  h.setF (j := 0) (by decide) _ (s.f.go_cells p)

/-- A field of the step is written: its count, its row of frames, its row of marks. -/
theorem On.setS (h : On L col k d s w) {o : Nat} {v : Value} {k' : Kp} {d' : Nat} {s' : Ms} (hc : L.cells k' d' (s'.bs.length + 1) = (L.cells k d (s.bs.length + 1)).setIfInBounds o v)
    (hf : Row w k'.fg k'.fc 60 17 Fr.cells (s'.bs ++ [s'.f])) (hn : w.ownsRow 0 78 2 k'.nv s'.ns.length (flat Nt.cells s'.ns)) (hz : s'.zs = s.zs) (hp : s'.ps = s.ps) (ho : k'.og = k.og)
    (h2 : col k'.fg = 2) (h3 : ∀ g, k'.nv.ownBlock = some g → col g = 3) :
    On L col k' d' s' (w.setCell ⟨L.sb, o, none⟩ v) ∧ Goes col w col (w.setCell ⟨L.sb, o, none⟩ v) := by
  have hk : Kept (fun g => g = L.sb) w (w.setCell ⟨L.sb, o, none⟩ v) := (Kept.refl _ w).setCell _ _ (fun _ => rfl)
  have hS : ∀ g, g < w.heap.size → g = L.sb → col g = 1 := fun g _ e => by rw [e]; exact h.c1
  obtain ⟨p1, p2, p3, p4, p5, p6⟩ := h.part hk (fun c => c = 1) hS
  refine ⟨⟨?_, hf.kept hk (fun e => ?_), nt_kept hn hk (fun g hg e => ?_), ?_, ?_, h.cd.kept hk (fun g hg e => by rw [hS g hg e]; decide) (fun _ _ => rfl), p6 (by decide), h.c0, h.c1, h2, h3, ?_, h.c5, fun g hg => h.new g (Nat.le_trans hk.size hg)⟩, hk.mono (fun g hg e => by rw [hS g hg e]; decide), fun _ _ => rfl⟩
  · rw [hc]; exact set_cellB h.st
  · have := h2; rw [e, h.c1] at this; cases this
  · have := h3 g hg; rw [e, h.c1] at this; cases this
  · rw [ho, hz]; exact p4 (by decide)
  · rw [hp]; exact p5 (by decide)
  · rw [ho]; exact h.c4
theorem On.setD (h : On L col k d s w) (d' : Nat) : On L col k d' s (w.setCell ⟨L.sb, 6, none⟩ (.int .i64 d')) ∧ Goes col w col (w.setCell ⟨L.sb, 6, none⟩ (.int .i64 d')) :=
  h.setS (k' := k) rfl h.fr h.nt rfl rfl rfl h.c2 h.c3

/-- The threads have turned. -/
theorem On.toTab (h : On L col k d s w) {ps' : List Pk} (ht : Turned w L.tb L.tg L.tc L.now ps' w') : On L col k d { s with ps := ps' } w' ∧ Goes col w col w' := by
  have hS : ∀ g, g < w.heap.size → g = L.tg → col g = 5 := fun g _ e => by rw [e]; exact h.c5.2
  obtain ⟨p1, p2, p3, p4, p5, p6⟩ := h.part ht.2 (fun c => c = 5) hS
  exact ⟨⟨p1 (by decide), p2 (by decide), p3 (by decide), p4 (by decide), ht.1, h.cd.kept ht.2 (fun g hg e => by rw [hS g hg e]; decide) (fun _ _ => rfl), p6 (by decide), h.c0, h.c1, h.c2, h.c3, h.c4, h.c5, fun g hg => h.new g (Nat.le_trans ht.2.size hg)⟩, ht.2.mono (fun g hg e => by rw [hS g hg e]; decide), fun _ _ => rfl⟩
/-- A cell was stored. -/
theorem On.toStored (h : On L col k d s w) {zs' : List Int} (ht : Stored w L.ab k.og L.most zs' w') : On L col k d { s with zs := zs' } w' ∧ Goes col w col w' := by
  have hS : ∀ g, g < w.heap.size → k.og = some g → col g = 4 := fun g _ e => h.c4 g (.inr e)
  obtain ⟨p1, p2, p3, p4, p5, p6⟩ := h.part ht.2 (fun c => c = 4) hS
  exact ⟨⟨p1 (by decide), p2 (by decide), p3 (by decide), ht.1, p5 (by decide), h.cd.kept ht.2 (fun g hg e => by rw [hS g hg e]; decide) (fun _ _ => rfl), p6 (by decide), h.c0, h.c1, h.c2, h.c3, h.c4, h.c5, fun g hg => h.new g (Nat.le_trans ht.2.size hg)⟩, ht.2.mono (fun g hg e => by rw [hS g hg e]; decide), fun _ _ => rfl⟩

/-- A new block gets a colour. -/
def paint (col : Nat → Nat) (n c : Nat) (x : Option Nat) : Nat → Nat := fun g => if g < n then col g else if x = some g then c else 0
theorem paint_old {col : Nat → Nat} {n c : Nat} {x : Option Nat} {g : Nat} (h : g < n) : paint col n c x g = col g := if_pos h
theorem paint_new {col : Nat → Nat} {n c : Nat} {x : Option Nat} {g : Nat} (h : n ≤ g) (hx : x = some g) : paint col n c x g = c := by
  unfold paint; rw [if_neg (by omega), if_pos hx]
theorem paint_none {col : Nat → Nat} {n c : Nat} {x : Option Nat} {g : Nat} (h : n ≤ g) (hx : x ≠ some g) : paint col n c x g = 0 := by
  unfold paint; rw [if_neg (by omega), if_neg hx]

/-- Cells were added. -/
theorem On.toAlloced (h : On L col k d s w) {zs' : List Int} (ht : Alloced w L.ab k.og L.most zs' w') : ∃ col' og', On L col' { k with og := og' } d { s with zs := zs' } w' ∧ Goes col w col' w' := by
  obtain ⟨og', hA, hk, ho⟩ := ht
  have hS : ∀ g, g < w.heap.size → Foot L.ab k.og g → col g = 4 := fun g _ e => h.c4 g e
  obtain ⟨p1, p2, p3, p4, p5, p6⟩ := h.part hk (fun c => c = 4) hS
  obtain ⟨l1, l2, l3, l4, l5, l6⟩ := h.lts
  have hsz := hk.size
  refine ⟨paint col w.heap.size 4 og', og', ⟨p1 (by decide), p2 (by decide), p3 (by decide), hA, p5 (by decide), h.cd.kept hk (fun g hg e => by rw [hS g hg e]; decide) (fun g hg => paint_old hg), p6 (by decide), fun g hg => (paint_old (h.ld.low g hg)).trans (h.c0 g hg), (paint_old l1).trans h.c1, (paint_old l2).trans h.c2, fun g hg => (paint_old (l3 g hg)).trans (h.c3 g hg), fun g hg => ?_, ⟨(paint_old l5).trans h.c5.1, (paint_old l6).trans h.c5.2⟩, fun g hg => ?_⟩, hk.mono (fun g hg e => by rw [hS g hg e]; decide), fun g hg => paint_old hg⟩
  · rcases hg with rfl | hg
    · exact (paint_old h.ar.lt).trans (h.c4 _ (.inl rfl))
    · have hg0 : og' = some g := hg
      rcases ho with e | ⟨g', e, hge⟩
      · exact (paint_old (l4 g (.inr (by rw [← e]; exact hg)))).trans (h.c4 g (.inr (by rw [← e]; exact hg)))
      · rw [e] at hg0
        obtain rfl := Option.some.inj hg0
        exact paint_new hge e
  · refine paint_none (by omega) (fun e => ?_)
    have := (hA.rowLt g e).1
    omega

theorem own_less {base : Nat} {e : TypeId} {size g cap n m : Nat} {xs : List Value} (h : w.ownsRow base e size (.slice (some ⟨g, 0, none⟩) n cap) n xs) (hm : m ≤ n) : w.ownsRow base e size (.slice (some ⟨g, 0, none⟩) m cap) m (xs.take (m * size)) := by
  have hle : m * size ≤ n * size := Nat.mul_le_mul_right _ hm
  refine ⟨by rw [List.length_take, h.1]; omega, ?_⟩
  rcases h.2 with ⟨h0, _⟩ | ⟨g', cap', cur, h3, hb, hg, h4, h5, h6, h7⟩
  · cases h0
  · simp only [Value.slice.injEq, Option.some.injEq, Addr.mk.injEq, and_true, true_and] at h3
    obtain ⟨rfl, rfl⟩ := h3
    exact .inr ⟨g, cap, cur, rfl, hb, hg, by omega, h5, h6, by rw [← h7, List.take_take, Nat.min_eq_left hle]⟩
/-- The last frame is left. -/
theorem On.pop (h : On L col k d s w) {bs' : List Fr} {g : Fr} (hb : s.bs = bs' ++ [g]) :
    On L col k d { s with bs := bs', f := g } (w.setCell ⟨L.sb, 4, none⟩ (.slice (some ⟨k.fg, 0, none⟩) s.bs.length k.fc)) ∧ Goes col w col (w.setCell ⟨L.sb, 4, none⟩ (.slice (some ⟨k.fg, 0, none⟩) s.bs.length k.fc)) := by
  have hl : s.bs.length = bs'.length + 1 := by rw [hb]; simp
  refine h.setS (k' := k) (d' := d) (s' := { s with bs := bs', f := g }) ?_ ?_ h.nt rfl rfl rfl h.c2 h.c3
  · rw [hl]; rfl
  · have h1 := h.fr
    unfold Row at h1 ⊢
    have h2 := own_less h1 (m := (bs' ++ [g]).length) (by rw [hb]; simp)
    have e : (flat Fr.cells (s.bs ++ [s.f])).take ((bs' ++ [g]).length * 17) = flat Fr.cells (bs' ++ [g]) := by
      rw [hb]
      have e1 : flat Fr.cells (bs' ++ [g] ++ [s.f]) = flat Fr.cells (bs' ++ [g]) ++ flat Fr.cells [s.f] := by simp [flat]
      rw [e1, ← flat_len Fr.len (bs' ++ [g]), List.take_left]
    rw [e] at h2
    exact h2

/-- A frame more. -/
theorem On.push (h : On L col k d s w) {w1 w3 : World} {v' : Value} (hk1 : Kept (fun _ => False) w w1) (f' : Fr) (h1 : w3.ownsRow 0 60 17 v' (s.bs.length + 1 + 1) (flat Fr.cells (s.bs ++ [s.f]) ++ flat Fr.cells [f'])) (hg : w1.grownBy w3 (some k.fg)) (hv : v'.ownBlock = some k.fg ∨ v'.ownBlock = some w1.heap.size) :
    ∃ col' fg' fc', On L col' { k with fg := fg', fc := fc' } d { s with bs := s.bs ++ [s.f], f := f' } (w3.setCell ⟨L.sb, 4, none⟩ v') ∧ Goes col w col' (w3.setCell ⟨L.sb, 4, none⟩ v') := by
  have hk3 : Kept (fun g => g = k.fg) w w3 := (hk1.mono (fun _ _ f => f.elim)).grown hg (fun g _ e => (Option.some.inj e).symm)
  have hk4 : Kept (fun g => g = k.fg ∨ g = L.sb) w (w3.setCell ⟨L.sb, 4, none⟩ v') := (hk3.mono (fun _ _ e => .inl e)).setCell _ _ (fun _ => .inr rfl)
  have hS3 : ∀ g, g < w.heap.size → g = k.fg → col g = 2 := fun g _ e => by rw [e]; exact h.c2
  have hS4 : ∀ g, g < w.heap.size → g = k.fg ∨ g = L.sb → col g = 2 ∨ col g = 1 := fun g _ e => by rcases e with e | e; exact .inl (by rw [e]; exact h.c2); exact .inr (by rw [e]; exact h.c1)
  obtain ⟨p1, _, _, _, _, _⟩ := h.part hk3 (fun c => c = 2) hS3
  obtain ⟨_, _, p3, p4, p5, p6⟩ := h.part hk4 (fun c => c = 2 ∨ c = 1) hS4
  obtain ⟨l1, l2, l3, l4, l5, l6⟩ := h.lts
  have hsz1 := hk1.size
  have hsz3 := hk3.size
  have hszg := hg.size
  have hsz4 : (w3.setCell ⟨L.sb, 4, none⟩ v').heap.size = w3.heap.size := by simp [World.setCell]
  rcases h1.2 with ⟨_, h0⟩ | ⟨g', cap, cur, rfl, hb, hgg, hr⟩
  · omega
  have hgl : g' < w3.heap.size := (Array.getElem?_eq_some_iff.1 hgg).1
  have hg2 : paint col w.heap.size 2 (some g') g' = 2 := by
    by_cases hlt : g' < w.heap.size
    · rw [paint_old hlt]
      rcases hv with e | e
      · rw [← h.c2]; exact congrArg col (Option.some.inj e)
      · have : g' = w1.heap.size := Option.some.inj e
        omega
    · exact paint_new (by omega) rfl
  have hgs : g' ≠ L.sb := by
    intro e
    rw [e, paint_old l1, h.c1] at hg2
    cases hg2
  refine ⟨paint col w.heap.size 2 (some g'), g', cap, ⟨?_, ?_, p3 (by decide), p4 (by decide), p5 (by decide), h.cd.kept hk4 (fun g hg e => by rcases hS4 g hg e with e | e <;> rw [e] <;> decide) (fun g hg => paint_old hg), p6 (by decide), fun g hg => (paint_old (h.ld.low g hg)).trans (h.c0 g hg), (paint_old l1).trans h.c1, hg2, fun g hg => (paint_old (l3 g hg)).trans (h.c3 g hg), fun g hg => (paint_old (l4 g hg)).trans (h.c4 g hg), ⟨(paint_old l5).trans h.c5.1, (paint_old l6).trans h.c5.2⟩, fun g hg => ?_⟩, hk4.mono (fun g hg e => by rcases hS4 g hg e with e | e <;> rw [e] <;> decide), fun g hg => paint_old hg⟩
  · rw [show (s.bs ++ [s.f]).length + 1 = s.bs.length + 1 + 1 by simp]
    exact set_cellB (p1 (by decide))
  · have hr1 : Row w3 g' cap 60 17 Fr.cells (s.bs ++ [s.f] ++ [f']) := by
      unfold Row
      rw [show (s.bs ++ [s.f] ++ [f']).length = s.bs.length + 1 + 1 by simp, show flat Fr.cells (s.bs ++ [s.f] ++ [f']) = flat Fr.cells (s.bs ++ [s.f]) ++ flat Fr.cells [f'] by simp [flat]]
      exact h1
    exact hr1.kept ((Kept.refl (fun g => g = L.sb) w3).setCell _ _ (fun _ => rfl)) hgs
  · refine paint_none (by omega) (fun e => ?_)
    have := Option.some.inj e
    omega

/-- A mark more. -/
theorem On.mark (h : On L col k d s w) {w1 w3 : World} {v' : Value} (hk1 : Kept (fun _ => False) w w1) (x : Nt) (h1 : w3.ownsRow 0 78 2 v' (s.ns.length + 1) (flat Nt.cells s.ns ++ flat Nt.cells [x])) (hg : w1.grownBy w3 k.nv.ownBlock) (hv : v'.ownBlock = k.nv.ownBlock ∨ v'.ownBlock = some w1.heap.size) :
    ∃ col', On L col' { k with nv := v' } d { s with ns := s.ns ++ [x] } (w3.setCell ⟨L.sb, 5, none⟩ v') ∧ Goes col w col' (w3.setCell ⟨L.sb, 5, none⟩ v') := by
  have hk3 : Kept (fun g => k.nv.ownBlock = some g) w w3 := (hk1.mono (fun _ _ f => f.elim)).grown hg (fun g _ e => e)
  have hk4 : Kept (fun g => k.nv.ownBlock = some g ∨ g = L.sb) w (w3.setCell ⟨L.sb, 5, none⟩ v') := (hk3.mono (fun _ _ e => .inl e)).setCell _ _ (fun _ => .inr rfl)
  have hS3 : ∀ g, g < w.heap.size → k.nv.ownBlock = some g → col g = 3 := fun g _ e => h.c3 g e
  have hS4 : ∀ g, g < w.heap.size → k.nv.ownBlock = some g ∨ g = L.sb → col g = 3 ∨ col g = 1 := fun g _ e => by rcases e with e | e; exact .inl (h.c3 g e); exact .inr (by rw [e]; exact h.c1)
  obtain ⟨p1, _, _, _, _, _⟩ := h.part hk3 (fun c => c = 3) hS3
  obtain ⟨_, p2, _, p4, p5, p6⟩ := h.part hk4 (fun c => c = 3 ∨ c = 1) hS4
  obtain ⟨l1, l2, l3, l4, l5, l6⟩ := h.lts
  have hsz1 := hk1.size
  have hsz3 := hk3.size
  have hszg := hg.size
  have hsz4 : (w3.setCell ⟨L.sb, 5, none⟩ v').heap.size = w3.heap.size := by simp [World.setCell]
  have hlt := h1.lt
  have hg3 : ∀ g, v'.ownBlock = some g → paint col w.heap.size 3 v'.ownBlock g = 3 := fun g e => by
    by_cases hlt : g < w.heap.size
    · rw [paint_old hlt]
      rcases hv with e2 | e2
      · exact h.c3 g (by rw [← e2]; exact e)
      · rw [e2] at e
        have := Option.some.inj e
        omega
    · exact paint_new (by omega) e
  have hgs : ∀ g, v'.ownBlock = some g → g ≠ L.sb := by
    intro g e e2
    have := hg3 g e
    rw [e2, paint_old l1, h.c1] at this
    cases this
  refine ⟨paint col w.heap.size 3 v'.ownBlock, ⟨?_, p2 (by decide), ?_, p4 (by decide), p5 (by decide), h.cd.kept hk4 (fun g hg e => by rcases hS4 g hg e with e | e <;> rw [e] <;> decide) (fun g hg => paint_old hg), p6 (by decide), fun g hg => (paint_old (h.ld.low g hg)).trans (h.c0 g hg), (paint_old l1).trans h.c1, (paint_old l2).trans h.c2, hg3, fun g hg => (paint_old (l4 g hg)).trans (h.c4 g hg), ⟨(paint_old l5).trans h.c5.1, (paint_old l6).trans h.c5.2⟩, fun g hg => ?_⟩, hk4.mono (fun g hg e => by rcases hS4 g hg e with e | e <;> rw [e] <;> decide), fun g hg => paint_old hg⟩
  · exact set_cellB (p1 (by decide))
  · have hr1 : w3.ownsRow 0 78 2 v' (s.ns ++ [x]).length (flat Nt.cells (s.ns ++ [x])) := by
      rw [List.length_append, show flat Nt.cells (s.ns ++ [x]) = flat Nt.cells s.ns ++ flat Nt.cells [x] by simp [flat]]
      exact h1
    exact nt_kept hr1 ((Kept.refl (fun g => g = L.sb) w3).setCell _ _ (fun _ => rfl)) hgs
  · refine paint_none (by omega) (fun e => ?_)
    have := (hlt g e).2
    omega
end

end Go.Proofs.YtdkableaooaebaaDoor
