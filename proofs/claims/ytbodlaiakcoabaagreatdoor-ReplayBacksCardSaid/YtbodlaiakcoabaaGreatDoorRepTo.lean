/-
  Places of a row: the program's closures just, of, and those of waitRows, in memory.
  Conditions: none; colours tell blocks apart, and 4 is the colour of the variables that a look writes.
  A row's look: the program's closures of marks and many, in memory.
  Conditions: the places lie in blocks that nothing writes.
  A row's results, and a look of any many marks: the program's closures of to and many, in memory.
  Conditions: none.
-/
import Derived.Test.YtbodlaiakcoabaaGreatDoorRepM
import Derived.Test.YtbodlaiakcoabaaGreatDoorModMem
import Derived.LoopTactic
import Derived.Deep.QuietTactic
import Derived.BigQuiet
import Derived.Outline
import Derived.Deep.RegionHeld3
import Derived.Deep.RegionWith
section
namespace Go.Proofs.YtbodlaiakcoabaaGreatDoor
open Go.RowKit
set_option linter.unusedSimpArgs false

/-- A variable that holds a number. -/
def Hd (w : World) (b : Nat) : Prop := ∃ v : Int, w.heap[b]? = some (.cells #[.int .i64 v] 2 (0, 0))
/-- Colours that fit the world. -/
structure Wl (κ : Nat → Nat) (w : World) : Prop where
  lt : ∀ b, κ b ≠ 0 → b < w.heap.size
  hd : ∀ b, κ b = 4 → Hd w b
/-- What a look leaves of a world. -/
structure Soft (κ : Nat → Nat) (w w' : World) : Prop where
  kept : Kept (fun b => κ b = 4) w w'
  hd : ∀ b, κ b = 4 → Hd w b → Hd w' b
/-- A later world, with more colours. -/
structure Lat (κ κ' : Nat → Nat) (w w' : World) : Prop where
  same : ∀ b, b < w.heap.size → κ' b = κ b
  kept : Kept (fun b => κ b ≠ 0) w w'

theorem Soft.refl (κ : Nat → Nat) (w : World) : Soft κ w w := ⟨Kept.refl _ _, fun _ _ h => h⟩
theorem Soft.trans {κ : Nat → Nat} {a b c : World} (h : Soft κ a b) (k : Soft κ b c) : Soft κ a c := ⟨h.kept.trans k.kept (fun _ _ h => h), fun i e hi => k.hd i e (h.hd i e hi)⟩
theorem Soft.wl {κ : Nat → Nat} {a b : World} (h : Soft κ a b) (k : Wl κ a) : Wl κ b := ⟨fun i hi => Nat.lt_of_lt_of_le (k.lt i hi) h.kept.size, fun i hi => h.hd i hi (k.hd i hi)⟩
theorem Soft.of0 {κ : Nat → Nat} {a b : World} (h : Kept (fun _ => False) a b) : Soft κ a b := ⟨h.mono (fun _ _ f => f.elim), fun _ _ ⟨v, hv⟩ => ⟨v, h.at0 hv⟩⟩
theorem Wl.kept0 {κ : Nat → Nat} {a b : World} (k : Wl κ a) (h : Kept (fun _ => False) a b) : Wl κ b := (Soft.of0 h).wl k
theorem Lat.refl (κ : Nat → Nat) (w : World) : Lat κ κ w w := ⟨fun _ _ => rfl, Kept.refl _ _⟩
theorem Lat.trans {κ κ' κ2 : Nat → Nat} {a b c : World} (h : Lat κ κ' a b) (k : Lat κ' κ2 b c) : Lat κ κ2 a c :=
  ⟨fun i hi => (k.same i (Nat.lt_of_lt_of_le hi h.kept.size)).trans (h.same i hi), h.kept.trans k.kept (fun i hi hn => by rwa [h.same i hi] at hn)⟩
theorem Lat.soft {κ : Nat → Nat} {a b : World} (h : Soft κ a b) : Lat κ κ a b := ⟨fun _ _ => rfl, h.kept.mono (fun _ _ e => by rw [e]; decide)⟩
theorem Lat.of0 {κ : Nat → Nat} {a b : World} (h : Kept (fun _ => False) a b) : Lat κ κ a b := Lat.soft (Soft.of0 h)

/-- Elements in blocks that meet Q. -/
def ElemsQ {α : Type} (Q : Nat → Prop) (w : World) (s : Option Addr) (m : Nat) (f : α → List Value) (xs : List α) : Prop :=
  xs.length ≤ maxLen ∧ ∀ i x, xs[i]? = some x → ∃ g off, s = some ⟨g, off, none⟩ ∧ (g < w.heap.size ∧ Q g) ∧ ∀ j v, (f x)[j]? = some v → w.cell? ⟨g, off + i * m + j, none⟩ = some v
theorem ElemsQ.kept {α : Type} {Q Q' S : Nat → Prop} {w w' : World} {s : Option Addr} {m : Nat} {f : α → List Value} {xs : List α} (h : ElemsQ Q w s m f xs) (k : Kept S w w') (hS : ∀ g, g < w.heap.size → Q g → ¬ S g) (hQ : ∀ g, g < w.heap.size → Q g → Q' g) : ElemsQ Q' w' s m f xs :=
  ⟨h.1, fun i x hi => by obtain ⟨g, off, e, hb, hc⟩ := h.2 i x hi; exact ⟨g, off, e, ⟨Nat.lt_of_lt_of_le hb.1 k.size, hQ g hb.1 hb.2⟩, fun j v hj => (k.cell hb.1 (hS g hb.1 hb.2)).trans (hc j v hj)⟩⟩
theorem ElemsQ.soft {α : Type} {κ : Nat → Nat} {w w' : World} {s : Option Addr} {m : Nat} {f : α → List Value} {xs : List α} (h : ElemsQ (fun g => κ g ≠ 4) w s m f xs) (k : Soft κ w w') : ElemsQ (fun g => κ g ≠ 4) w' s m f xs := h.kept k.kept (fun _ _ h => h) (fun _ _ h => h)
theorem ElemsQ.lat {α : Type} {κ κ' : Nat → Nat} {w w' : World} {s : Option Addr} {m : Nat} {f : α → List Value} {xs : List α} (h : ElemsQ (fun g => κ g = 0) w s m f xs) (k : Lat κ κ' w w') : ElemsQ (fun g => κ' g = 0) w' s m f xs :=
  h.kept k.kept (fun _ _ e hn => hn e) (fun g hg e => (k.same g hg).trans e)
theorem ElemsQ.mono {α : Type} {Q Q' : Nat → Prop} {w : World} {s : Option Addr} {m : Nat} {f : α → List Value} {xs : List α} (h : ElemsQ Q w s m f xs) (hQ : ∀ g, Q g → Q' g) : ElemsQ Q' w s m f xs := h.kept (Kept.refl (fun _ => False) w) (fun _ _ _ f => f) (fun g _ => hQ g)
theorem ElemsQ.nil {α : Type} {Q : Nat → Prop} {w : World} {s : Option Addr} {m : Nat} {f : α → List Value} : ElemsQ Q w s m f [] := ⟨by simp, fun i x hi => by simp at hi⟩

/-- A call of this function enters it. -/
def Ent (f : Nat) : Prop := ∀ (args : Array Value) (w : World), (callFunc f args).run Tryz.prog w = .ok (.enter f args) w
theorem ent_of {f : FuncId} {fn : Func} {c : Code} (hf : Tryz.prog.funcs[f]? = some fn) (hname : (fn.name == "runtime.NumGoroutine") = false) (hb : fn.body = some c) : Ent f := by
  intro args w
  have h1 : fn.name ≠ "runtime.NumGoroutine" := by simpa using hname
  simp [callFunc, hf, h1, hb, mark]

/-- A place's function: what it tells of a mark, with what it keeps of the marks ahead. -/
def Fits (κ : Nat → Nat) (w : World) (f : Nat) (c : Array Value) (J : List Mk → World → Prop) (pre : List Mk) (P : Mk → Bool) : Prop :=
  Ent f ∧ ∀ κ' w' m, Lat κ κ' w w' → Wl κ' w' → J pre w' → Calls Tryz.prog f (#[Mk.agg m] ++ c) w' fun e w'' => e = .returned (.bool (P m)) ∧ Soft κ' w' w'' ∧ (P m = true → J (pre ++ [m]) w'')
theorem Fits.lat {κ κ' : Nat → Nat} {w w' : World} {f : Nat} {c : Array Value} {J : List Mk → World → Prop} {pre : List Mk} {P : Mk → Bool} (h : Fits κ w f c J pre P) (k : Lat κ κ' w w') : Fits κ' w' f c J pre P :=
  ⟨h.1, fun κ2 w2 m hl hw hj => h.2 κ2 w2 m (k.trans hl) hw hj⟩
/-- A place's function that keeps nothing. -/
def Fit0 (κ : Nat → Nat) (w : World) (f : Nat) (c : Array Value) (P : Mk → Bool) : Prop :=
  Ent f ∧ ∀ κ' w' m, Lat κ κ' w w' → Calls Tryz.prog f (#[Mk.agg m] ++ c) w' fun e w'' => e = .returned (.bool (P m)) ∧ Kept (fun _ => False) w' w''
theorem Fit0.lat {κ κ' : Nat → Nat} {w w' : World} {f : Nat} {c : Array Value} {P : Mk → Bool} (h : Fit0 κ w f c P) (k : Lat κ κ' w w') : Fit0 κ' w' f c P :=
  ⟨h.1, fun κ2 w2 m hl => h.2 κ2 w2 m (k.trans hl)⟩
theorem Fit0.fits {κ : Nat → Nat} {w : World} {f : Nat} {c : Array Value} {P : Mk → Bool} (h : Fit0 κ w f c P) (pre : List Mk) : Fits κ w f c (fun _ _ => True) pre P :=
  ⟨h.1, fun κ' w' m hl _ _ => (h.2 κ' w' m hl).mono (fun _ _ ⟨e, k⟩ => ⟨e, Soft.of0 k, fun _ => trivial⟩)⟩

theorem cell0 (w : World) (v : Value) (t : TypeId) : (w.alloc (.cells #[v] t)).cell? ⟨w.heap.size, 0, none⟩ = some v := by rw [cell_at _ _ 0 _ _ (heap_new1 _ _)]; rfl

theorem justc_any (k v : Int) (m : Mk) (B C : Nat) (w : World) (h1 : w.cell? ⟨B, 0, none⟩ = some (.int .i64 k)) (h2 : w.cell? ⟨C, 0, none⟩ = some (.int .i64 v)) (hB : B < w.heap.size) (hC : C < w.heap.size) :
    Calls Tryz.prog 89 #[m.agg, .pointer (some ⟨B, 0, none⟩), .pointer (some ⟨C, 0, none⟩)] w fun e w' => e = .returned (.bool (m.kind == k && m.v == v)) ∧ Kept (fun _ => False) w w' := by
  have hk : Kept (fun _ => False) w (w.alloc (.cells #[.int .i64 m.kind, .int .i64 m.v] 36)) := (Kept.refl _ w).alloc _
  have g1 := (hk.cell (p := ⟨B, 0, none⟩) hB (fun f => f)).trans h1
  have g2 := (hk.cell (p := ⟨C, 0, none⟩) hC (fun f => f)).trans h2
  have HK := Lib.hid hk; clear hk h1 h2
  cases e1 : (m.kind == k)
  · go_enter Tryz.func89, Tryz.ntmps89
    go_wp2_with fail
    go_ret
    exact ⟨rfl, HK.out⟩
  · go_enter Tryz.func89, Tryz.ntmps89
    go_wp2_with fail
    go_ret
    exact ⟨rfl, HK.out⟩
theorem ofc_any (k : Int) (m : Mk) (B : Nat) (w : World) (h1 : w.cell? ⟨B, 0, none⟩ = some (.int .i64 k)) (hB : B < w.heap.size) :
    Calls Tryz.prog 92 #[m.agg, .pointer (some ⟨B, 0, none⟩)] w fun e w' => e = .returned (.bool (m.kind == k)) ∧ Kept (fun _ => False) w w' := by
  have hk : Kept (fun _ => False) w (w.alloc (.cells #[.int .i64 m.kind, .int .i64 m.v] 36)) := (Kept.refl _ w).alloc _
  have g1 := (hk.cell (p := ⟨B, 0, none⟩) hB (fun f => f)).trans h1
  have HK := Lib.hid hk; clear hk h1
  go_enter Tryz.func92, Tryz.ntmps92
  go_wp2_with fail
  go_ret
  exact ⟨rfl, HK.out⟩

theorem just_any (κ : Nat → Nat) (k v : Int) (w : World) (hW : Wl κ w) :
    Calls Tryz.prog 72 #[.int .i64 k, .int .i64 v] w fun e w' => ∃ f c, e = .returned (.func (.func f) #[] c) ∧ Fit0 κ w' f c (fun m => m.kind == k && m.v == v) ∧ Kept (fun _ => False) w w' := by
  have hk : Kept (fun _ => False) w ((w.alloc (.cells #[.int .i64 k] 3)).alloc (.cells #[.int .i64 v] 3)) := ((Kept.refl _ w).alloc _).alloc _
  have HF : Hid (Fit0 κ ((w.alloc (.cells #[.int .i64 k] 3)).alloc (.cells #[.int .i64 v] 3)) 89 #[.pointer (some ⟨w.heap.size, 0, none⟩), .pointer (some ⟨w.heap.size + 1, 0, none⟩)] (fun m => m.kind == k && m.v == v)) := Lib.hid ⟨ent_of Tryz.func89 (by kernel_rfl) rfl, (fun κ' w' m hl => by
    have hW2 := hW.kept0 hk
    have n0 : κ w.heap.size = 0 := Classical.byContradiction fun h => Nat.lt_irrefl _ (hW.lt _ h)
    have n1 : κ (w.heap.size + 1) = 0 := Classical.byContradiction fun h => by have := hW.lt _ h; omega
    have s2 : ((w.alloc (.cells #[.int .i64 k] 3)).alloc (.cells #[.int .i64 v] 3)).heap.size = w.heap.size + 2 := by simp
    have c0 : ((w.alloc (.cells #[.int .i64 k] 3)).alloc (.cells #[.int .i64 v] 3)).cell? ⟨w.heap.size, 0, none⟩ = some (.int .i64 k) := by
      rw [((Kept.refl (fun _ => False) (w.alloc (.cells #[.int .i64 k] 3))).alloc _).cell (p := ⟨w.heap.size, 0, none⟩) (by simp) (fun f => f)]; exact cell0 _ _ _
    have c1 : ((w.alloc (.cells #[.int .i64 k] 3)).alloc (.cells #[.int .i64 v] 3)).cell? ⟨w.heap.size + 1, 0, none⟩ = some (.int .i64 v) := by
      have h := cell0 (w.alloc (.cells #[.int .i64 k] 3)) (.int .i64 v) 3
      rw [show (w.alloc (.cells #[.int .i64 k] 3)).heap.size = w.heap.size + 1 from by simp] at h
      exact h
    exact justc_any k v m _ _ w' ((hl.kept.cell (p := ⟨w.heap.size, 0, none⟩) (by rw [s2]; show w.heap.size < _; omega) (by show ¬ κ w.heap.size ≠ 0; rw [n0]; simp)).trans c0) ((hl.kept.cell (p := ⟨w.heap.size + 1, 0, none⟩) (by rw [s2]; show w.heap.size + 1 < _; omega) (by show ¬ κ (w.heap.size + 1) ≠ 0; rw [n1]; simp)).trans c1) (by have := hl.kept.size; rw [s2] at this; omega) (by have := hl.kept.size; rw [s2] at this; omega))⟩
  have HK := Lib.hid hk
  clear hk
  go_enter Tryz.func72, Tryz.ntmps72
  go_wp2_with fail
  go_ret
  exact ⟨_, _, rfl, HF.out, HK.out⟩
theorem of_any1 (κ : Nat → Nat) (k : Int) (w : World) (hW : Wl κ w) :
    Calls Tryz.prog 74 #[.int .i64 k] w fun e w' => ∃ f c, e = .returned (.func (.func f) #[] c) ∧ Fit0 κ w' f c (fun m => m.kind == k) ∧ Kept (fun _ => False) w w' := by
  have hk : Kept (fun _ => False) w (w.alloc (.cells #[.int .i64 k] 3)) := (Kept.refl _ w).alloc _
  have HF : Hid (Fit0 κ (w.alloc (.cells #[.int .i64 k] 3)) 92 #[.pointer (some ⟨w.heap.size, 0, none⟩)] (fun m => m.kind == k)) := Lib.hid ⟨ent_of Tryz.func92 (by kernel_rfl) rfl, (fun κ' w' m hl => by
    have n0 : κ w.heap.size = 0 := Classical.byContradiction fun h => Nat.lt_irrefl _ (hW.lt _ h)
    have s2 : (w.alloc (.cells #[.int .i64 k] 3)).heap.size = w.heap.size + 1 := by simp
    exact ofc_any k m _ w' ((hl.kept.cell (p := ⟨w.heap.size, 0, none⟩) (by rw [s2]; show w.heap.size < _; omega) (by show ¬ κ w.heap.size ≠ 0; rw [n0]; simp)).trans (cell0 _ _ _)) (by have := hl.kept.size; rw [s2] at this; omega))⟩
  have HK := Lib.hid hk
  clear hk
  go_enter Tryz.func74, Tryz.ntmps74
  go_wp2_with fail
  go_ret
  exact ⟨_, _, rfl, HF.out, HK.out⟩

/-- The wait of waitRows: it keeps the mark's value. -/
theorem waitc_any (κ : Nat → Nat) (m : Mk) (H : Nat) (w : World) (hW : Wl κ w) (hH : κ H = 4) :
    Calls Tryz.prog 90 #[m.agg, .pointer (some ⟨H, 0, none⟩)] w fun e w' => e = .returned (.bool (m.kind == 10)) ∧ Soft κ w w' ∧ w'.cell? ⟨H, 0, none⟩ = some (.int .i64 m.v) := by
  obtain ⟨v0, h0⟩ := hW.hd H hH
  have hlt := hW.lt H (by rw [hH]; decide)
  obtain ⟨W1, hw1⟩ : ∃ W1, w.alloc (.cells #[.int .i64 m.kind, .int .i64 m.v] 36) = W1 := ⟨_, rfl⟩
  have hk : Kept (fun _ => False) w W1 := by rw [← hw1]; exact (Kept.refl _ w).alloc _
  have h1 := hk.at0 h0
  have c0 := cell_at W1 H 0 _ _ h1
  have f0 := frozen_at W1 H 0 _ _ h1
  have e0 : W1.cell? ⟨H, 0, none⟩ = some (.int .i64 v0) := c0.trans rfl
  have m0 : W1.cell? ⟨w.heap.size, 0, none⟩ = some (.int .i64 m.kind) := by rw [← hw1, cell_at _ _ 0 _ _ (heap_new1 _ _)]; rfl
  have m1 : W1.cell? ⟨w.heap.size, 1, none⟩ = some (.int .i64 m.v) := by rw [← hw1, cell_at _ _ 1 _ _ (heap_new1 _ _)]; rfl
  have hS : Hid (Soft κ w (W1.setCell ⟨H, 0, none⟩ (.int .i64 m.v)) ∧ (W1.setCell ⟨H, 0, none⟩ (.int .i64 m.v)).cell? ⟨H, 0, none⟩ = some (.int .i64 m.v)) := by
    have hset := heap_setCell_same W1 H 0 _ _ (.int .i64 m.v) h1
    refine Lib.hid ⟨⟨(hk.mono (fun _ _ f => f.elim)).setCell _ _ (fun _ => hH), fun b hb ⟨v, hv⟩ => ?_⟩, ?_⟩
    · by_cases e : b = H
      · subst e; exact ⟨m.v, hset⟩
      · have := hk.at0 hv
        refine ⟨v, ?_⟩
        rw [heap_setCell_other _ _ _ _ e]; exact this
    · rw [cell_at _ _ 0 _ _ hset]; rfl
  clear hk h1 h0 c0
  go_enter Tryz.func90, Tryz.ntmps90
  go_wp2_with fail
  go_ret
  exact ⟨rfl, hS.out.1, hS.out.2⟩

/-- The take of waitRows: it asks for the value that was kept. -/
theorem takec_any (m : Mk) (v : Int) (H : Nat) (w : World) (h1 : w.cell? ⟨H, 0, none⟩ = some (.int .i64 v)) :
    Calls Tryz.prog 91 #[m.agg, .pointer (some ⟨H, 0, none⟩)] w fun e w' => e = .returned (.bool (m.kind == 1 && m.v == v)) ∧ Kept (fun _ => False) w w' := by
  have hH := World.block_lt_of_cell? w _ h1
  have hk : Kept (fun _ => False) w (w.alloc (.cells #[.int .i64 m.kind, .int .i64 m.v] 36)) := (Kept.refl _ w).alloc _
  have g1 := (hk.cell (p := ⟨H, 0, none⟩) hH (fun f => f)).trans h1
  have HK := Lib.hid hk; clear hk h1
  cases e1 : (m.kind == 1)
  · go_enter Tryz.func91, Tryz.ntmps91
    go_wp2_with fail
    go_ret
    exact ⟨rfl, HK.out⟩
  · go_enter Tryz.func91, Tryz.ntmps91
    go_wp2_with fail
    go_ret
    exact ⟨rfl, HK.out⟩

end Go.Proofs.YtbodlaiakcoabaaGreatDoor
end
section
set_option maxRecDepth 100000
namespace Go.Proofs.YtbodlaiakcoabaaGreatDoor
open Go.RowKit
set_option linter.unusedSimpArgs false

/-- A function and what it captured. -/
structure Fc where
  f : Nat
  c : Array Value
def Fc.cells (x : Fc) : List Value := [.func (.func x.f) #[] x.c]
/-- A look. -/
def Looks (κ : Nat → Nat) (w : World) (f : Nat) (c : Array Value) (L : List Mk → Bool × Bool) : Prop :=
  Ent f ∧ ∀ κ' w' s n cap l, Lat κ κ' w w' → Wl κ' w' → ElemsQ (fun g => κ' g ≠ 4) w' s 2 Mk.cells l → n = l.length → Calls Tryz.prog f (#[.slice s n cap] ++ c) w' fun e w'' => e = .returned (.tuple #[.bool (L l).1, .bool (L l).2]) ∧ Soft κ' w' w''
theorem Looks.lat {κ κ' : Nat → Nat} {w w' : World} {f : Nat} {c : Array Value} {L : List Mk → Bool × Bool} (h : Looks κ w f c L) (k : Lat κ κ' w w') : Looks κ' w' f c L :=
  ⟨h.1, fun κ2 w2 s n cap l hl hw hj hn => h.2 κ2 w2 s n cap l (k.trans hl) hw hj hn⟩

theorem mk_at {Q : Nat → Prop} {w : World} {s : Option Addr} {l : List Mk} (h : ElemsQ Q w s 2 Mk.cells l) {k : Nat} {m : Mk} (hm : l[k]? = some m) :
    ∃ g off, s = some ⟨g, off, none⟩ ∧ w.cell? ⟨g, off + k * 2, none⟩ = some (.int .i64 m.kind) ∧ w.cell? ⟨g, off + k * 2 + 1, none⟩ = some (.int .i64 m.v) := by
  obtain ⟨g, off, e, hb, hc⟩ := h.2 k m hm
  exact ⟨g, off, e, hc 0 _ rfl, hc 1 _ rfl⟩
theorem fc_at {Q : Nat → Prop} {w : World} {s : Option Addr} {l : List Fc} (h : ElemsQ Q w s 1 Fc.cells l) {k : Nat} {x : Fc} (hx : l[k]? = some x) :
    ∃ g off, s = some ⟨g, off, none⟩ ∧ Q g ∧ w.cell? ⟨g, off + k, none⟩ = some (.func (.func x.f) #[] x.c) := by
  obtain ⟨g, off, e, hb, hc⟩ := h.2 k x hx
  have h0 := hc 0 _ rfl
  rw [Nat.mul_one, Nat.add_zero] at h0
  exact ⟨g, off, e, hb.2, h0⟩

theorem nat_beq (a b : Nat) : ((a : Int) == (b : Int)) = (a == b) := by rw [Bool.eq_iff_iff, beq_iff_eq, beq_iff_eq]; omega
theorem goP_long : ∀ (ps : List (List Mk → Mk → Bool)) (pre l : List Mk), ps.length < l.length → goP ps pre l = false
  | [], pre, [], h => by simp at h
  | [], pre, m :: l, h => rfl
  | p :: ps, pre, [], h => by simp at h
  | p :: ps, pre, m :: l, h => by simp only [goP]; rw [goP_long ps _ l (by simpa using h), Bool.and_false]
theorem goP_step {ps : List (List Mk → Mk → Bool)} {l : List Mk} {k : Nat} {m : Mk} {P : List Mk → Mk → Bool} (hm : l[k]? = some m) (hp : ps[k]? = some P) :
    goP (ps.drop k) (l.take k) (l.drop k) = (P (l.take k) m && goP (ps.drop (k + 1)) (l.take (k + 1)) (l.drop (k + 1))) := by
  obtain ⟨h1, e1⟩ := List.getElem?_eq_some_iff.1 hm
  obtain ⟨h2, e2⟩ := List.getElem?_eq_some_iff.1 hp
  rw [List.drop_eq_getElem_cons h1, List.drop_eq_getElem_cons h2, e1, e2]
  simp only [goP]
  rw [List.take_succ_eq_append_getElem h1, e1]

set_option maxHeartbeats 1000000 in
theorem marksc_any (κ : Nat → Nat) (w : World) (B : Nat) (sp : Option Addr) (cp : Nat) (fs : List Fc) (ps : List (List Mk → Mk → Bool)) (J : List Mk → World → Prop)
    (hB : w.cell? ⟨B, 0, none⟩ = some (.slice sp fs.length cp)) (hκ : κ B = 0) (hE : ElemsQ (fun g => κ g = 0) w sp 1 Fc.cells fs) (hl : fs.length = ps.length) (hmax : ps.length ≤ 10)
    (hfit : ∀ i x P, fs[i]? = some x → ps[i]? = some P → ∀ pre, pre.length = i → Fits κ w x.f x.c J pre (P pre)) (hJ0 : ∀ w', J [] w') (hJs : ∀ pre a b, Kept (fun _ => False) a b → J pre a → J pre b) :
    Looks κ w 69 #[.pointer (some ⟨B, 0, none⟩)] (marksL ps) := by
  refine ⟨ent_of Tryz.func69 (by kernel_rfl) rfl, ?_⟩
  intro κ' w' s n cap l hlat hW hL hn
  subst hn
  have hBlt := World.block_lt_of_cell? w _ hB
  have hB1 := (hlat.kept.cell (p := ⟨B, 0, none⟩) hBlt (by show ¬ κ B ≠ 0; rw [hκ]; simp)).trans hB
  have hκ1 : κ' B = 0 := (hlat.same B hBlt).trans hκ
  have hE1 := hE.lat hlat
  have HFit : Hid (∀ κ2 wr k x P m, Lat κ' κ2 w' wr → Wl κ2 wr → fs[k]? = some x → ps[k]? = some P → J (l.take k) wr → k ≤ l.length → Ent x.f ∧ Calls Tryz.prog x.f (#[Mk.agg m] ++ x.c) wr fun e w'' => e = .returned (.bool (P (l.take k) m)) ∧ Soft κ2 wr w'' ∧ (P (l.take k) m = true → J (l.take k ++ [m]) w'')) :=
    Lib.hid (fun κ2 wr k x P m h1 h2 h3 h4 h5 h6 => ⟨(hfit k x P h3 h4 (l.take k) (by simp; omega)).1, (hfit k x P h3 h4 (l.take k) (by simp; omega)).2 κ2 wr m (hlat.trans h1) h2 h5⟩)
  have hlm := hL.1
  unfold maxLen at hlm
  have HPB : Hid (∀ wr, Soft κ' w' wr → wr.cell? ⟨B, 0, none⟩ = some (.slice sp fs.length cp)) := Lib.hid (fun wr hs => (hs.kept.cell (p := ⟨B, 0, none⟩) (World.block_lt_of_cell? w' _ hB1) (by show ¬ κ' B = 4; rw [hκ1]; decide)).trans hB1)
  have HP : Hid (∀ wr k m x, Soft κ' w' wr → l[k]? = some m → fs[k]? = some x → wr.cell? ⟨B, 0, none⟩ = some (.slice sp fs.length cp) ∧ (∃ g off, s = some ⟨g, off, none⟩ ∧ wr.cell? ⟨g, off + k * 2, none⟩ = some (.int .i64 m.kind) ∧ wr.cell? ⟨g, off + k * 2 + 1, none⟩ = some (.int .i64 m.v)) ∧
      ∃ g off, sp = some ⟨g, off, none⟩ ∧ κ' g ≠ 4 ∧ wr.cell? ⟨g, off + k, none⟩ = some (.func (.func x.f) #[] x.c)) := Lib.hid (fun wr k m x hs hm hx =>
    ⟨(hs.kept.cell (p := ⟨B, 0, none⟩) (World.block_lt_of_cell? w' _ hB1) (by show ¬ κ' B = 4; rw [hκ1]; decide)).trans hB1, mk_at (hL.soft hs) hm, fc_at ((hE1.mono (fun g e => (by rw [e]; decide : κ' g ≠ 4))).soft hs) hx⟩)
  have HBκ : Hid (¬ κ' B = 4) := Lib.hid (by rw [hκ1]; decide)
  have HW := Lib.hid hW
  have HJ0 := Lib.hid hJ0
  have HJs := Lib.hid hJs
  have HL := Lib.hid hl
  have hpl : fs.length ≤ 10 := by omega
  clear hfit hJ0 hJs hE hE1 hL hlat hB hW hκ hκ1 hBlt hl hmax
  by_cases hlong : fs.length < l.length
  · have e : marksL ps l = (false, false) := by unfold marksL; rw [goP_long ps [] l (by rw [← HL.out]; exact hlong)]; rfl
    rw [e]
    clear e
    go_enter Tryz.func69, Tryz.ntmps69
    go_wp2_with fail
    go_ret2
    exact ⟨rfl, Soft.refl _ _⟩
  · go_enter Tryz.func69, Tryz.ntmps69
    go_wp2_with fail
    go_loopw [14] (fun i wr => ∃ k : Nat, i = .int .i64 k ∧ k ≤ l.length ∧ Soft κ' w' wr ∧ J (l.take k) wr ∧ goP ps [] l = goP (ps.drop k) (l.take k) (l.drop k)) (fun i _ => l.length - (intOf i).toNat)
    case atStart => exact ⟨0, rfl, by omega, Soft.refl _ _, HJ0.out _, rfl⟩
    case round =>
      obtain ⟨k, rfl, hk1', hs, hj, hg⟩ := hrel
      have HS := Lib.hid hs; clear hs
      have HJ := Lib.hid hj; clear hj
      have HG := Lib.hid hg; clear hg
      by_cases hkk : k < l.length
      · obtain ⟨m, hm⟩ : ∃ m, l[k]? = some m := ⟨_, List.getElem?_eq_getElem hkk⟩
        obtain ⟨x, hx⟩ : ∃ x, fs[k]? = some x := ⟨_, List.getElem?_eq_getElem (by omega)⟩
        obtain ⟨P, hP⟩ : ∃ P, ps[k]? = some P := ⟨_, List.getElem?_eq_getElem (by have := HL.out; omega)⟩
        obtain ⟨b0, ⟨g, off, rfl, y0, y1⟩, g2, off2, rfl, q2, y2⟩ := HP.out wr k m x HS.out hm hx
        have HM := Lib.hid hm
        have HX := Lib.hid hx
        have HPP := Lib.hid hP
        clear hm hx hP
        obtain ⟨W1, hW1⟩ : ∃ W1, wr.alloc (.cells #[.int .i64 m.kind, .int .i64 m.v] 36) = W1 := ⟨_, rfl⟩
        have hk1 : Kept (fun _ => False) wr W1 := by rw [← hW1]; exact (Kept.refl _ _).alloc _
        have hb1 : W1.heap[wr.heap.size]? = some (.cells #[.int .i64 m.kind, .int .i64 m.v] 36 (0, 0)) := by rw [← hW1]; exact heap_new1 _ _
        have SF : Hid (∀ w', Soft κ' W1 w' → w'.cell? ⟨B, 0, none⟩ = some (.slice (some ⟨g2, off2, none⟩) fs.length cp) ∧ w'.cell? ⟨g2, off2 + k, none⟩ = some (.func (.func x.f) #[] x.c) ∧ w'.cell? ⟨wr.heap.size, 0, none⟩ = some (.int .i64 m.kind) ∧ w'.cell? ⟨wr.heap.size, 1, none⟩ = some (.int .i64 m.v)) := Lib.hid (fun w' hk => by
          have n1 : κ' wr.heap.size ≠ 4 := fun h => Nat.lt_irrefl _ ((HS.out.wl HW.out).lt wr.heap.size (by rw [h]; decide))
          have h := hk.kept.at_ hb1 n1
          have hs1 : Soft κ' wr w' := (Soft.of0 hk1).trans hk
          refine ⟨(hs1.kept.cell (p := ⟨B, 0, none⟩) (World.block_lt_of_cell? wr _ b0) HBκ.out).trans b0, (hs1.kept.cell (p := ⟨g2, off2 + k, none⟩) (World.block_lt_of_cell? wr _ y2) q2).trans y2, ?_, ?_⟩
          · rw [cell_at _ _ 0 _ _ h]; rfl
          · rw [cell_at _ _ 1 _ _ h]; rfl)
        have HC : Hid (∀ w2, Kept (fun _ => False) W1 w2 → Calls Tryz.prog x.f (#[Mk.agg m] ++ x.c) w2 fun e w'' => e = .returned (.bool (P (l.take k) m)) ∧ Soft κ' w2 w'' ∧ (P (l.take k) m = true → J (l.take k ++ [m]) w'')) := Lib.hid (fun w2 hk => by
          have hs2 : Soft κ' w' w2 := HS.out.trans (Soft.of0 (hk1.tr0 hk))
          exact (HFit.out κ' w2 k x P m (Lat.soft hs2) (hs2.wl HW.out) HX.out HPP.out (HJs.out _ _ _ (hk1.tr0 hk) HJ.out) hk1').2)
        have he : ∀ (args : Array Value) (w : World), (callFunc x.f args).run Tryz.prog w = .ok (.enter x.f args) w := (HFit.out κ' wr k x P m (Lat.soft HS.out) (HS.out.wl HW.out) HX.out HPP.out HJ.out hk1').1
        have k0 : (0 : Int) ≤ (k : Int) := by omega
        have k1 : (k : Int) < (l.length : Int) := by omega
        have k2 : (k : Int) < (fs.length : Int) := by omega
        have HK1 := Lib.hid hk1
        clear hkk hk1 hb1 y2 b0 hB1 HP HPB
        cases hp : P (l.take k) m
        · rw [hp] at HC
          go_wp2_with fail
          go_region_held3 (fun w' => w'.cell? ⟨B, 0, none⟩ = some (.slice (some ⟨g2, off2, none⟩) fs.length cp) ∧ w'.cell? ⟨g2, off2 + k, none⟩ = some (.func (.func x.f) #[] x.c) ∧ w'.cell? ⟨wr.heap.size, 0, none⟩ = some (.int .i64 m.kind) ∧ w'.cell? ⟨wr.heap.size, 1, none⟩ = some (.int .i64 m.v)) (first | exact SF.out _ (Soft.refl _ _) | exact SF.out _ (Soft.of0 (Kept.refl _ _).drew) | exact SF.out _ HS6) (first | (refine (HC.out _ (by first | exact (Kept.refl _ _).drew | exact Kept.refl _ _)).mono ?_; rintro e w6 ⟨rfl, hs6, -⟩; have HS6 : Soft κ' W1 w6 := (Soft.of0 (Kept.refl _ _).drew).trans hs6; clear hs6))
          all_goals go_wp2_with fail
          have eg : goP ps [] l = false := by rw [HG.out, goP_step HM.out HPP.out, hp]; rfl
          have em : marksL ps l = (false, false) := by unfold marksL; rw [eg]; rfl
          rw [em]
          go_ret2
          exact ⟨rfl, HS.out.trans ((Soft.of0 HK1.out).trans HS6)⟩
        · rw [hp] at HC
          go_wp2_with fail
          go_region_held3 (fun w' => w'.cell? ⟨B, 0, none⟩ = some (.slice (some ⟨g2, off2, none⟩) fs.length cp) ∧ w'.cell? ⟨g2, off2 + k, none⟩ = some (.func (.func x.f) #[] x.c) ∧ w'.cell? ⟨wr.heap.size, 0, none⟩ = some (.int .i64 m.kind) ∧ w'.cell? ⟨wr.heap.size, 1, none⟩ = some (.int .i64 m.v)) (first | exact SF.out _ (Soft.refl _ _) | exact SF.out _ (Soft.of0 (Kept.refl _ _).drew) | exact SF.out _ HS6) (first | (refine (HC.out _ (by first | exact (Kept.refl _ _).drew | exact Kept.refl _ _)).mono ?_; rintro e w6 ⟨rfl, hs6, hj6⟩; have HS6 : Soft κ' W1 w6 := (Soft.of0 (Kept.refl _ _).drew).trans hs6; clear hs6))
          all_goals go_wp2_with fail
          go_roundw
          case rel =>
            refine ⟨k + 1, by go_num, by omega, HS.out.trans ((Soft.of0 HK1.out).trans HS6), ?_, ?_⟩
            · rw [show l.take (k + 1) = l.take k ++ [m] from by obtain ⟨h1, e1⟩ := List.getElem?_eq_some_iff.1 HM.out; rw [List.take_succ_eq_append_getElem h1, e1]]
              exact hj6 trivial
            · rw [HG.out, goP_step HM.out HPP.out, hp]; rfl
          case measure => simp [intOf]; omega
      · have k1 : ¬ ((k : Int) < (l.length : Int)) := by omega
        obtain rfl : k = l.length := by omega
        have c1 := HPB.out wr HS.out
        have eg : goP ps [] l = true := by rw [HG.out, List.drop_length]; cases ps.drop l.length <;> rfl
        have em : marksL ps l = (true, (l.length : Int) == (fs.length : Int)) := by unfold marksL; rw [eg, HL.out, nat_beq]; rfl
        have EM := Lib.hid em
        clear hkk eg em hB1 HP
        go_wp2_with fail
        go_region
        all_goals go_wp2_with fail
        all_goals rw [EM.out]
        all_goals go_ret2
        all_goals exact ⟨rfl, HS.out.trans (Soft.of0 (Kept.refl _ _).drew)⟩


theorem marks_any (κ : Nat → Nat) (w : World) (sp : Option Addr) (n cp : Nat) (fs : List Fc) (ps : List (List Mk → Mk → Bool)) (J : List Mk → World → Prop) (hn : n = fs.length) (hW : Wl κ w)
    (hE : ElemsQ (fun g => κ g = 0) w sp 1 Fc.cells fs) (hl : fs.length = ps.length) (hmax : ps.length ≤ 10)
    (hfit : ∀ i x P, fs[i]? = some x → ps[i]? = some P → ∀ pre, pre.length = i → Fits κ w x.f x.c J pre (P pre)) (hJ0 : ∀ w', J [] w') (hJs : ∀ pre a b, Kept (fun _ => False) a b → J pre a → J pre b) :
    Calls Tryz.prog 54 #[.slice sp n cp] w fun e w' => ∃ f c, e = .returned (.func (.func f) #[] c) ∧ Looks κ w' f c (marksL ps) ∧ Kept (fun _ => False) w w' := by
  subst hn
  have hk : Kept (fun _ => False) w (w.alloc (.cells #[.slice sp fs.length cp] 149)) := (Kept.refl _ w).alloc _
  have HF : Hid (Looks κ (w.alloc (.cells #[.slice sp fs.length cp] 149)) 69 #[.pointer (some ⟨w.heap.size, 0, none⟩)] (marksL ps)) := Lib.hid
    (marksc_any κ _ w.heap.size sp cp fs ps J (cell0 _ _ _) (Classical.byContradiction fun h => Nat.lt_irrefl _ (hW.lt _ h)) (hE.lat (Lat.of0 hk)) hl hmax
      (fun i x P h1 h2 pre h3 => (hfit i x P h1 h2 pre h3).lat (Lat.of0 hk)) hJ0 hJs)
  have HK := Lib.hid hk
  clear hk hE hfit hJ0 hJs hW hl
  go_enter Tryz.func54, Tryz.ntmps54
  go_wp2_with fail
  go_ret
  exact ⟨_, _, rfl, HF.out, HK.out⟩

/-- A slice laid with functions. -/
theorem fcs_new {κ : Nat → Nat} {w : World} (hW : Wl κ w) (fs : List Fc) (a : Array Value) (t : TypeId) (ha : a.toList = fs.flatMap Fc.cells) (hm : fs.length ≤ 10) : ElemsQ (fun g => κ g = 0) (w.alloc (.cells a t)) (some ⟨w.heap.size, 0, none⟩) 1 Fc.cells fs := by
  refine ⟨by unfold maxLen; omega, fun i x hx => ⟨_, _, rfl, ⟨by simp, Classical.byContradiction fun h => Nat.lt_irrefl _ (hW.lt _ h)⟩, fun j v hv => ?_⟩⟩
  cases j with
  | succ j => simp [Fc.cells] at hv
  | zero =>
    simp only [Fc.cells, List.getElem?_cons_zero, Option.some.injEq] at hv
    subst hv
    rw [cell_at _ _ _ _ _ (heap_new1 _ _), Nat.zero_add, Nat.mul_one, Nat.add_zero]
    have h2 : ∀ (l : List Fc) (i : Nat) (x : Fc), l[i]? = some x → (l.flatMap Fc.cells)[i]? = some (.func (.func x.f) #[] x.c) := by
      intro l
      induction l with
      | nil => intro i x h; simp at h
      | cons y l ih =>
        intro i x h
        cases i with
        | zero => simp only [List.getElem?_cons_zero, Option.some.injEq] at h; subst h; rfl
        | succ i => simp only [List.getElem?_cons_succ] at h; exact ih i x h
    rw [← Array.getElem?_toList, ha]
    exact h2 fs i x hx

theorem fit0_all {κ : Nat → Nat} {w w' : World} {fs : List Fc} {qs : List (Mk → Bool)} (h : ∀ (i : Nat) (x : Fc) (q : Mk → Bool), fs[i]? = some x → qs[i]? = some q → Fit0 κ w x.f x.c q) (hk : Lat κ κ w w') :
    ∀ (i : Nat) (x : Fc) (P : List Mk → Mk → Bool), fs[i]? = some x → (qs.map (fun q (_ : List Mk) m => q m))[i]? = some P → ∀ pre, pre.length = i → Fits κ w' x.f x.c (fun _ _ => True) pre (P pre) := by
  intro i x P hx hP pre _
  rw [List.getElem?_map] at hP
  cases hq : qs[i]? with
  | none => rw [hq] at hP; simp at hP
  | some q =>
    rw [hq] at hP
    simp only [Option.map_some, Option.some.injEq] at hP
    subst hP
    exact ((h i x q hx hq).lat hk).fits pre
theorem marks0 (κ : Nat → Nat) (w : World) (hW : Wl κ w) : Calls Tryz.prog 54 #[.slice none 0 0] w fun e w' => ∃ f c, e = .returned (.func (.func f) #[] c) ∧ Looks κ w' f c (marksL []) ∧ Kept (fun _ => False) w w' :=
  marks_any κ w none 0 0 [] [] (fun _ _ => True) rfl hW ElemsQ.nil rfl (by simp) (fun i x P h => by simp at h) (fun _ => trivial) (fun _ _ _ _ _ => trivial)
theorem marks1 {κ : Nat → Nat} {w : World} (hW : Wl κ w) {f : Nat} {c : Array Value} {q : Mk → Bool} (h : Fit0 κ w f c q) :
    Calls Tryz.prog 54 #[.slice (some ⟨w.heap.size, 0, none⟩) 1 1] (w.alloc (.cells #[.func (.func f) #[] c] 150)) fun e w' => ∃ f c, e = .returned (.func (.func f) #[] c) ∧ Looks κ w' f c (marksL [fun _ m => q m]) ∧ Kept (fun _ => False) w w' := by
  have hk : Kept (fun _ => False) w (w.alloc (.cells #[.func (.func f) #[] c] 150)) := (Kept.refl _ w).alloc _
  refine (marks_any κ _ _ 1 1 [⟨f, c⟩] [fun _ m => q m] (fun _ _ => True) rfl (hW.kept0 hk) (fcs_new hW _ _ _ rfl (by simp)) rfl (by simp) ?_ (fun _ => trivial) (fun _ _ _ _ _ => trivial)).mono ?_
  · exact fit0_all (qs := [q]) (fun i x p h1 h2 => by
      match i, h1, h2 with
      | 0, h1, h2 => simp only [List.getElem?_cons_zero, Option.some.injEq] at h1 h2; subst h1 h2; exact h
      | i + 1, h1, h2 => simp at h1) (Lat.of0 hk)
  · rintro e w' ⟨f', c', rfl, hL, hk'⟩
    exact ⟨f', c', rfl, hL, hk.tr0 hk'⟩
theorem marks2 {κ : Nat → Nat} {w : World} (hW : Wl κ w) {f f2 : Nat} {c c2 : Array Value} {q q2 : Mk → Bool} (h : Fit0 κ w f c q) (h' : Fit0 κ w f2 c2 q2) :
    Calls Tryz.prog 54 #[.slice (some ⟨w.heap.size, 0, none⟩) 2 2] (w.alloc (.cells #[.func (.func f) #[] c, .func (.func f2) #[] c2] 150)) fun e w' => ∃ f c, e = .returned (.func (.func f) #[] c) ∧ Looks κ w' f c (marksL [fun _ m => q m, fun _ m => q2 m]) ∧ Kept (fun _ => False) w w' := by
  have hk : Kept (fun _ => False) w (w.alloc (.cells #[.func (.func f) #[] c, .func (.func f2) #[] c2] 150)) := (Kept.refl _ w).alloc _
  refine (marks_any κ _ _ 2 2 [⟨f, c⟩, ⟨f2, c2⟩] [fun _ m => q m, fun _ m => q2 m] (fun _ _ => True) rfl (hW.kept0 hk) (fcs_new hW _ _ _ rfl (by simp)) rfl (by simp) ?_ (fun _ => trivial) (fun _ _ _ _ _ => trivial)).mono ?_
  · exact fit0_all (qs := [q, q2]) (fun i x p h1 h2 => by
      match i, h1, h2 with
      | 0, h1, h2 => simp only [List.getElem?_cons_zero, Option.some.injEq] at h1 h2; subst h1 h2; exact h
      | 1, h1, h2 => simp only [List.getElem?_cons_succ, List.getElem?_cons_zero, Option.some.injEq] at h1 h2; subst h1 h2; exact h'
      | i + 2, h1, h2 => simp at h1) (Lat.of0 hk)
  · rintro e w' ⟨f', c', rfl, hL, hk'⟩
    exact ⟨f', c', rfl, hL, hk.tr0 hk'⟩

end Go.Proofs.YtbodlaiakcoabaaGreatDoor
end
section
namespace Go.Proofs.YtbodlaiakcoabaaGreatDoor
open Go.RowKit
set_option linter.unusedSimpArgs false
set_option maxRecDepth 100000

def intC (a : Int) : List Value := [.int .i64 a]
def hasI (xs : List Int) (v : Int) : Bool := xs.contains v
theorem int_at {Q : Nat → Prop} {w : World} {s : Option Addr} {l : List Int} (h : ElemsQ Q w s 1 intC l) {k : Nat} {x : Int} (hx : l[k]? = some x) :
    ∃ g off, s = some ⟨g, off, none⟩ ∧ w.cell? ⟨g, off + k, none⟩ = some (.int .i64 x) := by
  obtain ⟨g, off, e, hb, hc⟩ := h.2 k x hx
  have h0 := hc 0 _ rfl
  rw [Nat.mul_one, Nat.add_zero] at h0
  exact ⟨g, off, e, h0⟩

set_option maxHeartbeats 1000000 in
theorem index_int {Q : Nat → Prop} (xs : List Int) (v : Int) (n : Nat) (hn : n = xs.length) (hl : n ≤ 200) (s : Option Addr) (c : Nat) (w : World) (hE : ElemsQ Q w s 1 intC xs) :
    Calls Tryz.prog 88 #[.slice s n c, .int .i64 v] w fun e w' => ∃ i : Int, e = .returned (.int .i64 i) ∧ decide (0 ≤ i) = hasI xs v ∧ w = w' := by
  have HP : Hid (∀ k x, xs[k]? = some x → ∃ g off, s = some ⟨g, off, none⟩ ∧ w.cell? ⟨g, off + k, none⟩ = some (.int .i64 x)) := Lib.hid (fun k x hx => int_at hE hx)
  have HN := Lib.hid hn
  clear hE hn
  go_enter Tryz.func88, Tryz.ntmps88
  go_wp2_with fail
  go_loopw [8] (fun i wr => ∃ k : Nat, i = .int .i64 k ∧ k ≤ n ∧ w = wr ∧ ∀ j x, j < k → xs[j]? = some x → x ≠ v) (fun i _ => n - (intOf i).toNat)
  case atStart => exact ⟨0, rfl, by omega, rfl, fun j q hj => absurd hj (Nat.not_lt_zero _)⟩
  case round =>
    obtain ⟨k, rfl, hk1, hk, hne⟩ := hrel
    subst hk
    have HNE := Lib.hid hne; clear hne
    by_cases hkk : k < n
    · obtain ⟨x, hx⟩ : ∃ x, xs[k]? = some x := ⟨_, List.getElem?_eq_getElem (by rw [← HN.out]; exact hkk)⟩
      obtain ⟨g, off, rfl, y0⟩ := HP.out k x hx
      have HX := Lib.hid hx; clear hx
      have k0 : (0 : Int) ≤ (k : Int) := by omega
      have k1 : (k : Int) < (n : Int) := by omega
      clear hkk
      cases he : (v == x) with
      | true =>
        go_wp2_with fail
        go_ret
        refine ⟨_, rfl, ?_, by first | rfl | trivial⟩
        have hc : hasI xs v = true := by
          unfold hasI
          rw [List.contains_iff_mem, beq_iff_eq.1 he]
          exact List.mem_of_getElem? HX.out
        first | (rw [decide_eq_true k0, hc]) | simp [hc]
      | false =>
        go_wp2_with fail
        go_roundw
        case rel =>
          refine ⟨k + 1, by go_num, by omega, by first | rfl | trivial, fun j x' hj hx' => ?_⟩
          by_cases e : j = k
          · subst e
            have := HX.out.symm.trans hx'
            simp only [Option.some.injEq] at this
            subst this
            exact fun h => by rw [h] at he; simp at he
          · exact HNE.out j x' (by omega) hx'
        case measure => simp [intOf]; omega
    · have k1 : ¬ ((k : Int) < (n : Int)) := by omega
      have hkn : k = n := by omega
      go_wp2_with fail
      go_ret
      refine ⟨_, rfl, ?_, by first | rfl | trivial⟩
      have hc : hasI xs v = false := by
        unfold hasI
        rw [Bool.eq_false_iff]
        intro h
        rw [List.contains_iff_mem] at h
        obtain ⟨j, hj⟩ := List.mem_iff_getElem?.1 h
        have hjl := (List.getElem?_eq_some_iff.1 hj).1
        exact HNE.out j v (by rw [hkn, HN.out]; exact hjl) hj rfl
      first | (rw [hc]; rfl) | simp [hc]
theorem contains_int {Q : Nat → Prop} (xs : List Int) (v : Int) (n : Nat) (hn : n = xs.length) (hl : n ≤ 200) (s : Option Addr) (c : Nat) (w : World) (hE : ElemsQ Q w s 1 intC xs) :
    Calls Tryz.prog 71 #[.slice s n c, .int .i64 v] w fun e w' => e = .returned (.bool (hasI xs v)) ∧ w = w' := by
  have HC := Lib.hid (index_int xs v n hn hl s c w hE)
  clear hE hn
  go_enter Tryz.func71, Tryz.ntmps71
  go_wp2_with fail
  refine (HC.out).mono ?_
  rintro e w1 ⟨i, rfl, hi, rfl⟩
  go_wp2_with fail
  go_ret
  exact ⟨by rw [← hi]; rfl, rfl⟩

/-- Results. -/
def Comes (κ : Nat → Nat) (w : World) (f : Nat) (c : Array Value) (R : List Int) : Prop :=
  Ent f ∧ ∀ κ' w' r, Lat κ κ' w w' → Calls Tryz.prog f (#[.int .i64 r] ++ c) w' fun e w'' => e = .returned (.bool (hasI R r)) ∧ Kept (fun _ => False) w' w''
theorem Comes.lat {κ κ' : Nat → Nat} {w w' : World} {f : Nat} {c : Array Value} {R : List Int} (h : Comes κ w f c R) (k : Lat κ κ' w w') : Comes κ' w' f c R :=
  ⟨h.1, fun κ2 w2 r hl => h.2 κ2 w2 r (k.trans hl)⟩
theorem toc_any (κ : Nat → Nat) (w : World) (B : Nat) (sp : Option Addr) (n cp : Nat) (R : List Int) (hn : n = R.length) (hl : n ≤ 200) (hB : w.cell? ⟨B, 0, none⟩ = some (.slice sp n cp)) (hκ : κ B = 0) (hE : ElemsQ (fun g => κ g = 0) w sp 1 intC R) :
    Comes κ w 70 #[.pointer (some ⟨B, 0, none⟩)] R := by
  refine ⟨ent_of Tryz.func70 (by kernel_rfl) rfl, ?_⟩
  intro κ' w' r hlat
  have hBlt := World.block_lt_of_cell? w _ hB
  have hB1 := (hlat.kept.cell (p := ⟨B, 0, none⟩) hBlt (by show ¬ κ B ≠ 0; rw [hκ]; simp)).trans hB
  have HC := Lib.hid (contains_int R r n hn hl sp cp w' (hE.lat hlat))
  clear hE hB hn
  go_enter Tryz.func70, Tryz.ntmps70
  go_wp2_with fail
  refine (HC.out).mono ?_
  rintro e w1 ⟨rfl, rfl⟩
  go_wp2_with fail
  go_ret
  exact ⟨rfl, Kept.refl _ _⟩
theorem ints_new {κ : Nat → Nat} {w : World} (hW : Wl κ w) (xs : List Int) (a : Array Value) (t : TypeId) (ha : a.toList = xs.flatMap intC) (hm : xs.length ≤ 10) : ElemsQ (fun g => κ g = 0) (w.alloc (.cells a t)) (some ⟨w.heap.size, 0, none⟩) 1 intC xs := by
  refine ⟨by unfold maxLen; omega, fun i x hx => ⟨_, _, rfl, ⟨by simp, Classical.byContradiction fun h => Nat.lt_irrefl _ (hW.lt _ h)⟩, fun j v hv => ?_⟩⟩
  cases j with
  | succ j => simp [intC] at hv
  | zero =>
    simp only [intC, List.getElem?_cons_zero, Option.some.injEq] at hv
    subst hv
    rw [cell_at _ _ _ _ _ (heap_new1 _ _), Nat.zero_add, Nat.mul_one, Nat.add_zero]
    have h2 : ∀ (l : List Int) (i : Nat) (x : Int), l[i]? = some x → (l.flatMap intC)[i]? = some (.int .i64 x) := by
      intro l
      induction l with
      | nil => intro i x h; simp at h
      | cons y l ih =>
        intro i x h
        cases i with
        | zero => simp only [List.getElem?_cons_zero, Option.some.injEq] at h; subst h; rfl
        | succ i => simp only [List.getElem?_cons_succ] at h; exact ih i x h
    rw [← Array.getElem?_toList, ha]
    exact h2 xs i x hx
theorem to_any (κ : Nat → Nat) (w : World) (sp : Option Addr) (n cp : Nat) (R : List Int) (hn : n = R.length) (hl : n ≤ 200) (hW : Wl κ w) (hE : ElemsQ (fun g => κ g = 0) w sp 1 intC R) :
    Calls Tryz.prog 55 #[.slice sp n cp] w fun e w' => ∃ f c, e = .returned (.func (.func f) #[] c) ∧ Comes κ w' f c R ∧ Kept (fun _ => False) w w' := by
  have hk : Kept (fun _ => False) w (w.alloc (.cells #[.slice sp n cp] 44)) := (Kept.refl _ w).alloc _
  have HF : Hid (Comes κ (w.alloc (.cells #[.slice sp n cp] 44)) 70 #[.pointer (some ⟨w.heap.size, 0, none⟩)] R) := Lib.hid
    (toc_any κ _ w.heap.size sp n cp R hn hl (cell0 _ _ _) (Classical.byContradiction fun h => Nat.lt_irrefl _ (hW.lt _ h)) (hE.lat (Lat.of0 hk)))
  have HK := Lib.hid hk
  clear hk hE hW hn
  go_enter Tryz.func55, Tryz.ntmps55
  go_wp2_with fail
  go_ret
  exact ⟨_, _, rfl, HF.out, HK.out⟩
theorem to1 {κ : Nat → Nat} {w : World} (hW : Wl κ w) (a : Int) :
    Calls Tryz.prog 55 #[.slice (some ⟨w.heap.size, 0, none⟩) 1 1] (w.alloc (.cells #[.int .i64 a] 3)) fun e w' => ∃ f c, e = .returned (.func (.func f) #[] c) ∧ Comes κ w' f c [a] ∧ Kept (fun _ => False) w w' := by
  have hk : Kept (fun _ => False) w (w.alloc (.cells #[.int .i64 a] 3)) := (Kept.refl _ w).alloc _
  refine (to_any κ _ _ 1 1 [a] rfl (by decide) (hW.kept0 hk) (ints_new hW _ _ _ rfl (by simp))).mono ?_
  rintro e w' ⟨f', c', rfl, hL, hk'⟩
  exact ⟨f', c', rfl, hL, hk.tr0 hk'⟩
theorem to2 {κ : Nat → Nat} {w : World} (hW : Wl κ w) (a b : Int) :
    Calls Tryz.prog 55 #[.slice (some ⟨w.heap.size, 0, none⟩) 2 2] (w.alloc (.cells #[.int .i64 a, .int .i64 b] 3)) fun e w' => ∃ f c, e = .returned (.func (.func f) #[] c) ∧ Comes κ w' f c [a, b] ∧ Kept (fun _ => False) w w' := by
  have hk : Kept (fun _ => False) w (w.alloc (.cells #[.int .i64 a, .int .i64 b] 3)) := (Kept.refl _ w).alloc _
  refine (to_any κ _ _ 2 2 [a, b] rfl (by decide) (hW.kept0 hk) (ints_new hW _ _ _ rfl (by simp))).mono ?_
  rintro e w' ⟨f', c', rfl, hL, hk'⟩
  exact ⟨f', c', rfl, hL, hk.tr0 hk'⟩

/-- Marks one behind the other, and a last one. -/
theorem manyL_each {each last : Mk → Bool} {m : Mk} {l : List Mk} (h : last m = false) : manyL each last (m :: l) = if each m then manyL each last l else (false, false) := by simp [manyL, h]

set_option maxHeartbeats 1000000 in
theorem manyc_any (κ : Nat → Nat) (w : World) (B C f1 f2 : Nat) (c1 c2 : Array Value) (each last : Mk → Bool) (hB : w.cell? ⟨B, 0, none⟩ = some (.func (.func f1) #[] c1)) (hC : w.cell? ⟨C, 0, none⟩ = some (.func (.func f2) #[] c2)) (hκB : κ B = 0) (hκC : κ C = 0)
    (h1 : Fit0 κ w f1 c1 each) (h2 : Fit0 κ w f2 c2 last) : Looks κ w 93 #[.pointer (some ⟨C, 0, none⟩), .pointer (some ⟨B, 0, none⟩)] (manyL each last) := by
  refine ⟨ent_of Tryz.func93 (by kernel_rfl) rfl, ?_⟩
  intro κ' w' s n cap l hlat hW hL hn
  subst hn
  have hBlt := World.block_lt_of_cell? w _ hB
  have hClt := World.block_lt_of_cell? w _ hC
  have hB1 := (hlat.kept.cell (p := ⟨B, 0, none⟩) hBlt (by show ¬ κ B ≠ 0; rw [hκB]; simp)).trans hB
  have hC1 := (hlat.kept.cell (p := ⟨C, 0, none⟩) hClt (by show ¬ κ C ≠ 0; rw [hκC]; simp)).trans hC
  have e1 : ∀ (args : Array Value) (w : World), (callFunc f1 args).run Tryz.prog w = .ok (.enter f1 args) w := h1.1
  have e2 : ∀ (args : Array Value) (w : World), (callFunc f2 args).run Tryz.prog w = .ok (.enter f2 args) w := h2.1
  have HF1 : Hid (∀ w2 m, Kept (fun _ => False) w' w2 → Calls Tryz.prog f1 (#[Mk.agg m] ++ c1) w2 fun e w'' => e = .returned (.bool (each m)) ∧ Kept (fun _ => False) w2 w'') := Lib.hid (fun w2 m hk => h1.2 κ' w2 m (hlat.trans (Lat.of0 hk)))
  have HF2 : Hid (∀ w2 m, Kept (fun _ => False) w' w2 → Calls Tryz.prog f2 (#[Mk.agg m] ++ c2) w2 fun e w'' => e = .returned (.bool (last m)) ∧ Kept (fun _ => False) w2 w'') := Lib.hid (fun w2 m hk => h2.2 κ' w2 m (hlat.trans (Lat.of0 hk)))
  have hlm := hL.1
  unfold maxLen at hlm
  have HP : Hid (∀ wr k m, Kept (fun _ => False) w' wr → l[k]? = some m → (∃ g off, s = some ⟨g, off, none⟩ ∧ wr.cell? ⟨g, off + k * 2, none⟩ = some (.int .i64 m.kind) ∧ wr.cell? ⟨g, off + k * 2 + 1, none⟩ = some (.int .i64 m.v))) :=
    Lib.hid (fun wr k m hs hm => mk_at (hL.soft (Soft.of0 hs)) hm)
  have HPB : Hid (∀ wr, Kept (fun _ => False) w' wr → wr.cell? ⟨B, 0, none⟩ = some (.func (.func f1) #[] c1) ∧ wr.cell? ⟨C, 0, none⟩ = some (.func (.func f2) #[] c2)) := Lib.hid (fun wr hk =>
    ⟨(hk.cell (p := ⟨B, 0, none⟩) (World.block_lt_of_cell? w' _ hB1) (fun f => f)).trans hB1, (hk.cell (p := ⟨C, 0, none⟩) (World.block_lt_of_cell? w' _ hC1) (fun f => f)).trans hC1⟩)
  clear h1 h2 hL hlat hB hC hW hκB hκC hBlt hClt hB1 hC1
  go_enter Tryz.func93, Tryz.ntmps93
  go_wp2_with fail
  go_loopw [10] (fun i wr => ∃ k : Nat, i = .int .i64 k ∧ k ≤ l.length ∧ Kept (fun _ => False) w' wr ∧ manyL each last l = manyL each last (l.drop k)) (fun i _ => l.length - (intOf i).toNat)
  case atStart => exact ⟨0, rfl, by omega, Kept.refl _ _, rfl⟩
  case round =>
    obtain ⟨k, rfl, hk1', hs, hg⟩ := hrel
    have HS := Lib.hid hs; clear hs
    have HG := Lib.hid hg; clear hg
    by_cases hkk : k < l.length
    · obtain ⟨m, hm⟩ : ∃ m, l[k]? = some m := ⟨_, List.getElem?_eq_getElem hkk⟩
      obtain ⟨g, off, rfl, y0, y1⟩ := HP.out wr k m HS.out hm
      have HM := Lib.hid hm
      have hd : l.drop k = m :: l.drop (k + 1) := by
        obtain ⟨h1, e1⟩ := List.getElem?_eq_some_iff.1 hm
        rw [List.drop_eq_getElem_cons h1, e1]
      have HD := Lib.hid hd
      clear hm hd
      obtain ⟨W1, hW1⟩ : ∃ W1, wr.alloc (.cells #[.int .i64 m.kind, .int .i64 m.v] 36) = W1 := ⟨_, rfl⟩
      have hk1 : Kept (fun _ => False) wr W1 := by rw [← hW1]; exact (Kept.refl _ _).alloc _
      have hb1 : W1.heap[wr.heap.size]? = some (.cells #[.int .i64 m.kind, .int .i64 m.v] 36 (0, 0)) := by rw [← hW1]; exact heap_new1 _ _
      have SF : Hid (∀ w', Kept (fun _ => False) W1 w' → w'.cell? ⟨B, 0, none⟩ = some (.func (.func f1) #[] c1) ∧ w'.cell? ⟨C, 0, none⟩ = some (.func (.func f2) #[] c2) ∧ w'.cell? ⟨wr.heap.size, 0, none⟩ = some (.int .i64 m.kind) ∧ w'.cell? ⟨wr.heap.size, 1, none⟩ = some (.int .i64 m.v)) := Lib.hid (fun w' hk => by
        have h := hk.at0 hb1
        refine ⟨(HPB.out _ (HS.out.tr0 (hk1.tr0 hk))).1, (HPB.out _ (HS.out.tr0 (hk1.tr0 hk))).2, ?_, ?_⟩
        · rw [cell_at _ _ 0 _ _ h]; rfl
        · rw [cell_at _ _ 1 _ _ h]; rfl)
      have HK1 := Lib.hid hk1
      have k0 : (0 : Int) ≤ (k : Int) := by omega
      have k1 : (k : Int) < (l.length : Int) := by omega
      clear hkk hk1 hb1
      obtain ⟨s1, s2, s3, s4⟩ := SF.out _ (Kept.refl _ _)
      have HC2 := Lib.hid (HF2.out W1 m (HS.out.tr0 HK1.out))
      go_wp2_with fail
      refine HC2.out.mono ?_
      rintro e w2 ⟨rfl, hk2⟩
      obtain ⟨t1, t2, t3, t4⟩ := SF.out _ hk2
      have HC1 := Lib.hid (HF1.out w2 m (HS.out.tr0 (HK1.out.tr0 hk2)))
      have HK2 := Lib.hid hk2
      clear hk2
      cases hla : last m
      · go_wp2_with fail
        refine HC1.out.mono ?_
        rintro e w3 ⟨rfl, hk3⟩
        have HK3 := Lib.hid hk3
        clear hk3
        cases hea : each m
        · go_wp2_with fail
          have em : manyL each last l = (false, false) := by rw [HG.out, HD.out, manyL_each hla, hea]; rfl
          rw [em]
          go_ret2
          exact ⟨rfl, Soft.of0 (HS.out.tr0 (HK1.out.tr0 (HK2.out.tr0 HK3.out)))⟩
        · go_wp2_with fail
          go_roundw
          case rel => exact ⟨k + 1, by go_num, by omega, HS.out.tr0 (HK1.out.tr0 (HK2.out.tr0 HK3.out)), by rw [HG.out, HD.out, manyL_each hla, hea]; rfl⟩
          case measure => simp [intOf]; omega
      · go_wp2_with fail
        have em : manyL each last l = ((k : Int) == (l.length : Int) - 1, (k : Int) == (l.length : Int) - 1) := by
          have hie : (l.drop (k + 1)).isEmpty = ((k : Int) == (l.length : Int) - 1) := by
            rw [Bool.eq_iff_iff, beq_iff_eq, List.isEmpty_iff, List.drop_eq_nil_iff]
            omega
          rw [HG.out, HD.out, ← hie]; simp [manyL, hla]
        rw [em]
        go_ret2
        exact ⟨rfl, Soft.of0 (HS.out.tr0 (HK1.out.tr0 HK2.out))⟩
    · have k1 : ¬ ((k : Int) < (l.length : Int)) := by omega
      obtain rfl : k = l.length := by omega
      have em : manyL each last l = (true, false) := by rw [HG.out, List.drop_length]; rfl
      have EM := Lib.hid em
      clear hkk em
      go_wp2_with fail
      rw [EM.out]
      go_ret2
      exact ⟨rfl, Soft.of0 HS.out⟩

theorem many_any {κ : Nat → Nat} {w : World} (hW : Wl κ w) {f1 f2 : Nat} {c1 c2 : Array Value} {each last : Mk → Bool} (h1 : Fit0 κ w f1 c1 each) (h2 : Fit0 κ w f2 c2 last) :
    Calls Tryz.prog 75 #[.func (.func f1) #[] c1, .func (.func f2) #[] c2] w fun e w' => ∃ f c, e = .returned (.func (.func f) #[] c) ∧ Looks κ w' f c (manyL each last) ∧ Kept (fun _ => False) w w' := by
  have hk : Kept (fun _ => False) w ((w.alloc (.cells #[.func (.func f1) #[] c1] 150)).alloc (.cells #[.func (.func f2) #[] c2] 150)) := ((Kept.refl _ w).alloc _).alloc _
  have HF : Hid (Looks κ ((w.alloc (.cells #[.func (.func f1) #[] c1] 150)).alloc (.cells #[.func (.func f2) #[] c2] 150)) 93 #[.pointer (some ⟨w.heap.size + 1, 0, none⟩), .pointer (some ⟨w.heap.size, 0, none⟩)] (manyL each last)) := Lib.hid (by
    have c0 : ((w.alloc (.cells #[.func (.func f1) #[] c1] 150)).alloc (.cells #[.func (.func f2) #[] c2] 150)).cell? ⟨w.heap.size, 0, none⟩ = some (.func (.func f1) #[] c1) := by
      rw [((Kept.refl (fun _ => False) (w.alloc (.cells #[.func (.func f1) #[] c1] 150))).alloc _).cell (p := ⟨w.heap.size, 0, none⟩) (by simp) (fun f => f)]; exact cell0 _ _ _
    have c1 : ((w.alloc (.cells #[.func (.func f1) #[] c1] 150)).alloc (.cells #[.func (.func f2) #[] c2] 150)).cell? ⟨w.heap.size + 1, 0, none⟩ = some (.func (.func f2) #[] c2) := by
      have h := cell0 (w.alloc (.cells #[.func (.func f1) #[] c1] 150)) (.func (.func f2) #[] c2) 150
      rw [show (w.alloc (.cells #[.func (.func f1) #[] c1] 150)).heap.size = w.heap.size + 1 from by simp] at h
      exact h
    exact manyc_any κ _ w.heap.size (w.heap.size + 1) f1 f2 _ _ each last c0 c1 (Classical.byContradiction fun h => Nat.lt_irrefl _ (hW.lt _ h)) (Classical.byContradiction fun h => by have := hW.lt _ h; omega) (h1.lat (Lat.of0 hk)) (h2.lat (Lat.of0 hk)))
  have HK := Lib.hid hk
  clear hk h1 h2
  go_enter Tryz.func75, Tryz.ntmps75
  go_wp2_with fail
  go_ret
  exact ⟨_, _, rfl, HF.out, HK.out⟩

end Go.Proofs.YtbodlaiakcoabaaGreatDoor
end
