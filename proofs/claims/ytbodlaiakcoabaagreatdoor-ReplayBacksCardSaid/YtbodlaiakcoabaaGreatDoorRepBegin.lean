/-
  A call that is on, in memory; what a step may write, by colours; isLate, and an append of a mark.
  Conditions: times are at least 0.
  A call that meets another, and one that goes on: meet and goesOn.
  Conditions: the call lies in memory.
  How all stand, in memory; a return: end, and number.
  Conditions: the state lies in memory.
  A call's beginning: begin.
  Conditions: the state lies in memory; the calls are of objects that there are.
-/
import Derived.Test.YtbodlaiakcoabaaGreatDoorRepRows
import Derived.Test.YtbodlaiakcoabaaGreatDoorModOwn
import Derived.Test.YtbodlaiakcoabaaGreatDoorScr
import Derived.Deep.RegionHeld3
section
namespace Go.Proofs.YtbodlaiakcoabaaGreatDoor
open Go.RowKit
set_option linter.unusedSimpArgs false
set_option linter.unusedVariables false
set_option maxRecDepth 100000

/-- A step that writes blocks of the colours C, and lays new ones. -/
structure Step (C : Nat → Prop) (κ κ' : Nat → Nat) (w w' : World) : Prop where
  kept : Kept (fun b => C (κ b)) w w'
  same : ∀ b, b < w.heap.size → κ' b = κ b
  wl : Wl κ' w'
theorem Step.lat {C : Nat → Prop} {κ κ' : Nat → Nat} {w w' : World} (h : Step C κ κ' w w') (h0 : ¬ C 0) : Lat κ κ' w w' :=
  ⟨h.same, h.kept.mono (fun b _ hc e => h0 (by rw [← e]; exact hc))⟩
theorem Step.trans {C : Nat → Prop} {κ κ' κ2 : Nat → Nat} {a b c : World} (h : Step C κ κ' a b) (k : Step C κ' κ2 b c) : Step C κ κ2 a c :=
  ⟨h.kept.trans k.kept (fun i hi hc => by rwa [h.same i hi] at hc), fun i hi => (k.same i (Nat.lt_of_lt_of_le hi h.kept.size)).trans (h.same i hi), k.wl⟩
theorem Step.mono {C D : Nat → Prop} {κ κ' : Nat → Nat} {w w' : World} (h : Step C κ κ' w w') (hC : ∀ q, C q → D q) : Step D κ κ' w w' := ⟨h.kept.mono (fun _ _ => hC _), h.same, h.wl⟩
theorem Step.refl (C : Nat → Prop) {κ : Nat → Nat} {w : World} (h : Wl κ w) : Step C κ κ w w := ⟨Kept.refl _ _, fun _ _ => rfl, h⟩
theorem Step.soft {C : Nat → Prop} {κ : Nat → Nat} {w w' : World} (h : Soft κ w w') (hW : Wl κ w) (hC : C 4) : Step C κ κ w w' := ⟨h.kept.mono (fun b _ e => by rw [e]; exact hC), fun _ _ => rfl, h.wl hW⟩
theorem Step.of0 {C : Nat → Prop} {κ : Nat → Nat} {w w' : World} (h : Kept (fun _ => False) w w') (hW : Wl κ w) : Step C κ κ w w' := ⟨h.mono (fun _ _ f => f.elim), fun _ _ => rfl, hW.kept0 h⟩
/-- A store into a block that isn't a look's. -/
theorem Step.set {C : Nat → Prop} {κ : Nat → Nat} {w : World} (hW : Wl κ w) (b j : Nat) (v : Value) (hC : C (κ b)) (h4 : κ b ≠ 4) : Step C κ κ w (w.setCell ⟨b, j, none⟩ v) := by
  refine ⟨(Kept.refl _ _).setCell _ _ (fun _ => hC), fun _ _ => rfl, ⟨fun i hi => by simpa using hW.lt i hi, fun i hi => ?_⟩⟩
  obtain ⟨u, hu⟩ := hW.hd i hi
  refine ⟨u, ?_⟩
  rw [heap_setCell_other _ _ _ _ (fun e => h4 (by have e' : i = b := e; rw [← e']; exact hi))]
  exact hu

/-- Where a call's slices lie. -/
structure Cm where
  rs : Option Addr
  rc : Nat
  xs : List Rc
  ms : Option Addr
  mc : Nat
@[reducible] def Ca.box (c : Ca) (d : Cm) : Array Value := #[.int .i64 c.op.kind, .int .i64 c.op.obj, .int .i64 c.op.n, .int .i64 c.op.wait, .bool c.op.breaks, .slice d.rs d.xs.length d.rc, .int .i64 c.since, .slice d.ms c.marks.length d.mc, .int .i64 c.got, .int .i64 c.til, .bool c.cut]
/-- Block b holds the call c of thread i. -/
structure CallAt (κ : Nat → Nat) (w : World) (i b : Nat) (c : Ca) (d : Cm) : Prop where
  box : w.heap[b]? = some (.cells (c.box d) 125 (0, 0))
  col : κ b = 5 + 2 * i
  rows : RowsIn κ w d.rs d.xs c.rows
  own : w.ownsRow 0 36 2 (.slice d.ms c.marks.length d.mc) c.marks.length (flat Mk.cells c.marks)
  cm : ∀ g, (Value.slice d.ms c.marks.length d.mc).ownBlock = some g → κ g = 6 + 2 * i
  few : c.marks.length ≤ 100000
theorem own_stay {S : Nat → Prop} {w w' : World} {e : TypeId} {m n : Nat} {v : Value} {xs : List Value} (h : w.ownsRow 0 e m v n xs) (hk : Kept S w w') (hS : ∀ g, v.ownBlock = some g → ¬ S g) : w'.ownsRow 0 e m v n xs := by
  refine ⟨h.1, ?_⟩
  rcases h.2 with h2 | ⟨g, cap, cur, rfl, hb, hg, rest⟩
  · exact .inl h2
  · exact .inr ⟨g, cap, cur, rfl, hb, hk.at_ hg (hS g rfl), rest⟩
theorem own_lt {w : World} {e : TypeId} {m n : Nat} {v : Value} {xs : List Value} (h : w.ownsRow 0 e m v n xs) {g : Nat} (hg : v.ownBlock = some g) : g < w.heap.size := (World.ownsRow.lt h g hg).2
theorem lt_of_heap {w : World} {b : Nat} {o : Obj} (h : w.heap[b]? = some o) : b < w.heap.size := (Array.getElem?_eq_some_iff.1 h).1
theorem CallAt.step {C : Nat → Prop} {κ κ' : Nat → Nat} {w w' : World} {i b : Nat} {c : Ca} {d : Cm} (h : CallAt κ w i b c d) (k : Step C κ κ' w w') (h0 : ¬ C 0) (h1 : ¬ C (5 + 2 * i)) (h2 : ¬ C (6 + 2 * i)) : CallAt κ' w' i b c d :=
  ⟨k.kept.at_ h.box (by rw [h.col]; exact h1), (k.same b (lt_of_heap h.box)).trans h.col, h.rows.lat (k.lat h0), own_stay h.own k.kept (fun g hg => by rw [h.cm g hg]; exact h2), fun g hg => (k.same g (own_lt h.own hg)).trans (h.cm g hg), h.few⟩
theorem marksE {κ : Nat → Nat} {w : World} {ms : Option Addr} {mc i : Nat} {l : List Mk} (h : w.ownsRow 0 36 2 (.slice ms l.length mc) l.length (flat Mk.cells l)) (hc : ∀ g, (Value.slice ms l.length mc).ownBlock = some g → κ g = 6 + 2 * i) (hf : l.length ≤ 100001) : ElemsQ (fun g => κ g ≠ 4) w ms 2 Mk.cells l := by
  obtain ⟨s, c, e, hM⟩ := Made.of_own Mk.two h rfl (by unfold maxLen; omega)
  simp only [Value.slice.injEq] at e
  obtain ⟨rfl, _, rfl⟩ := e
  refine ⟨hM.elems.1, fun j x hx => ?_⟩
  obtain ⟨g, off, e, hb, hcc⟩ := hM.elems.2 j x hx
  refine ⟨g, off, e, ⟨hb, ?_⟩, hcc⟩
  subst e
  rw [hc g rfl]; omega
theorem rows_few (k n kd : Int) : (rowsM k n kd).length ≤ 10 := by
  unfold rowsM noRows signalRows semaRows latchRows readRows swapRows holdRows waitRows
  repeat' split
  all_goals simp
theorem CallAt.xfew {κ : Nat → Nat} {w : World} {i b : Nat} {c : Ca} {d : Cm} (h : CallAt κ w i b c d) : d.xs.length ≤ 200 := by
  rw [h.rows.len]; have := rows_few c.op.kind c.op.n c.kind; unfold Ca.rows; omega

structure CallCells (w : World) (b : Nat) (c : Ca) (d : Cm) : Prop where
  c0 : w.cell? ⟨b, 0, none⟩ = some (.int .i64 c.op.kind)
  c1 : w.cell? ⟨b, 1, none⟩ = some (.int .i64 c.op.obj)
  c2 : w.cell? ⟨b, 2, none⟩ = some (.int .i64 c.op.n)
  c3 : w.cell? ⟨b, 3, none⟩ = some (.int .i64 c.op.wait)
  c4 : w.cell? ⟨b, 4, none⟩ = some (.bool c.op.breaks)
  c5 : w.cell? ⟨b, 5, none⟩ = some (.slice d.rs d.xs.length d.rc)
  c6 : w.cell? ⟨b, 6, none⟩ = some (.int .i64 c.since)
  c7 : w.cell? ⟨b, 7, none⟩ = some (.slice d.ms c.marks.length d.mc)
  c8 : w.cell? ⟨b, 8, none⟩ = some (.int .i64 c.got)
  c9 : w.cell? ⟨b, 9, none⟩ = some (.int .i64 c.til)
  c10 : w.cell? ⟨b, 10, none⟩ = some (.bool c.cut)
theorem call_cells {w : World} {b : Nat} {c : Ca} {d : Cm} (h : w.heap[b]? = some (.cells (c.box d) 125 (0, 0))) : CallCells w b c d := by
  constructor <;> (rw [cell_at w b _ _ _ h]; rfl)

theorem late_any (c : Ca) (d : Cm) (b : Nat) (w : World) (h : w.heap[b]? = some (.cells (c.box d) 125 (0, 0))) (s0 : 0 ≤ c.since) (s1 : c.since ≤ 9223372036854775807) (t0 : 0 ≤ c.til) (t1 : c.til ≤ 9223372036854775807) :
    Calls Tryz.prog 49 #[.pointer (some ⟨b, 0, none⟩)] w fun e w' => e = .returned (.bool (lateM c)) ∧ Kept (fun _ => False) w w' := by
  obtain ⟨-, -, -, c3, -, -, c6, -, -, c9, -⟩ := call_cells h
  have HC3 := Lib.hid c3
  clear h
  cases e1 : (c.op.wait != -1)
  · have e : lateM c = false := by unfold lateM; rw [e1]; rfl
    rw [e]
    clear e
    go_enter Tryz.func49, Tryz.ntmps49
    go_wp2_with fail
    go_region
    all_goals go_wp2_with fail
    all_goals go_ret
    all_goals exact ⟨rfl, (Kept.refl _ _).drew⟩
  · have e : lateM c = decide (c.op.wait ≤ c.til - c.since) := by unfold lateM; rw [e1]; rfl
    rw [e]
    clear e
    go_enter Tryz.func49, Tryz.ntmps49
    go_wp2_with fail
    go_region
    all_goals go_wp2_with fail
    all_goals go_ret
    all_goals exact ⟨rfl, (Kept.refl _ _).drew⟩

/-- An append of a mark to a call's own marks. -/
theorem info_mk : (Tryz.prog.info? 36).map (fun i => (i.zero, i.size, i.bytes)) = some (some (.agg #[.int .i64 0, .int .i64 0]), 2, 16) := by kernel_rfl
theorem mk_cell (xs : List Mk) : ∀ u ∈ flat Mk.cells xs, u.oneCell' = true := by
  intro u hu
  simp only [flat, List.mem_flatMap, Mk.cells, List.mem_cons, List.not_mem_nil, or_false] at hu
  obtain ⟨x, _, h | h⟩ := hu <;> subst h <;> rfl
/-- Marks that a call owns. -/
structure OwnM (κ : Nat → Nat) (w : World) (i : Nat) (ms : Option Addr) (mc : Nat) (l : List Mk) : Prop where
  own : w.ownsRow 0 36 2 (.slice ms l.length mc) l.length (flat Mk.cells l)
  cm : ∀ g, (Value.slice ms l.length mc).ownBlock = some g → κ g = 6 + 2 * i
theorem OwnM.step {C : Nat → Prop} {κ κ' : Nat → Nat} {w w' : World} {i : Nat} {ms : Option Addr} {mc : Nat} {l : List Mk} (h : OwnM κ w i ms mc l) (k : Step C κ κ' w w') (h2 : ¬ C (6 + 2 * i)) : OwnM κ' w' i ms mc l :=
  ⟨own_stay h.own k.kept (fun g hg => by rw [h.cm g hg]; exact h2), fun g hg => (k.same g (own_lt h.own hg)).trans (h.cm g hg)⟩
/-- Behind the append. -/
theorem mark_end {κ : Nat → Nat} {w w6 : World} {i : Nat} {ms : Option Addr} {mc : Nat} {l : List Mk} {m : Mk} {v' : Value} (hW : Wl κ w) (h : OwnM κ w i ms mc l) (hf : l.length ≤ 100000)
    (h1 : w6.ownsRow 0 36 2 v' (l.length + [m].length) (flat Mk.cells l ++ flat Mk.cells [m])) (h2 : w.grownBy w6 (Value.slice ms l.length mc).ownBlock) (h3 : v'.ownBlock = (Value.slice ms l.length mc).ownBlock ∨ v'.ownBlock = some w.heap.size) :
    ∃ κ' s c, v' = .slice s (l.length + 1) c ∧ OwnM κ' w6 i s c (l ++ [m]) ∧ Step (fun q => q = 6 + 2 * i) κ κ' w w6 := by
  rw [← flat_append] at h1
  obtain ⟨s, c, rfl, hM⟩ := Made.of_own Mk.two h1 (by simp) (by simp; unfold maxLen; omega)
  have hk : Kept (fun b => κ b = 6 + 2 * i) w w6 := (Kept.refl _ _).grown h2 (fun k _ e => h.cm k e)
  have hl : (l ++ [m]).length = l.length + [m].length := by simp
  have hwl : ∀ b, κ b = 4 → Hd w6 b := fun b hb => by
    obtain ⟨u, hu⟩ := hW.hd b hb
    exact ⟨u, hk.at_ hu (by rw [hb]; omega)⟩
  rcases h3 with h3 | h3
  · refine ⟨κ, s, c, by simp, ⟨by rw [hl] at h1 ⊢; exact h1, fun g hg => h.cm g (by rw [← h3]; exact hg)⟩, hk, fun _ _ => rfl, fun b hb => Nat.lt_of_lt_of_le (hW.lt b hb) hk.size, hwl⟩
  · have hne : ∀ b, κ b ≠ 0 → b ≠ w.heap.size := fun b hb e => by have := hW.lt b hb; omega
    refine ⟨paint κ w.heap.size (6 + 2 * i), s, c, by simp, ⟨by rw [hl] at h1 ⊢; exact h1, fun g hg => ?_⟩, hk, fun b hb => paint_not κ (by omega), fun b hb => ?_, fun b hb => ?_⟩
    · have e : g = w.heap.size := by
        have h4 := h3
        rw [show (Value.slice s (l ++ [m]).length c).ownBlock = some g from hg] at h4
        simpa using h4
      rw [e]; exact paint_at _ _ _
    · by_cases e : b = w.heap.size
      · subst e
        have := own_lt h1 h3
        exact this
      · rw [paint_not κ e] at hb; exact Nat.lt_of_lt_of_le (hW.lt b hb) hk.size
    · by_cases e : b = w.heap.size
      · subst e; rw [paint_at] at hb; omega
      · rw [paint_not κ e] at hb; exact hwl b hb
theorem step_note {ops : Array Oper} {o : Oper} {a : Act} {K : Act → World → Prop} {Q : Exit → Act → World → Prop} {E : Prop} {κ : Nat → Nat} {w : World} (hgd : o.guard = none) (s x : Operand) (ho : o.op = .call { callee := .builtin .append, args := #[s, x], argTypes := #[123, 123] })
    {ms : Option Addr} {mc g i : Nat} {l : List Mk} {m : Mk} (hs : a.eval s = .slice ms l.length mc) (hx : a.eval x = .slice (some ⟨g, 0, none⟩) 1 1)
    (hW : Wl κ w) (h : OwnM κ w i ms mc l) (hf : l.length ≤ 100000) (hE : Elems w w.heap.size (some ⟨g, 0, none⟩) 2 Mk.cells [m])
    (hK : ∀ κ' s6 c6 w6, OwnM κ' w6 i s6 c6 (l ++ [m]) → Step (fun q => q = 6 + 2 * i) κ κ' w w6 → K (a.put o.dst (.slice s6 (l.length + 1) c6)) w6) :
    if Region.wanted o (yielded ops a.tmps) = true then Oper.wp Tryz.prog o a w K Q else E := by
  obtain ⟨i0, hi, hz0, hz1, hz2⟩ := info_parts info_mk
  refine step_append_elems (f := Mk.cells) (ys := [m]) w hgd s x 123 ho 0 36 i0 (.agg #[.int .i64 0, .int .i64 0]) 2 16 Tryz.underlying123 hi hz0 hz1 hz2 rfl (by decide) Mk.two (mk_cell _) (.slice ms l.length mc) l.length (flat Mk.cells l) hs h.own w.heap.size _ 1 hx hE (by show l.length + 1 ≤ maxLen; unfold maxLen; omega) (by show (l.length + 1) * 16 ≤ _; omega) (Nat.zero_le _) ?_
  intro v' w6 h1 h2 h3
  obtain ⟨κ', s6, c6, rfl, ho6, hs6⟩ := mark_end hW h hf h1 h2 h3
  exact hK κ' s6 c6 w6 ho6 hs6

theorem wpList_note {ops : Array Oper} {rest : List Oper} {o : Oper} {a : Act} {Q : Exit → Act → World → Prop} {κ : Nat → Nat} {w : World} (hgd : o.guard = none) (s x : Operand) (ho : o.op = .call { callee := .builtin .append, args := #[s, x], argTypes := #[123, 123] })
    {ms : Option Addr} {mc g i : Nat} {l : List Mk} {m : Mk} (hs : a.eval s = .slice ms l.length mc) (hx : a.eval x = .slice (some ⟨g, 0, none⟩) 1 1)
    (hW : Wl κ w) (h : OwnM κ w i ms mc l) (hf : l.length ≤ 100000) (hE : Elems w w.heap.size (some ⟨g, 0, none⟩) 2 Mk.cells [m])
    (hK : ∀ κ' s6 c6 w6, OwnM κ' w6 i s6 c6 (l ++ [m]) → Step (fun q => q = 6 + 2 * i) κ κ' w w6 → wpList Tryz.prog ops Q rest (a.put o.dst (.slice s6 (l.length + 1) c6)) w6) : wpList Tryz.prog ops Q (o :: rest) a w := by
  obtain ⟨i0, hi, hz0, hz1, hz2⟩ := info_parts info_mk
  refine wpList_append_elems (f := Mk.cells) (ys := [m]) w hgd s x 123 ho 0 36 i0 (.agg #[.int .i64 0, .int .i64 0]) 2 16 Tryz.underlying123 hi hz0 hz1 hz2 rfl (by decide) Mk.two (mk_cell _) (.slice ms l.length mc) l.length (flat Mk.cells l) hs h.own w.heap.size _ 1 hx hE (by show l.length + 1 ≤ maxLen; unfold maxLen; omega) (by show (l.length + 1) * 16 ≤ _; omega) (Nat.zero_le _) ?_
  intro v' w6 h1 h2 h3
  obtain ⟨κ', s6, c6, rfl, ho6, hs6⟩ := mark_end hW h hf h1 h2 h3
  exact hK κ' s6 c6 w6 ho6 hs6

end Go.Proofs.YtbodlaiakcoabaaGreatDoor
end
section
namespace Go.Proofs.YtbodlaiakcoabaaGreatDoor
open Go.RowKit
set_option linter.unusedSimpArgs false
set_option linter.unusedVariables false
set_option maxRecDepth 100000

theorem CallAt.ownM {κ : Nat → Nat} {w : World} {i b : Nat} {c : Ca} {d : Cm} (h : CallAt κ w i b c d) : OwnM κ w i d.ms d.mc c.marks := ⟨h.own, h.cm⟩
theorem call_set {w : World} {b : Nat} {a a' : Array Value} (h : w.heap[b]? = some (.cells a 125 (0, 0))) (j : Nat) (v : Value) (ha : a.setIfInBounds j v = a') : (w.setCell ⟨b, j, none⟩ v).heap[b]? = some (.cells a' 125 (0, 0)) := by
  rw [← ha]; exact heap_setCell_same w b j _ _ v h
/-- The call's marks, laid anew. -/
theorem CallAt.notes {C : Nat → Prop} {κ κ' : Nat → Nat} {w w6 : World} {i b : Nat} {c : Ca} {d : Cm} {m : Mk} {s6 : Option Addr} {c6 : Nat} (h : CallAt κ w i b c d) (k : Step C κ κ' w w6) (h0 : ¬ C 0) (h1 : ¬ C (5 + 2 * i)) (ho : OwnM κ' w6 i s6 c6 (c.marks ++ [m])) (hf : c.marks.length < 100000) :
    CallAt κ' (w6.setCell ⟨b, 7, none⟩ (.slice s6 (c.marks.length + 1) c6)) i b { c with marks := c.marks ++ [m] } { d with ms := s6, mc := c6 } ∧ Step (fun q => q = 5 + 2 * i) κ' κ' w6 (w6.setCell ⟨b, 7, none⟩ (.slice s6 (c.marks.length + 1) c6)) := by
  have hb := k.kept.at_ h.box (by rw [h.col]; exact h1)
  have hcol := (k.same b (lt_of_heap h.box)).trans h.col
  have hs : Step (fun q => q = 5 + 2 * i) κ' κ' w6 (w6.setCell ⟨b, 7, none⟩ (.slice s6 (c.marks.length + 1) c6)) := Step.set k.wl b 7 _ hcol (by rw [hcol]; omega)
  have ho' := ho.step hs (by omega)
  refine ⟨⟨call_set hb 7 _ ?_, hcol, ((h.rows.lat (k.lat h0)).lat (hs.lat (by omega))), ho'.own, ho'.cm, by simp; omega⟩, hs⟩
  simp [Ca.box]
/-- One cell of the call, laid anew. -/
theorem CallAt.put {κ : Nat → Nat} {w : World} {i b : Nat} {c c' : Ca} {d : Cm} (h : CallAt κ w i b c d) (hW : Wl κ w) (j : Nat) (v : Value) (hj : (c.box d).setIfInBounds j v = c'.box d) (hr : c'.rows = c.rows) (hm : c'.marks = c.marks) :
    CallAt κ (w.setCell ⟨b, j, none⟩ v) i b c' d ∧ Step (fun q => q = 5 + 2 * i) κ κ w (w.setCell ⟨b, j, none⟩ v) := by
  have hs : Step (fun q => q = 5 + 2 * i) κ κ w (w.setCell ⟨b, j, none⟩ v) := Step.set hW b j _ h.col (by rw [h.col]; omega)
  have ho' := h.ownM.step hs (by omega)
  exact ⟨⟨call_set h.box j v hj, h.col, by rw [hr]; exact h.rows.lat (hs.lat (by omega)), by rw [hm]; exact ho'.own, by rw [hm]; exact ho'.cm, by rw [hm]; exact h.few⟩, hs⟩
theorem call_free {w : World} {b : Nat} {a : Array Value} {T : TypeId} (h : w.heap[b]? = some (.cells a T (0, 0))) (j : Nat) : w.frozen? ⟨b, j, none⟩ = false := frozen_at w b j _ _ h

/-- What meet leaves. -/
def MeetTo (κ : Nat → Nat) (w : World) (i b : Nat) (c : Ca) (n : Int) (w' : World) : Prop := ∃ κ' d', CallAt κ' w' i b { c with marks := c.marks ++ [⟨0, 0⟩], got := n } d' ∧ Step (fun q => q = 5 + 2 * i ∨ q = 6 + 2 * i) κ κ' w w'
/-- What goesOn leaves. -/
def GoesTo (κ : Nat → Nat) (w : World) (i b : Nat) (c : Ca) (m : Mk) (r : Bool) (w' : World) : Prop := ∃ κ', Step (fun q => q = 4 ∨ q = 5 + 2 * i ∨ q = 6 + 2 * i) κ κ' w w' ∧ (r = true → ∃ d', CallAt κ' w' i b { c with marks := c.marks ++ [m] } d')

set_option maxHeartbeats 1000000 in
theorem meet_any (κ : Nat → Nat) (w : World) (i b : Nat) (c : Ca) (d : Cm) (h : CallAt κ w i b c d) (hW : Wl κ w) (hf : c.marks.length < 100000) (n : Int) :
    Calls Tryz.prog 47 #[.pointer (some ⟨b, 0, none⟩), .int .i64 n] w fun e w' => e = .returned (.tuple #[]) ∧ MeetTo κ w i b c n w' := by
  have hk1 : Kept (fun _ => False) w (w.alloc (.cells #[.int .i64 0, .int .i64 0] 36)) := (Kept.refl _ _).alloc _
  have hs1 : Step (fun _ => False) κ κ w (w.alloc (.cells #[.int .i64 0, .int .i64 0] 36)) := Step.of0 hk1 hW
  have hm1 := h.ownM.step hs1 (fun f => f)
  have hc1 := h.step hs1 (fun f => f) (fun f => f) (fun f => f)
  have HE : Hid (Elems (w.alloc (.cells #[.int .i64 0, .int .i64 0] 36)) (w.alloc (.cells #[.int .i64 0, .int .i64 0] 36)).heap.size (some ⟨w.heap.size, 0, none⟩) 2 Mk.cells [⟨0, 0⟩]) := Lib.hid ((Elems.block (f := Mk.cells) (xs := [⟨0, 0⟩]) Mk.two (heap_new1 w _) rfl (by show 1 ≤ maxLen; decide)).more (by simp))
  obtain ⟨-, -, -, -, -, -, -, c7, -, -, -⟩ := call_cells h.box
  have HF : Hid (c.marks.length ≤ 100000) := Lib.hid (by omega)
  have HF2 := Lib.hid hf
  have HS1 := Lib.hid hs1
  have HM1 := Lib.hid hm1
  have HC1 := Lib.hid hc1
  have HW1 := Lib.hid (hW.kept0 hk1)
  clear hk1 hs1 hm1 hc1 h hW hf
  go_enter Tryz.func47, Tryz.ntmps47
  go_wp2_with (at_builtin; refine wpList_note rfl (.tmp 8) (.tmp 10) rfl rfl rfl HW1.out HM1.out HF.out HE.out ?_)
  intro κ' s6 c6 w6 ho6 hs6
  have hs6' := hs6.mono (D := fun q => q = 5 + 2 * i ∨ q = 6 + 2 * i) (fun _ e => .inr e)
  have hb6 := hs6.kept.at_ HC1.out.box (by rw [HC1.out.col]; omega)
  have f7 := call_free hb6 7
  obtain ⟨-, -, -, -, -, -, -, k7, -, -, -⟩ := call_cells hb6
  obtain ⟨hn, hs7⟩ := HC1.out.notes hs6 (by omega) (by omega) ho6 HF2.out
  obtain ⟨hp, hs8⟩ := hn.put (c' := { c with marks := c.marks ++ [⟨0, 0⟩], got := n }) hs7.wl 8 (.int .i64 n) rfl rfl rfl
  have f8 := call_free hn.box 8
  obtain ⟨-, -, -, -, -, -, -, -, k8, -, -⟩ := call_cells hn.box
  have HT : Hid (MeetTo κ w i b c n ((w6.setCell ⟨b, 7, none⟩ (.slice s6 (c.marks.length + 1) c6)).setCell ⟨b, 8, none⟩ (.int .i64 n))) :=
    Lib.hid ⟨κ', _, hp, ((HS1.out.mono (fun _ f => f.elim)).trans hs6').trans ((hs7.trans hs8).mono (fun _ e => .inl e))⟩
  clear ho6 hs6 hs6' hb6 hn hs7 hp hs8
  go_wp2_with fail
  go_end0
  exact ⟨rfl, HT.out⟩

set_option maxHeartbeats 2000000 in
theorem goesOn_any (κ : Nat → Nat) (w : World) (i b : Nat) (c : Ca) (d : Cm) (h : CallAt κ w i b c d) (hW : Wl κ w) (hf : c.marks.length < 100000) (m : Mk) :
    Calls Tryz.prog 46 #[.pointer (some ⟨b, 0, none⟩), m.agg] w fun e w' => e = .returned (.bool (beginsM c.rows (c.marks ++ [m]))) ∧ GoesTo κ w i b c m (beginsM c.rows (c.marks ++ [m])) w' := by
  obtain ⟨W1, hW1⟩ : ∃ W1, w.alloc (.cells #[.int .i64 m.kind, .int .i64 m.v] 36) = W1 := ⟨_, rfl⟩
  have hk1 : Kept (fun _ => False) w W1 := by rw [← hW1]; exact (Kept.refl _ _).alloc _
  have hn1 : W1.heap[w.heap.size]? = some (.cells #[.int .i64 m.kind, .int .i64 m.v] 36 (0, 0)) := by rw [← hW1]; exact heap_new1 _ _
  have hn0 : κ w.heap.size = 0 := Classical.byContradiction fun e => Nat.lt_irrefl _ (hW.lt _ e)
  have hs1 : Step (fun _ => False) κ κ w W1 := Step.of0 hk1 hW
  have hc1 := h.step hs1 (fun f => f) (fun f => f) (fun f => f)
  have hw1 := hW.kept0 hk1
  have SF : Hid (∀ κ' w', Step (fun q => q = 6 + 2 * i) κ κ' W1 w' → w'.cell? ⟨b, 7, none⟩ = some (.slice d.ms c.marks.length d.mc) ∧ w'.cell? ⟨w.heap.size, 0, none⟩ = some (.int .i64 m.kind) ∧ w'.cell? ⟨w.heap.size, 1, none⟩ = some (.int .i64 m.v)) := Lib.hid (fun κ' w' hk => by
    have hb := hk.kept.at_ hc1.box (by rw [hc1.col]; omega)
    have hn := hk.kept.at_ hn1 (by rw [hn0]; omega)
    refine ⟨(call_cells hb).c7, ?_, ?_⟩
    · rw [cell_at _ _ 0 _ _ hn]; rfl
    · rw [cell_at _ _ 1 _ _ hn]; rfl)
  have HSR : Hid (∀ w', Kept (fun _ => False) W1 w' → Step (fun q => q = 6 + 2 * i) κ κ W1 w') := Lib.hid (fun w' hk => Step.of0 hk hw1)
  have HF : Hid (c.marks.length ≤ 100000) := Lib.hid (by omega)
  have HF2 := Lib.hid hf
  have HS1 := Lib.hid hs1
  have HC1 := Lib.hid hc1
  have HW1 := Lib.hid hw1
  have HM : Hid (∀ w', Kept (fun _ => False) W1 w' → OwnM κ w' i d.ms d.mc c.marks) := Lib.hid (fun w' hk => hc1.ownM.step (Step.of0 (C := fun _ => False) hk hw1) (fun f => f))
  have HE : Hid (∀ w' : World, Elems (w'.alloc (.cells #[.int .i64 m.kind, .int .i64 m.v] 36)) (w'.alloc (.cells #[.int .i64 m.kind, .int .i64 m.v] 36)).heap.size (some ⟨w'.heap.size, 0, none⟩) 2 Mk.cells [m]) := Lib.hid (fun w' => (Elems.block (f := Mk.cells) (xs := [m]) Mk.two (heap_new1 w' _) rfl (by show 1 ≤ maxLen; decide)).more (by simp))
  clear hk1 hn1 hn0 hs1 hc1 hw1 h hW hf
  go_enter Tryz.func46, Tryz.ntmps46
  go_wp2_with fail
  go_region_held3 (fun w' => w'.cell? ⟨b, 7, none⟩ = some (.slice d.ms c.marks.length d.mc) ∧ w'.cell? ⟨w.heap.size, 0, none⟩ = some (.int .i64 m.kind) ∧ w'.cell? ⟨w.heap.size, 1, none⟩ = some (.int .i64 m.v)) (first | exact SF.out _ _ (HSR.out _ (Kept.refl _ _)) | exact SF.out _ _ (HSR.out _ (Kept.refl _ _).drew) | exact SF.out _ _ (HSR.out _ ((Kept.refl _ _).drew.alloc _)) | exact SF.out _ _ HS6) (first
    | (refine step_note (κ := κ) (i := i) (l := c.marks) (m := m) (by rfl) _ _ (by rfl) (by rfl) (by rfl) (HW1.out.kept0 ((Kept.refl _ _).drew.alloc _)) (HM.out _ ((Kept.refl _ _).drew.alloc _)) HF.out (HE.out _) ?_; intro κ' s6 c6 w6 ho6 hs6; have HS6 := (HSR.out _ ((Kept.refl _ _).drew.alloc _)).trans hs6; have HO6 := Lib.hid ho6; clear ho6 hs6))
  have hb6 := HS6.kept.at_ HC1.out.box (by rw [HC1.out.col]; omega)
  obtain ⟨-, -, -, -, -, g5, -, -, -, -, -⟩ := call_cells hb6
  have HRB := Lib.hid (begins_any κ' d.xs c.rows d.rs d.xs.length d.rc rfl HC1.out.xfew s6 (c.marks.length + 1) c6 (c.marks ++ [m]) (by simp) w6 HS6.wl (HC1.out.rows.lat (HS6.lat (by omega))) (marksE HO6.out.own HO6.out.cm (by simp; have := HF2.out; omega)))
  have HSS := Lib.hid HS6
  clear hb6 HS6
  go_wp2_with fail
  refine HRB.out.mono ?_
  rintro e w7 ⟨rfl, hs7⟩
  have hst : Step (fun q => q = 4 ∨ q = 6 + 2 * i) κ κ' W1 w7 := (HSS.out.mono (fun _ e => .inr e)).trans (Step.soft hs7 HSS.out.wl (.inl rfl))
  have hst' : Step (fun q => q = 4 ∨ q = 5 + 2 * i ∨ q = 6 + 2 * i) κ κ' w w7 := ((HS1.out.mono (fun _ f => f.elim)).trans hst).mono (fun _ e => e.imp id .inr)
  have ho7 := HO6.out.step (Step.soft (C := fun q => q = 4) hs7 HSS.out.wl rfl) (by omega)
  have hb7 := hst.kept.at_ HC1.out.box (by rw [HC1.out.col]; omega)
  have f7 := call_free hb7 7
  obtain ⟨-, -, -, -, -, -, -, k7, -, -, -⟩ := call_cells hb7
  obtain ⟨hn, hs8⟩ := HC1.out.notes hst (by omega) (by omega) ho7 HF2.out
  have HT1 : Hid (GoesTo κ w i b c m true (w7.setCell ⟨b, 7, none⟩ (.slice s6 (c.marks.length + 1) c6))) := Lib.hid ⟨κ', hst'.trans (hs8.mono (fun _ e => .inr (.inl e))), fun _ => ⟨_, hn⟩⟩
  have HT0 : Hid (GoesTo κ w i b c m false w7) := Lib.hid ⟨κ', hst', fun e => by cases e⟩
  clear hst hst' ho7 hb7 hn hs8 hs7
  cases hr : beginsM c.rows (c.marks ++ [m])
  · go_wp2_with fail
    go_ret
    rw [hr]
    exact ⟨rfl, HT0.out⟩
  · go_wp2_with fail
    go_ret
    rw [hr]
    exact ⟨rfl, HT1.out⟩

end Go.Proofs.YtbodlaiakcoabaaGreatDoor
end
section
namespace Go.Proofs.YtbodlaiakcoabaaGreatDoor
open Go.RowKit
set_option linter.unusedSimpArgs false
set_option linter.unusedVariables false
set_option maxRecDepth 100000

/-- A thread in memory. -/
structure Hh where
  p : Pr
  begun : Nat
  ptr : Option Nat
  breaks : Int
@[reducible] def Hh.cells (h : Hh) : List Value := [.slice h.p.s h.p.ops.length h.p.cap, .int .i64 h.begun, .pointer (h.ptr.map fun b => ⟨b, 0, none⟩), .int .i64 h.breaks]
theorem Hh.four (h : Hh) : h.cells.length = 4 := rfl
/-- A thing in memory. -/
structure Tt where
  x : Th
  s : Option Addr
  c : Nat
def Tt.cells (t : Tt) : List Value := (t.x.box t.s t.c).toList
theorem Tt.fifteen (t : Tt) : t.cells.length = 15 := rfl
def CallOpt (κ : Nat → Nat) (w : World) (i : Nat) : Option Nat → Option Ca → Prop
  | none, none => True
  | some b, some c => ∃ d, CallAt κ w i b c d
  | _, _ => False
structure ThAt (B : Nat) (κ : Nat → Nat) (w : World) (i : Nat) (h : Hh) (t : Tr) : Prop where
  ops : h.p.ops = t.ops
  el : Elems w B h.p.s 5 Cl.cells h.p.ops
  begun : h.begun = t.begun
  breaks : h.breaks = t.breaks
  call : CallOpt κ w i h.ptr t.call
/-- Where all lies. -/
structure Mem where
  os : Option Addr
  oc : Nat
  tg : Nat
  tc : Nat
  tts : List Tt
  hg : Nat
  hc : Nat
  hs : List Hh
structure In (B p : Nat) (κ : Nat → Nat) (w : World) (σ : St) (m : Mem) : Prop where
  wl : Wl κ w
  low : ∀ b, κ b ≠ 0 → B ≤ b
  size : B ≤ w.heap.size
  box : w.heap[p]? = some (.cells #[.slice m.os σ.obs.length m.oc, .slice (some ⟨m.tg, 0, none⟩) m.tts.length m.tc, .slice (some ⟨m.hg, 0, none⟩) m.hs.length m.hc, .int .i64 σ.now] 57 (0, 0))
  pcol : κ p = 1
  obs : Elems w B m.os 3 Ob.cells σ.obs
  things : Row w m.tg m.tc 42 15 Tt.cells m.tts
  tcol : κ m.tg = 2
  same : m.tts.map Tt.x = σ.things
  ws : ∀ t ∈ m.tts, ElemsQ (fun g => κ g = 0) w t.s 2 Wt.cells t.x.ws
  threads : Row w m.hg m.hc 60 4 Hh.cells m.hs
  hcol : κ m.hg = 3
  hlen : m.hs.length = σ.threads.length
  th : ∀ (i : Nat) (h : Hh) (t : Tr), m.hs[i]? = some h → σ.threads[i]? = some t → ThAt B κ w i h t

theorem elems_step {α : Type} {C : Nat → Prop} {κ κ' : Nat → Nat} {w w' : World} {B m : Nat} {s : Option Addr} {f : α → List Value} {xs : List α} (h : Elems w B s m f xs) (k : Step C κ κ' w w') (h0 : ¬ C 0) (hB : B ≤ w.heap.size) (hl : ∀ b, κ b ≠ 0 → B ≤ b) : Elems w' B s m f xs :=
  h.kept k.kept hB (fun b hb hc => h0 (by have e : κ b = 0 := Classical.byContradiction fun e => by have := hl b e; omega
                                          rw [← e]; exact hc))
theorem CallOpt.step {C : Nat → Prop} {κ κ' : Nat → Nat} {w w' : World} {i : Nat} {o : Option Nat} {c : Option Ca} (h : CallOpt κ w i o c) (k : Step C κ κ' w w') (h0 : ¬ C 0) (h1 : ¬ C (5 + 2 * i)) (h2 : ¬ C (6 + 2 * i)) : CallOpt κ' w' i o c := by
  match o, c, h with
  | none, none, _ => trivial
  | some b, some c, ⟨d, h⟩ => exact ⟨d, h.step k h0 h1 h2⟩
theorem ThAt.step {C : Nat → Prop} {B : Nat} {κ κ' : Nat → Nat} {w w' : World} {i : Nat} {h : Hh} {t : Tr} (q : ThAt B κ w i h t) (k : Step C κ κ' w w') (hB : B ≤ w.heap.size) (hl : ∀ b, κ b ≠ 0 → B ≤ b) (h0 : ¬ C 0) (h1 : ¬ C (5 + 2 * i)) (h2 : ¬ C (6 + 2 * i)) : ThAt B κ' w' i h t :=
  ⟨q.ops, elems_step q.el k h0 hB hl, q.begun, q.breaks, q.call.step k h0 h1 h2⟩
theorem Step.low {C : Nat → Prop} {B : Nat} {κ κ' : Nat → Nat} {w w' : World} (k : Step C κ κ' w w') (hB : B ≤ w.heap.size) (hl : ∀ b, κ b ≠ 0 → B ≤ b) : ∀ b, κ' b ≠ 0 → B ≤ b := by
  intro b hb
  by_cases e : b < w.heap.size
  · exact hl b (by rw [← k.same b e]; exact hb)
  · omega
/-- A step that leaves the state as it is. -/
theorem In.step {C : Nat → Prop} {B p : Nat} {κ κ' : Nat → Nat} {w w' : World} {σ : St} {m : Mem} (q : In B p κ w σ m) (k : Step C κ κ' w w') (hC : ∀ c, C c → c = 4) : In B p κ' w' σ m := by
  have n0 : ¬ C 0 := fun h => by have := hC 0 h; omega
  have n1 : ¬ C 1 := fun h => by have := hC 1 h; omega
  have n2 : ¬ C 2 := fun h => by have := hC 2 h; omega
  have n3 : ¬ C 3 := fun h => by have := hC 3 h; omega
  exact ⟨k.wl, k.low q.size q.low, Nat.le_trans q.size k.kept.size, k.kept.at_ q.box (by rw [q.pcol]; exact n1), (k.same p (lt_of_heap q.box)).trans q.pcol, elems_step q.obs k n0 q.size q.low,
    q.things.kept k.kept (by rw [q.tcol]; exact n2), (k.same _ q.things.lt).trans q.tcol, q.same, fun t ht => (q.ws t ht).lat (k.lat n0),
    q.threads.kept k.kept (by rw [q.hcol]; exact n3), (k.same _ q.threads.lt).trans q.hcol, q.hlen,
    fun i h t hh ht => (q.th i h t hh ht).step k q.size q.low n0 (fun h => by have := hC _ h; omega) (fun h => by have := hC _ h; omega)⟩

/-- What a return leaves. -/
def EndTo (κ : Nat → Nat) (w : World) (hg hc : Nat) (hs : List Hh) (i : Nat) (h : Hh) (r : Option Tr) (w' : World) : Prop :=
  Step (fun q => q = 3 ∨ q = 4) κ κ w w' ∧ ∀ t', r = some t' → Row w' hg hc 60 4 Hh.cells (hs.set i { h with ptr := none, breaks := t'.breaks })

theorem end_none {t : Tr} {c : Ca} {res got : Int} (h : (got == c.got && comesM c.rows c.marks res) = false) : endM t c res got = none := by
  unfold endM; rw [h]; rfl
theorem row_set {w : World} {hg hc : Nat} {hs : List Hh} {i : Nat} {h h' : Hh} (hr : Row w hg hc 60 4 Hh.cells hs) (hi : hs[i]? = some h) (j : Nat) (v : Value) (hj : j < 4) (hv : h'.cells = h.cells.set j v) : Row (w.setCell ⟨hg, i * 4 + j, none⟩ v) hg hc 60 4 Hh.cells (hs.set i h') :=
  Row.set Hh.four hr hi hj hv

set_option maxHeartbeats 4000000 in
theorem end_any (κ : Nat → Nat) (w : World) (hW : Wl κ w) (hg hc : Nat) (hs : List Hh) (hR : Row w hg hc 60 4 Hh.cells hs) (hcol : κ hg = 3) (i b : Nat) (h : Hh) (hi : hs[i]? = some h) (hil : i < 8) (hp : h.ptr = some b) (t : Tr) (hbr : h.breaks = t.breaks) (c : Ca) (d : Cm) (hC : CallAt κ w i b c d)
    (s0 : 0 ≤ c.since) (s1 : c.since ≤ 9223372036854775807) (t0 : 0 ≤ c.til) (t1 : c.til ≤ 9223372036854775807) (b0 : -1000000 ≤ t.breaks) (b1 : t.breaks ≤ 1000000) (res got : Int) :
    Calls Tryz.prog 38 #[.pointer (some ⟨hg, i * 4, none⟩), .int .i64 res, .int .i64 got] w fun e w' => e = .returned (.bool (endM t c res got).isSome) ∧ EndTo κ w hg hc hs i h (endM t c res got) w' := by
  have z2 : w.cell? ⟨hg, i * 4 + 2, none⟩ = some (.pointer (some ⟨b, 0, none⟩)) := hR.cell Hh.four hi (by rw [show h.cells[2]? = some (.pointer (h.ptr.map fun b => ⟨b, 0, none⟩)) from rfl, hp]; rfl)
  obtain ⟨-, -, -, -, c4, c5, c6, c7, c8, c9, c10⟩ := call_cells hC.box
  have hst0 : Step (fun q => q = 3 ∨ q = 4) κ κ w w.drew := Step.of0 (Kept.refl _ _).drew hW
  cases e1 : (got != c.got)
  rotate_left
  · have en : endM t c res got = none := end_none (by rw [show (got == c.got) = false from by simpa using e1]; rfl)
    have HT : Hid (EndTo κ w hg hc hs i h (endM t c res got) w.drew) := Lib.hid ⟨hst0, fun t' ht => by rw [en] at ht; cases ht⟩
    rw [en] at HT ⊢
    clear hC hR hW hst0 c4 c5 c6 c7 c9 c10
    go_enter Tryz.func38, Tryz.ntmps38
    go_wp2_with fail
    go_region
    all_goals go_wp2_with fail
    all_goals go_ret
    all_goals exact ⟨rfl, HT.out⟩
  · have hgg : (got == c.got) = true := by simpa using e1
    have SF : Hid (∀ w', Soft κ w w' → w'.cell? ⟨b, 8, none⟩ = some (.int .i64 c.got) ∧ w'.cell? ⟨b, 5, none⟩ = some (.slice d.rs d.xs.length d.rc) ∧ w'.cell? ⟨b, 7, none⟩ = some (.slice d.ms c.marks.length d.mc)) := Lib.hid (fun w' hk => by
      have hh := call_cells (hk.kept.at_ hC.box (by rw [hC.col]; omega))
      exact ⟨hh.c8, hh.c5, hh.c7⟩)
    have HCM : Hid (∀ w', Soft κ w w' → Calls Tryz.prog 48 #[.slice d.rs d.xs.length d.rc, .slice d.ms c.marks.length d.mc, .int .i64 res] w' fun e w'' => e = .returned (.bool (comesM c.rows c.marks res)) ∧ Soft κ w' w'') := Lib.hid (fun w' hk =>
      comes_any κ d.xs c.rows d.rs d.xs.length d.rc rfl hC.xfew d.ms c.marks.length d.mc c.marks rfl res w' (hk.wl hW) (hC.rows.lat (Lat.soft hk)) ((marksE hC.own hC.cm (by have := hC.few; omega)).soft hk))
    have HAF : Hid (∀ w2, Soft κ w w2 → w2.cell? ⟨b, 4, none⟩ = some (.bool c.op.breaks) ∧ w2.cell? ⟨b, 10, none⟩ = some (.bool c.cut) ∧ w2.heap[b]? = some (.cells (c.box d) 125 (0, 0)) ∧ Row w2 hg hc 60 4 Hh.cells hs ∧ Step (fun q => q = 3 ∨ q = 4) κ κ w w2) := Lib.hid (fun w2 hk => by
      have hb := hk.kept.at_ hC.box (by rw [hC.col]; omega)
      have hh := call_cells hb
      exact ⟨hh.c4, hh.c10, hb, hR.kept hk.kept (by rw [hcol]; omega), Step.soft hk hW (.inr rfl)⟩)
    have HB := Lib.hid hbr
    have HI := Lib.hid hi
    have HP := Lib.hid hp
    have HCOL := Lib.hid hcol
    have HEM : Hid (endM t c res got = if comesM c.rows c.marks res then
      (if res = 2 then (if c.op.breaks && c.cut then some { t with breaks := t.breaks - 1, call := none } else none)
      else if res = 3 then (if lateM c then some { t with call := none } else none)
      else some { t with call := none }) else none) := Lib.hid (by unfold endM; rw [hgg, Bool.true_and])
    clear hC hR hW hst0 c4 c5 c6 c7 c8 c9 c10 hcol hgg
    have q := SF.out w (Soft.refl _ _)
    obtain ⟨c8, c5, c7⟩ := q
    cases hcm : comesM c.rows c.marks res
    · rw [hcm] at HCM HEM
      have en : endM t c res got = none := HEM.out
      rw [en]
      go_enter Tryz.func38, Tryz.ntmps38
      go_wp2_with fail
      go_region_held3 (fun w' => w'.cell? ⟨b, 8, none⟩ = some (.int .i64 c.got) ∧ w'.cell? ⟨b, 5, none⟩ = some (.slice d.rs d.xs.length d.rc) ∧ w'.cell? ⟨b, 7, none⟩ = some (.slice d.ms c.marks.length d.mc)) (first | exact SF.out _ (Soft.refl _ _) | exact SF.out _ (Soft.of0 (Kept.refl _ _).drew) | exact SF.out _ HS5) (first | (go_at_call 48; refine (HCM.out _ (Soft.of0 (Kept.refl _ _).drew)).mono ?_; rintro e w2 ⟨rfl, hs2⟩; have HS5 := (Soft.of0 (κ := κ) (Kept.refl _ w).drew).trans hs2; clear hs2))
      have HS6 := Lib.hid HS5
      clear HS5
      have HT : EndTo κ w hg hc hs i h none w2 := ⟨(HAF.out w2 HS6.out).2.2.2.2, fun t' ht => by cases ht⟩
      go_wp2_with fail
      go_ret
      exact ⟨rfl, HT⟩
    rw [hcm] at HCM HEM
    clear hcm
    by_cases h2 : res = 2
    · subst h2
      cases hb : c.op.breaks
      · have en : endM t c 2 got = none := by rw [HEM.out, hb]; rfl
        rw [en]
        go_enter Tryz.func38, Tryz.ntmps38
        go_wp2_with fail
        go_region_held3 (fun w' => w'.cell? ⟨b, 8, none⟩ = some (.int .i64 c.got) ∧ w'.cell? ⟨b, 5, none⟩ = some (.slice d.rs d.xs.length d.rc) ∧ w'.cell? ⟨b, 7, none⟩ = some (.slice d.ms c.marks.length d.mc)) (first | exact SF.out _ (Soft.refl _ _) | exact SF.out _ (Soft.of0 (Kept.refl _ _).drew) | exact SF.out _ HS5) (first | (go_at_call 48; refine (HCM.out _ (Soft.of0 (Kept.refl _ _).drew)).mono ?_; rintro e w2 ⟨rfl, hs2⟩; have HS5 := (Soft.of0 (κ := κ) (Kept.refl _ w).drew).trans hs2; clear hs2))
        have HS6 := Lib.hid HS5
        clear HS5
        obtain ⟨a1, a2, a3, a4, a5⟩ := HAF.out w2 HS6.out
        rw [hb] at a1
        have HT : EndTo κ w hg hc hs i h none w2 := ⟨a5, fun t' ht => by cases ht⟩
        clear a2 a3 a4 a5
        go_wp2_with fail
        go_ret
        exact ⟨rfl, HT⟩
      cases hcu : c.cut
      · have en : endM t c 2 got = none := by rw [HEM.out, hb, hcu]; rfl
        rw [en]
        go_enter Tryz.func38, Tryz.ntmps38
        go_wp2_with fail
        go_region_held3 (fun w' => w'.cell? ⟨b, 8, none⟩ = some (.int .i64 c.got) ∧ w'.cell? ⟨b, 5, none⟩ = some (.slice d.rs d.xs.length d.rc) ∧ w'.cell? ⟨b, 7, none⟩ = some (.slice d.ms c.marks.length d.mc)) (first | exact SF.out _ (Soft.refl _ _) | exact SF.out _ (Soft.of0 (Kept.refl _ _).drew) | exact SF.out _ HS5) (first | (go_at_call 48; refine (HCM.out _ (Soft.of0 (Kept.refl _ _).drew)).mono ?_; rintro e w2 ⟨rfl, hs2⟩; have HS5 := (Soft.of0 (κ := κ) (Kept.refl _ w).drew).trans hs2; clear hs2))
        have HS6 := Lib.hid HS5
        clear HS5
        obtain ⟨a1, a2, a3, a4, a5⟩ := HAF.out w2 HS6.out
        rw [hb] at a1
        have HT : EndTo κ w hg hc hs i h none w2 := ⟨a5, fun t' ht => by cases ht⟩
        rw [hcu] at a2
        clear a3 a4 a5
        go_wp2_with fail
        go_ret
        exact ⟨rfl, HT⟩
      · have en : endM t c 2 got = some { t with breaks := t.breaks - 1, call := none } := by rw [HEM.out, hb, hcu]; rfl
        rw [en]
        go_enter Tryz.func38, Tryz.ntmps38
        go_wp2_with fail
        go_region_held3 (fun w' => w'.cell? ⟨b, 8, none⟩ = some (.int .i64 c.got) ∧ w'.cell? ⟨b, 5, none⟩ = some (.slice d.rs d.xs.length d.rc) ∧ w'.cell? ⟨b, 7, none⟩ = some (.slice d.ms c.marks.length d.mc)) (first | exact SF.out _ (Soft.refl _ _) | exact SF.out _ (Soft.of0 (Kept.refl _ _).drew) | exact SF.out _ HS5) (first | (go_at_call 48; refine (HCM.out _ (Soft.of0 (Kept.refl _ _).drew)).mono ?_; rintro e w2 ⟨rfl, hs2⟩; have HS5 := (Soft.of0 (κ := κ) (Kept.refl _ w).drew).trans hs2; clear hs2))
        have HS6 := Lib.hid HS5
        clear HS5
        obtain ⟨a1, a2, a3, a4, a5⟩ := HAF.out w2 HS6.out
        rw [hb] at a1
        rw [hcu] at a2
        have x2 : w2.cell? ⟨hg, i * 4 + 2, none⟩ = some (.pointer (some ⟨b, 0, none⟩)) := a4.cell Hh.four HI.out (by rw [show h.cells[2]? = some (.pointer (h.ptr.map fun b => ⟨b, 0, none⟩)) from rfl, HP.out]; rfl)
        have x3 : w2.cell? ⟨hg, i * 4 + 3, none⟩ = some (.int .i64 t.breaks) := by rw [← HB.out]; exact a4.cell Hh.four HI.out rfl
        have y2 := a4.free (i * 4 + 2)
        have y3 := a4.free (i * 4 + 3)
        have r1 := row_set (h' := { h with breaks := t.breaks - 1 }) a4 HI.out 3 (.int .i64 (t.breaks - 1)) (by omega) rfl
        have r2 := row_set (h' := { h with ptr := none, breaks := t.breaks - 1 }) r1 (List.getElem?_set_self (List.getElem?_eq_some_iff.1 HI.out).1) 2 (.pointer none) (by omega) rfl
        rw [List.set_set] at r2
        have k1 := Step.set (C := fun q => q = 3 ∨ q = 4) a5.wl hg (i * 4 + 3) (.int .i64 (t.breaks - 1)) (.inl HCOL.out) (by rw [HCOL.out]; omega)
        have k2 := Step.set (C := fun q => q = 3 ∨ q = 4) k1.wl hg (i * 4 + 2) (.pointer none) (.inl HCOL.out) (by rw [HCOL.out]; omega)
        have HT : Hid (EndTo κ w hg hc hs i h (some { t with breaks := t.breaks - 1, call := none }) ((w2.setCell ⟨hg, i * 4 + 3, none⟩ (.int .i64 (t.breaks - 1))).setCell ⟨hg, i * 4 + 2, none⟩ (.pointer none))) := Lib.hid ⟨(a5.trans k1).trans k2, fun t' ht => by cases ht; exact r2⟩
        clear a3 a4 a5 r1 r2 k1 k2
        go_wp2_with fail
        go_ret
        exact ⟨rfl, HT.out⟩
    by_cases h3 : res = 3
    · subst h3
      cases hla : lateM c
      · have en : endM t c 3 got = none := by rw [HEM.out, hla]; rfl
        rw [en]
        go_enter Tryz.func38, Tryz.ntmps38
        go_wp2_with fail
        go_region_held3 (fun w' => w'.cell? ⟨b, 8, none⟩ = some (.int .i64 c.got) ∧ w'.cell? ⟨b, 5, none⟩ = some (.slice d.rs d.xs.length d.rc) ∧ w'.cell? ⟨b, 7, none⟩ = some (.slice d.ms c.marks.length d.mc)) (first | exact SF.out _ (Soft.refl _ _) | exact SF.out _ (Soft.of0 (Kept.refl _ _).drew) | exact SF.out _ HS5) (first | (go_at_call 48; refine (HCM.out _ (Soft.of0 (Kept.refl _ _).drew)).mono ?_; rintro e w2 ⟨rfl, hs2⟩; have HS5 := (Soft.of0 (κ := κ) (Kept.refl _ w).drew).trans hs2; clear hs2))
        have HS6 := Lib.hid HS5
        clear HS5
        obtain ⟨a1, a2, a3, a4, a5⟩ := HAF.out w2 HS6.out
        go_wp2_with fail
        refine (late_any c d b w2 a3 s0 s1 t0 t1).mono ?_
        rintro e w3 ⟨rfl, hk3⟩
        rw [hla]
        have k3 := a5.trans (Step.of0 (C := fun q => q = 3 ∨ q = 4) hk3 a5.wl)
        have HT : Hid (EndTo κ w hg hc hs i h none w3) := Lib.hid ⟨k3, fun t' ht => by cases ht⟩
        clear a3 a4 a5 k3 hk3
        go_wp2_with fail
        go_ret
        exact ⟨rfl, HT.out⟩
      · have en : endM t c 3 got = some { t with call := none } := by rw [HEM.out, hla]; rfl
        rw [en]
        go_enter Tryz.func38, Tryz.ntmps38
        go_wp2_with fail
        go_region_held3 (fun w' => w'.cell? ⟨b, 8, none⟩ = some (.int .i64 c.got) ∧ w'.cell? ⟨b, 5, none⟩ = some (.slice d.rs d.xs.length d.rc) ∧ w'.cell? ⟨b, 7, none⟩ = some (.slice d.ms c.marks.length d.mc)) (first | exact SF.out _ (Soft.refl _ _) | exact SF.out _ (Soft.of0 (Kept.refl _ _).drew) | exact SF.out _ HS5) (first | (go_at_call 48; refine (HCM.out _ (Soft.of0 (Kept.refl _ _).drew)).mono ?_; rintro e w2 ⟨rfl, hs2⟩; have HS5 := (Soft.of0 (κ := κ) (Kept.refl _ w).drew).trans hs2; clear hs2))
        have HS6 := Lib.hid HS5
        clear HS5
        obtain ⟨a1, a2, a3, a4, a5⟩ := HAF.out w2 HS6.out
        go_wp2_with fail
        refine (late_any c d b w2 a3 s0 s1 t0 t1).mono ?_
        rintro e w3 ⟨rfl, hk3⟩
        rw [hla]
        have k3 := a5.trans (Step.of0 (C := fun q => q = 3 ∨ q = 4) hk3 a5.wl)
        have a6 := a4.kept hk3 (fun f => f)
        have x2 : w3.cell? ⟨hg, i * 4 + 2, none⟩ = some (.pointer (some ⟨b, 0, none⟩)) := a6.cell Hh.four HI.out (by rw [show h.cells[2]? = some (.pointer (h.ptr.map fun b => ⟨b, 0, none⟩)) from rfl, HP.out]; rfl)
        have y2 := a6.free (i * 4 + 2)
        have r2 := row_set (h' := { h with ptr := none, breaks := t.breaks }) a6 HI.out 2 (.pointer none) (by omega) (by rw [← HB.out]; rfl)
        have k2 := Step.set (C := fun q => q = 3 ∨ q = 4) k3.wl hg (i * 4 + 2) (.pointer none) (.inl HCOL.out) (by rw [HCOL.out]; omega)
        have HT : Hid (EndTo κ w hg hc hs i h (some { t with call := none }) (w3.setCell ⟨hg, i * 4 + 2, none⟩ (.pointer none))) := Lib.hid ⟨k3.trans k2, fun t' ht => by cases ht; exact r2⟩
        clear a3 a4 a5 a6 r2 k2 k3
        go_wp2_with fail
        go_ret
        exact ⟨rfl, HT.out⟩
    · have en : endM t c res got = some { t with call := none } := by rw [HEM.out]; simp [h2, h3]
      rw [en]
      have j2 : (res == 2) = false := beq_eq_false_iff_ne.2 h2
      have j3 : (res == 3) = false := beq_eq_false_iff_ne.2 h3
      go_enter Tryz.func38, Tryz.ntmps38
      go_wp2_with fail
      go_region_held3 (fun w' => w'.cell? ⟨b, 8, none⟩ = some (.int .i64 c.got) ∧ w'.cell? ⟨b, 5, none⟩ = some (.slice d.rs d.xs.length d.rc) ∧ w'.cell? ⟨b, 7, none⟩ = some (.slice d.ms c.marks.length d.mc)) (first | exact SF.out _ (Soft.refl _ _) | exact SF.out _ (Soft.of0 (Kept.refl _ _).drew) | exact SF.out _ HS5) (first | (go_at_call 48; refine (HCM.out _ (Soft.of0 (Kept.refl _ _).drew)).mono ?_; rintro e w2 ⟨rfl, hs2⟩; have HS5 := (Soft.of0 (κ := κ) (Kept.refl _ w).drew).trans hs2; clear hs2))
      have HS6 := Lib.hid HS5
      clear HS5
      obtain ⟨a1, a2, a3, a4, a5⟩ := HAF.out w2 HS6.out
      have k3 := a5
      have a6 := a4
      have x2 : w2.cell? ⟨hg, i * 4 + 2, none⟩ = some (.pointer (some ⟨b, 0, none⟩)) := a6.cell Hh.four HI.out (by rw [show h.cells[2]? = some (.pointer (h.ptr.map fun b => ⟨b, 0, none⟩)) from rfl, HP.out]; rfl)
      have y2 := a6.free (i * 4 + 2)
      have r2 := row_set (h' := { h with ptr := none, breaks := t.breaks }) a6 HI.out 2 (.pointer none) (by omega) (by rw [← HB.out]; rfl)
      have k2 := Step.set (C := fun q => q = 3 ∨ q = 4) k3.wl hg (i * 4 + 2) (.pointer none) (.inl HCOL.out) (by rw [HCOL.out]; omega)
      have HT : Hid (EndTo κ w hg hc hs i h (some { t with call := none }) (w2.setCell ⟨hg, i * 4 + 2, none⟩ (.pointer none))) := Lib.hid ⟨k3.trans k2, fun t' ht => by cases ht; exact r2⟩
      clear a3 a4 a5 a6 r2 k2 k3
      go_wp2_with fail
      go_ret
      exact ⟨rfl, HT.out⟩

end Go.Proofs.YtbodlaiakcoabaaGreatDoor
end
section
namespace Go.Proofs.YtbodlaiakcoabaaGreatDoor
open Go.RowKit
set_option linter.unusedSimpArgs false
set_option linter.unusedVariables false
set_option maxRecDepth 100000

/-- A thread that stands otherwise. -/
theorem In.thread {C : Nat → Prop} {B p : Nat} {κ κ' : Nat → Nat} {w w' : World} {σ : St} {m : Mem} (q : In B p κ w σ m) (i : Nat) (k : Step C κ κ' w w') (hC : ∀ c, C c → c = 3 ∨ c = 4 ∨ c = 5 + 2 * i ∨ c = 6 + 2 * i)
    (h' : Hh) (t' : Tr) (hR : Row w' m.hg m.hc 60 4 Hh.cells (m.hs.set i h')) (ht : ThAt B κ' w' i h' t') : In B p κ' w' { σ with threads := σ.threads.set i t' } { m with hs := m.hs.set i h' } := by
  have n0 : ¬ C 0 := fun h => by have := hC 0 h; omega
  have n1 : ¬ C 1 := fun h => by have := hC 1 h; omega
  have n2 : ¬ C 2 := fun h => by have := hC 2 h; omega
  refine ⟨k.wl, k.low q.size q.low, Nat.le_trans q.size k.kept.size, ?_, (k.same p (lt_of_heap q.box)).trans q.pcol, elems_step q.obs k n0 q.size q.low,
    q.things.kept k.kept (by rw [q.tcol]; exact n2), (k.same _ q.things.lt).trans q.tcol, q.same, fun t ht => (q.ws t ht).lat (k.lat n0),
    hR, (k.same _ q.threads.lt).trans q.hcol, by simp [q.hlen], ?_⟩
  · have := k.kept.at_ q.box (by rw [q.pcol]; exact n1)
    simpa using this
  · intro j h t hh hj
    by_cases e : i = j
    · subst e
      have hl1 : i < m.hs.length := by have := (List.getElem?_eq_some_iff.1 hh).1; simpa using this
      have hl2 : i < σ.threads.length := by rw [← q.hlen]; exact hl1
      rw [List.getElem?_set_self hl1] at hh
      rw [List.getElem?_set_self hl2] at hj
      simp only [Option.some.injEq] at hh hj
      subst hh hj; exact ht
    · rw [List.getElem?_set_ne e] at hh hj
      exact (q.th j h t hh hj).step k q.size q.low n0 (fun h => by have := hC _ h; omega) (fun h => by have := hC _ h; omega)
theorem Step.paint {κ : Nat → Nat} {w : World} (hW : Wl κ w) (o : Obj) (q : Nat) (hq : q ≠ 4) : Step (fun _ => False) κ (paint κ w.heap.size q) w (w.alloc o) := by
  refine ⟨(Kept.refl _ _).alloc _, fun b hb => paint_not κ (by omega), fun b hb => ?_, fun b hb => ?_⟩
  · by_cases e : b = w.heap.size
    · subst e; simp
    · rw [paint_not κ e] at hb; have := hW.lt b hb; simp; omega
  · by_cases e : b = w.heap.size
    · subst e; rw [paint_at] at hb; exact absurd hb hq
    · rw [paint_not κ e] at hb
      obtain ⟨u, hu⟩ := hW.hd b hb
      exact ⟨u, ((Kept.refl (fun _ => False) w).alloc o).at0 hu⟩
theorem got_step {κ κ' : Nat → Nat} {w w' : World} (hk : Kept (fun _ => False) w w') (hw : Wl κ' w') (h : κ' = κ ∨ ∃ b, w.heap.size ≤ b ∧ κ' = Go.Proofs.YtbodlaiakcoabaaGreatDoor.paint κ b 4) : Step (fun _ => False) κ κ' w w' := by
  refine ⟨hk, fun b hb => ?_, hw⟩
  rcases h with rfl | ⟨c, hc, rfl⟩
  · rfl
  · exact paint_not κ (by omega)

/-- What begin leaves. -/
def BeginTo (B p : Nat) (r : Option St) (w' : World) : Prop := ∀ σ', r = some σ' → ∃ κ' m', In B p κ' w' σ' m'

theorem begin_nil (B p : Nat) (w' : World) : BeginTo B p none w' := fun σ' h => by cases h
structure ThCells (w : World) (hg i : Nat) (h : Hh) : Prop where
  c0 : w.cell? ⟨hg, i * 4, none⟩ = some (.slice h.p.s h.p.ops.length h.p.cap)
  c1 : w.cell? ⟨hg, i * 4 + 1, none⟩ = some (.int .i64 h.begun)
  c2 : w.cell? ⟨hg, i * 4 + 2, none⟩ = some (.pointer (h.ptr.map fun b => ⟨b, 0, none⟩))
  c3 : w.cell? ⟨hg, i * 4 + 3, none⟩ = some (.int .i64 h.breaks)
theorem th_cells {w : World} {hg hc : Nat} {hs : List Hh} {i : Nat} {h : Hh} (hR : Row w hg hc 60 4 Hh.cells hs) (hi : hs[i]? = some h) : ThCells w hg i h :=
  ⟨hR.cell Hh.four (j := 0) hi rfl, hR.cell Hh.four hi rfl, hR.cell Hh.four hi rfl, hR.cell Hh.four hi rfl⟩
structure WkCells (w : World) (p : Nat) (σ : St) (m : Mem) : Prop where
  c0 : w.cell? ⟨p, 0, none⟩ = some (.slice m.os σ.obs.length m.oc)
  c1 : w.cell? ⟨p, 1, none⟩ = some (.slice (some ⟨m.tg, 0, none⟩) m.tts.length m.tc)
  c2 : w.cell? ⟨p, 2, none⟩ = some (.slice (some ⟨m.hg, 0, none⟩) m.hs.length m.hc)
  c3 : w.cell? ⟨p, 3, none⟩ = some (.int .i64 σ.now)
theorem In.cells {B p : Nat} {κ : Nat → Nat} {w : World} {σ : St} {m : Mem} (q : In B p κ w σ m) : WkCells w p σ m := by
  constructor <;> (rw [cell_at w p _ _ _ q.box]; rfl)

theorem begin_on {σ : St} {i : Nat} {t : Tr} {c : Ca} (h : t.call = some c) : beginM σ i t = none := by unfold beginM; rw [h]
theorem begin_out {σ : St} {i : Nat} {t : Tr} (h : t.ops.length ≤ t.begun) : beginM σ i t = none := by
  unfold beginM
  rw [List.getElem?_eq_none h]
  cases t.call <;> rfl
theorem begin_is {σ : St} {i : Nat} {t : Tr} {op : Cl} (h : t.call = none) (ho : t.ops[t.begun]? = some op) : beginM σ i t = some { σ with threads := σ.threads.set i { t with begun := t.begun + 1, call := some ⟨op, kindAt σ.obs op.obj, σ.now, [], 0, 0, false⟩ } } := by
  unfold beginM; rw [h, ho]

/-- The new call, in its block. -/
structure BegAt (κ κ5 : Nat → Nat) (w5 W6 W2 : World) (i : Nat) (op : Cl) (kd now : Int) (s5 : Option Addr) (c5 : Nat) (xs5 : List Rc) : Prop where
  kp : Kept (fun _ => False) W2 W6
  st : Step (fun _ => False) κ5 (Go.Proofs.YtbodlaiakcoabaaGreatDoor.paint κ5 w5.heap.size (5 + 2 * i)) w5 W6
  at_ : CallAt (Go.Proofs.YtbodlaiakcoabaaGreatDoor.paint κ5 w5.heap.size (5 + 2 * i)) W6 i w5.heap.size ⟨op, kd, now, [], 0, 0, false⟩ ⟨s5, c5, xs5, none, 0⟩
  fr : ∀ g j, g < W2.heap.size → W6.frozen? ⟨g, j, none⟩ = W2.frozen? ⟨g, j, none⟩ ∧ W6.cell? ⟨g, j, none⟩ = W2.cell? ⟨g, j, none⟩
  col : ∀ g, g < W2.heap.size → κ g = 3 → (Go.Proofs.YtbodlaiakcoabaaGreatDoor.paint κ5 w5.heap.size (5 + 2 * i)) g = 3
theorem begin_at {κ κ5 : Nat → Nat} {w5 W6 W2 : World} {i : Nat} {op : Cl} {kd now : Int} {s5 : Option Addr} {c5 : Nat} {xs5 : List Rc} (k5 : Step (fun _ => False) κ κ5 W2 w5) (hr : RowsIn κ5 w5 s5 xs5 (rowsM op.kind op.n kd))
    (hW6 : w5.alloc (.cells ((Ca.mk op kd now [] 0 0 false).box ⟨s5, c5, xs5, none, 0⟩) 125) = W6) : BegAt κ κ5 w5 W6 W2 i op kd now s5 c5 xs5 := by
  subst hW6
  have k6 := Step.paint k5.wl (.cells ((Ca.mk op kd now [] 0 0 false).box ⟨s5, c5, xs5, none, 0⟩) 125) (5 + 2 * i) (by omega)
  have hk : Kept (fun _ => False) W2 (w5.alloc (.cells ((Ca.mk op kd now [] 0 0 false).box ⟨s5, c5, xs5, none, 0⟩) 125)) := k5.kept.tr0 k6.kept
  refine ⟨hk, k6, ⟨heap_new1 _ _, paint_at _ _ _, hr.lat (k6.lat (fun f => f)), World.ownsRow_nil _ _ _ _, fun g hg => by simp [Value.ownBlock] at hg, by simp⟩, fun g j hg => ⟨hk.frozen (p := ⟨g, j, none⟩) hg (fun f => f), hk.cell (p := ⟨g, j, none⟩) hg (fun f => f)⟩, fun g hg h3 => ?_⟩
  rw [paint_not κ5 (by have := k5.kept.size; omega)]
  exact (k5.same g hg).trans h3

set_option maxHeartbeats 4000000 in
theorem begin_any (B p : Nat) (κ : Nat → Nat) (w : World) (σ : St) (m : Mem) (q : In B p κ w σ m) (i : Nat) (hil : i < 8) (h : Hh) (t : Tr) (hi : m.hs[i]? = some h) (ht : σ.threads[i]? = some t) (hb : t.begun ≤ t.ops.length) (hbl : t.ops.length ≤ 1000) (hob : ∀ op ∈ t.ops, 0 ≤ op.obj ∧ op.obj < σ.obs.length) (hbo : σ.obs.length ≤ 1000) :
    Calls Tryz.prog 36 #[.pointer (some ⟨p, 0, none⟩), .pointer (some ⟨m.hg, i * 4, none⟩)] w fun e w' => e = .returned (.bool (beginM σ i t).isSome) ∧ BeginTo B p (beginM σ i t) w' ∧ Kept (fun b => κ b ≠ 0) w w' := by
  have hT := q.th i h t hi ht
  obtain ⟨z0, z1, z2, z3⟩ := th_cells q.threads hi
  rw [hT.ops] at z0
  rw [hT.begun] at z1
  have HB := Lib.hid hb
  have HBL := Lib.hid hbl
  cases hc : t.call with
  | some c =>
    have hcall := hT.call
    rw [hc] at hcall
    obtain ⟨b, hpb⟩ : ∃ b, h.ptr = some b := by
      cases e : h.ptr with
      | none => rw [e] at hcall; exact hcall.elim
      | some b => exact ⟨b, rfl⟩
    rw [hpb] at z2
    have z2' : w.cell? ⟨m.hg, i * 4 + 2, none⟩ = some (.pointer (some ⟨b, 0, none⟩)) := z2
    rw [begin_on hc]
    clear q hT hcall z2 hb hbl hob hbo
    go_enter Tryz.func36, Tryz.ntmps36
    go_wp2_with fail
    go_quiet (fail)
    all_goals go_wp2_with fail
    all_goals go_ret
    all_goals exact ⟨rfl, begin_nil _ _ _, (Kept.refl _ _).drewN _⟩
  | none =>
    have hcall := hT.call
    rw [hc] at hcall
    have hpb : h.ptr = none := by
      cases e : h.ptr with
      | none => rfl
      | some b => rw [e] at hcall; exact hcall.elim
    rw [hpb] at z2
    have z2' : w.cell? ⟨m.hg, i * 4 + 2, none⟩ = some (.pointer none) := z2
    clear z2 hcall
    by_cases hlt : t.begun < t.ops.length
    · obtain ⟨op, hop⟩ : ∃ op, t.ops[t.begun]? = some op := ⟨_, List.getElem?_eq_getElem hlt⟩
      obtain ⟨ob0, ob1⟩ := hob op (List.mem_of_getElem? hop)
      obtain ⟨o, ho⟩ : ∃ o, σ.obs[op.obj.toNat]? = some o := ⟨_, List.getElem?_eq_getElem (by omega)⟩
      have hkd : kindAt σ.obs op.obj = o.kind := by unfold kindAt; rw [ho]; rfl
      have hpo : h.p.ops[t.begun]? = some op := by rw [hT.ops]; exact hop
      rw [begin_is hc hop, hkd]
      have hd : (((t.begun : Nat) : Int) == ((t.ops.length : Nat) : Int)) = false := beq_eq_false_iff_ne.2 (by omega)
      have HQ := Lib.hid q
      have HTT := Lib.hid hT
      have HOP := Lib.hid hop
      have HPO := Lib.hid hpo
      have HO := Lib.hid ho
      have HI := Lib.hid hi
      have HPB := Lib.hid hpb
      clear q hT hop hpo ho hi hpb hkd hob
      go_enter Tryz.func36, Tryz.ntmps36
      go_wp2_with fail
      go_quiet (fail)
      have hk0 : Kept (fun _ => False) w (w.drewN nq) := (Kept.refl _ _).drewN _
      have q1 : In B p κ (w.drewN nq) σ m := HQ.out.step (Step.of0 (C := fun _ => False) hk0 HQ.out.wl) (fun _ f => f.elim)
      generalize w.drewN nq = w1 at *
      have hT1 := q1.th i h t HI.out ht
      obtain ⟨v0, v1, v2, v3⟩ := th_cells q1.threads HI.out
      rw [hT1.ops] at v0
      rw [hT1.begun] at v1
      obtain ⟨g, off, hps, -, y0, y1, y2, y3, y4⟩ := cl_at hT1.el HPO.out
      rw [hps] at v0
      have SFA : Hid (∀ w', Kept (fun _ => False) w1 w' → w'.cell? ⟨m.hg, i * 4, none⟩ = some (.slice (some ⟨g, off, none⟩) t.ops.length h.p.cap) ∧ w'.cell? ⟨m.hg, i * 4 + 1, none⟩ = some (.int .i64 (t.begun : Int)) ∧ w'.cell? ⟨g, off + t.begun * 5, none⟩ = some (.int .i64 op.kind) ∧ w'.cell? ⟨g, off + t.begun * 5 + 1, none⟩ = some (.int .i64 op.obj) ∧ w'.cell? ⟨g, off + t.begun * 5 + 2, none⟩ = some (.int .i64 op.n) ∧ w'.cell? ⟨g, off + t.begun * 5 + 3, none⟩ = some (.int .i64 op.wait) ∧ w'.cell? ⟨g, off + t.begun * 5 + 4, none⟩ = some (.bool op.breaks)) := Lib.hid (fun w' hk => ⟨(hk.cell (World.block_lt_of_cell? _ _ v0) (fun f => f)).trans v0, (hk.cell (World.block_lt_of_cell? _ _ v1) (fun f => f)).trans v1, (hk.cell (World.block_lt_of_cell? _ _ y0) (fun f => f)).trans y0, (hk.cell (World.block_lt_of_cell? _ _ y1) (fun f => f)).trans y1, (hk.cell (World.block_lt_of_cell? _ _ y2) (fun f => f)).trans y2, (hk.cell (World.block_lt_of_cell? _ _ y3) (fun f => f)).trans y3, (hk.cell (World.block_lt_of_cell? _ _ y4) (fun f => f)).trans y4⟩)
      have n0 : (0 : Int) ≤ (t.begun : Int) := by omega
      have n1 : (t.begun : Int) < (t.ops.length : Int) := by omega
      obtain ⟨W1, hW1⟩ : ∃ W1, w1.alloc (.cells #[.int .i64 op.kind, .int .i64 op.obj, .int .i64 op.n, .int .i64 op.wait, .bool op.breaks] 72) = W1 := ⟨_, rfl⟩
      have hk1 : Kept (fun _ => False) w1 W1 := by rw [← hW1]; exact (Kept.refl _ _).alloc _
      have hb1 : W1.heap[w1.heap.size]? = some (.cells #[.int .i64 op.kind, .int .i64 op.obj, .int .i64 op.n, .int .i64 op.wait, .bool op.breaks] 72 (0, 0)) := by rw [← hW1]; exact heap_new1 w1 _
      have q2 : In B p κ W1 σ m := q1.step (Step.of0 (C := fun _ => False) hk1 q1.wl) (fun _ f => f.elim)
      obtain ⟨u0, u1, u2, u3⟩ := th_cells q2.threads HI.out
      rw [(q2.th i h t HI.out ht).begun] at u1
      have f1 := q2.threads.free (i * 4 + 1)
      obtain ⟨W2, hW2⟩ : ∃ W2, W1.setCell ⟨m.hg, i * 4 + 1, none⟩ (.int .i64 ((t.begun : Int) + 1)) = W2 := ⟨_, rfl⟩
      have hne : w1.heap.size ≠ m.hg := by have := q1.threads.lt; omega
      have hb2 : W2.heap[w1.heap.size]? = some (.cells #[.int .i64 op.kind, .int .i64 op.obj, .int .i64 op.n, .int .i64 op.wait, .bool op.breaks] 72 (0, 0)) := by rw [← hW2, heap_setCell_other _ _ _ _ hne]; exact hb1
      have k2 : Step (fun q => q = 3) κ κ W1 W2 := by rw [← hW2]; exact Step.set q2.wl _ _ _ q2.hcol (by rw [q2.hcol]; omega)
      have r2 : Row W2 m.hg m.hc 60 4 Hh.cells (m.hs.set i { h with begun := t.begun + 1 }) := by rw [← hW2]; exact row_set (h' := { h with begun := t.begun + 1 }) q2.threads HI.out 1 _ (by omega) rfl
      have hlh : i < m.hs.length := (List.getElem?_eq_some_iff.1 HI.out).1
      have i2 := List.getElem?_set_self (a := { h with begun := t.begun + 1 }) hlh
      obtain ⟨g2, off2, hos, hg2, x0, -, -⟩ := ob_at q2.obs HO.out
      have HG2 := Lib.hid x0
      have SF : Hid (∀ κ' w', Step (fun q => q = 3) κ κ' W2 w' → w'.cell? ⟨w1.heap.size, 0, none⟩ = some (.int .i64 op.kind) ∧ w'.cell? ⟨w1.heap.size, 1, none⟩ = some (.int .i64 op.obj) ∧ w'.cell? ⟨w1.heap.size, 2, none⟩ = some (.int .i64 op.n) ∧ w'.cell? ⟨w1.heap.size, 3, none⟩ = some (.int .i64 op.wait) ∧ w'.cell? ⟨w1.heap.size, 4, none⟩ = some (.bool op.breaks) ∧ w'.cell? ⟨p, 0, none⟩ = some (.slice (some ⟨g2, off2, none⟩) σ.obs.length m.oc) ∧ w'.cell? ⟨p, 3, none⟩ = some (.int .i64 σ.now) ∧ w'.cell? ⟨g2, off2 + op.obj.toNat * 3, none⟩ = some (.int .i64 o.kind)) := Lib.hid (fun κ' w' hk => by
        have hz : κ w1.heap.size = 0 := Classical.byContradiction fun e => Nat.lt_irrefl _ (q1.wl.lt _ e)
        have hbo := hk.kept.at_ hb2 (by rw [hz]; omega)
        have hpx := hk.kept.at_ (k2.kept.at_ q2.box (by rw [q2.pcol]; omega)) (by rw [q2.pcol]; omega)
        obtain ⟨g3, off3, hos3, hg3, x3, -, -⟩ := ob_at (elems_step (elems_step q2.obs k2 (by omega) q2.size q2.low) hk (by omega) (Nat.le_trans q2.size k2.kept.size) q2.low) HO.out
        rw [hos] at hos3
        simp only [Option.some.injEq, Addr.mk.injEq, and_true] at hos3
        obtain ⟨rfl, rfl⟩ := hos3
        refine ⟨?_, ?_, ?_, ?_, ?_, ?_, ?_, ?_⟩
        · rw [cell_at _ _ 0 _ _ hbo]; rfl
        · rw [cell_at _ _ 1 _ _ hbo]; rfl
        · rw [cell_at _ _ 2 _ _ hbo]; rfl
        · rw [cell_at _ _ 3 _ _ hbo]; rfl
        · rw [cell_at _ _ 4 _ _ hbo]; rfl
        · rw [cell_at _ _ 0 _ _ hpx, hos]; rfl
        · rw [cell_at _ _ 3 _ _ hpx]; rfl
        · exact x3)
      have HQ2 := Lib.hid q2
      have HQ1 := Lib.hid q1
      have HK0 := Lib.hid hk0
      have HK1 := Lib.hid hk1
      have HK2 := Lib.hid k2
      have HR2 := Lib.hid r2
      have HW2 : Hid (Wl κ W2) := Lib.hid k2.wl
      have HS0 : Hid (∀ w', Kept (fun _ => False) W2 w' → Step (fun q => q = 3) κ κ W2 w') := Lib.hid (fun w' hk => Step.of0 hk k2.wl)
      have HL2 : Hid (m.hg < W2.heap.size) := Lib.hid r2.lt
      have hc2 : W2.cell? ⟨m.hg, i * 4 + 2, none⟩ = some (.pointer none) := by
        have := (th_cells r2 i2).c2
        rw [this, HPB.out]; rfl
      have hF2 : W2.frozen? ⟨m.hg, i * 4 + 2, none⟩ = false := r2.free _
      have m0 : (0 : Int) ≤ op.obj := ob0
      have e1 : (t.begun : Int) + 1 ≤ 2000 := by omega
      clear q2 q1 hk0 hk1 k2 r2 hb1 hb2 hT1 i2 hne x0
      obtain ⟨s0, s1, s2, s3, s4, s5, s6, s7⟩ := SF.out κ W2 (Step.refl _ HW2.out)
      go_wp2_with fail
      go_region_held3 (fun w' => w'.cell? ⟨m.hg, i * 4, none⟩ = some (.slice (some ⟨g, off, none⟩) t.ops.length h.p.cap) ∧ w'.cell? ⟨m.hg, i * 4 + 1, none⟩ = some (.int .i64 (t.begun : Int)) ∧ w'.cell? ⟨g, off + t.begun * 5, none⟩ = some (.int .i64 op.kind) ∧ w'.cell? ⟨g, off + t.begun * 5 + 1, none⟩ = some (.int .i64 op.obj) ∧ w'.cell? ⟨g, off + t.begun * 5 + 2, none⟩ = some (.int .i64 op.n) ∧ w'.cell? ⟨g, off + t.begun * 5 + 3, none⟩ = some (.int .i64 op.wait) ∧ w'.cell? ⟨g, off + t.begun * 5 + 4, none⟩ = some (.bool op.breaks)) (first | exact SFA.out _ (Kept.refl _ _) | exact SFA.out _ (Kept.refl _ _).drew | exact SFA.out _ ((Kept.refl _ _).drew.alloc _) | exact SFA.out _ HK1.out | exact SFA.out _ HK1.out.drew) (first | fail)
      all_goals go_wp2_with fail
      go_region_held3 (fun w' => w'.cell? ⟨w1.heap.size, 0, none⟩ = some (.int .i64 op.kind) ∧ w'.cell? ⟨w1.heap.size, 1, none⟩ = some (.int .i64 op.obj) ∧ w'.cell? ⟨w1.heap.size, 2, none⟩ = some (.int .i64 op.n) ∧ w'.cell? ⟨w1.heap.size, 3, none⟩ = some (.int .i64 op.wait) ∧ w'.cell? ⟨w1.heap.size, 4, none⟩ = some (.bool op.breaks) ∧ w'.cell? ⟨p, 0, none⟩ = some (.slice (some ⟨g2, off2, none⟩) σ.obs.length m.oc) ∧ w'.cell? ⟨p, 3, none⟩ = some (.int .i64 σ.now) ∧ w'.cell? ⟨g2, off2 + op.obj.toNat * 3, none⟩ = some (.int .i64 o.kind)) (first | exact SF.out _ _ (Step.refl _ HW2.out) | exact SF.out _ _ (HS0.out _ (Kept.refl _ _).drew.drew) | exact SF.out _ _ HS5 | exact SF.out _ _ HS6 | exact SF.out _ _ HS7) (first | (go_at_call 44; refine (rowsOf_any κ _ (HW2.out.kept0 (Kept.refl _ _).drew.drew) op o.kind).mono ?_; rintro e w5 ⟨κ5, s5, n5, c5, xs5, rfl, hn5, hr5, hk5, hw5, hp5⟩; obtain rfl := hn5; have k5 := got_step (Kept.drewL (Kept.drewL hk5)) hw5 hp5; have HS5 : Step (fun q => q = 3) κ κ5 W2 w5 := k5.mono (fun _ f => f.elim); obtain ⟨W6, hW6⟩ : ∃ W6, w5.alloc (.cells #[.int .i64 op.kind, .int .i64 op.obj, .int .i64 op.n, .int .i64 op.wait, .bool op.breaks, .slice s5 xs5.length c5, .int .i64 σ.now, .slice none 0 0, .int .i64 0, .int .i64 0, .bool false] 125) = W6 := ⟨_, rfl⟩; have H6 : Hid (BegAt κ κ5 w5 W6 W2 i op o.kind σ.now s5 c5 xs5) := Lib.hid (begin_at k5 hr5 hW6); have HS6 := HS5.trans (H6.out.st.mono (D := fun q => q = 3) (fun _ f => f.elim)); have F6 := H6.out.fr m.hg (i * 4 + 2) HL2.out; have hf6 := F6.1.trans hF2; have hc6 := F6.2.trans hc2; have HS7 := HS6.trans (Step.set (C := fun q => q = 3) HS6.wl m.hg (i * 4 + 2) (.pointer (some ⟨w5.heap.size, 0, none⟩)) (H6.out.col _ HL2.out HQ2.out.hcol) (by rw [H6.out.col _ HL2.out HQ2.out.hcol]; omega)); clear k5 hr5 hk5 hw5 hp5))
      have HF : Hid (BeginTo B p (some { σ with threads := σ.threads.set i { t with begun := t.begun + 1, call := some ⟨op, o.kind, σ.now, [], 0, 0, false⟩ } }) (W6.setCell ⟨m.hg, i * 4 + 2, none⟩ (.pointer (some ⟨w5.heap.size, 0, none⟩))) ∧ Kept (fun b => κ b ≠ 0) w (W6.setCell ⟨m.hg, i * 4 + 2, none⟩ (.pointer (some ⟨w5.heap.size, 0, none⟩)))) := Lib.hid (by
        have c3 : (Go.Proofs.YtbodlaiakcoabaaGreatDoor.paint κ5 w5.heap.size (5 + 2 * i)) m.hg = 3 := H6.out.col _ HL2.out HQ2.out.hcol
        have ka := (((Step.of0 (C := fun q => q = 3) HK0.out HQ.out.wl).trans (Step.of0 (C := fun q => q = 3) HK1.out HQ1.out.wl)).trans HK2.out).trans HS7
        have rr := row_set (h' := { h with begun := t.begun + 1, ptr := some w5.heap.size }) (HR2.out.kept H6.out.kp (fun f => f)) (List.getElem?_set_self hlh) 2 (.pointer (some ⟨w5.heap.size, 0, none⟩)) (by omega) rfl
        rw [List.set_set] at rr
        refine ⟨fun σ' e => ?_, ka.kept.mono (fun b _ e => by rw [e]; omega)⟩
        simp only [Option.some.injEq] at e
        subst e
        refine ⟨_, _, HQ.out.thread i ka (fun c e => .inl e) _ _ rr ⟨HTT.out.ops, elems_step HTT.out.el ka (by omega) HQ.out.size HQ.out.low, rfl, HTT.out.breaks, ⟨_, H6.out.at_.step (Step.set (C := fun q => q = 3) H6.out.st.wl m.hg (i * 4 + 2) _ c3 (by rw [c3]; omega)) (by omega) (by omega) (by omega)⟩⟩⟩)
      clear HS7
      all_goals go_wp2_with fail
      go_ret
      exact ⟨rfl, HF.out⟩
    · rw [begin_out (by omega)]
      have hd : (((t.begun : Nat) : Int) == ((t.ops.length : Nat) : Int)) = true := by rw [beq_iff_eq]; omega
      clear q hT hb hbl hob hbo hlt
      go_enter Tryz.func36, Tryz.ntmps36
      go_wp2_with fail
      go_quiet (fail)
      all_goals go_wp2_with fail
      all_goals go_ret
      all_goals exact ⟨rfl, begin_nil _ _ _, (Kept.refl _ _).drewN _⟩

end Go.Proofs.YtbodlaiakcoabaaGreatDoor
end
