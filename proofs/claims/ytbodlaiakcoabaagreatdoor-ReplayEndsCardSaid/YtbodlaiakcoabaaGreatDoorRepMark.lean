/-
  A thing among all, loaded and stored in one step.
  Conditions: the things lie in a row.
  A mark: what stands behind Do, and behind goesOn.
  Conditions: the state lies in memory.
-/
import Derived.Test.YtbodlaiakcoabaaGreatDoorRepBegin
import Derived.Test.YtbodlaiakcoabaaGreatDoorModNew
import Derived.Deep.MidRow
import Derived.Laws.Tables
import Derived.Test.YtbodlaiakcoabaaGreatDoorRepKeep
section
namespace Go.Proofs.YtbodlaiakcoabaaGreatDoor
open Go.RowKit
set_option linter.unusedSimpArgs false
set_option linter.unusedVariables false
set_option maxRecDepth 100000

/-- Fifteen cells. -/
def C15 := { l : List Value // l.length = 15 }
def C15.val' (x : C15) : List Value := x.1
theorem C15.len (x : C15) : x.val'.length = 15 := x.2
def C15.of (t : Tt) : C15 := ⟨t.cells, rfl⟩
theorem flat_c15 (l : List Tt) : flat C15.val' (l.map C15.of) = flat Tt.cells l := by
  unfold flat
  rw [List.flatMap_map]
  rfl
theorem row_c15 {w : World} {g c : Nat} {l : List Tt} : Row w g c 42 15 Tt.cells l ↔ Row w g c 42 15 C15.val' (l.map C15.of) := by
  unfold Row
  rw [List.length_map, flat_c15]
def C15.put (x : C15) (j : Nat) (v : Value) : C15 := ⟨x.1.set j v, by rw [List.length_set]; exact x.2⟩
theorem row15 {w : World} {g c j : Nat} {xs : List C15} {x : C15} (hR : Row w g c 42 15 C15.val' xs) (hj : xs[j]? = some x) (k : Nat) (hk : k < 15) (v : Value) : Row (w.setCell ⟨g, j * 15 + k, none⟩ v) g c 42 15 C15.val' (xs.set j (x.put k v)) :=
  Row.set C15.len hR hj hk rfl
theorem things_set {w : World} {g c j : Nat} {l : List Tt} {t : Tt} (hR : Row w g c 42 15 Tt.cells l) (hj : l[j]? = some t) (y : Th) (s : Option Addr) (cc : Nat) :
    Row (w.setCells g (j * 15) (y.box s cc).toList) g c 42 15 Tt.cells (l.set j ⟨y, s, cc⟩) := by
  have h0 := row_c15.1 hR
  have hlt : j < (l.map C15.of).length := by rw [List.length_map]; exact (List.getElem?_eq_some_iff.1 hj).1
  have e0 : (l.map C15.of)[j]? = some (C15.of t) := by rw [List.getElem?_map, hj]; rfl
  have h1 := row15 h0 e0 0 (by decide) (.int .i64 y.kind)
  have e1 := List.getElem?_set_self (a := ((C15.of t).put 0 (.int .i64 y.kind))) hlt
  have h2 := row15 h1 e1 1 (by decide) (.int .i64 y.n)
  rw [List.set_set] at h2
  have e2 := List.getElem?_set_self (a := (((C15.of t).put 0 (.int .i64 y.kind)).put 1 (.int .i64 y.n))) hlt
  have h3 := row15 h2 e2 2 (by decide) (.int .i64 y.owner)
  rw [List.set_set] at h3
  have e3 := List.getElem?_set_self (a := ((((C15.of t).put 0 (.int .i64 y.kind)).put 1 (.int .i64 y.n)).put 2 (.int .i64 y.owner))) hlt
  have h4 := row15 h3 e3 3 (by decide) (.int .i64 y.holds)
  rw [List.set_set] at h4
  have e4 := List.getElem?_set_self (a := (((((C15.of t).put 0 (.int .i64 y.kind)).put 1 (.int .i64 y.n)).put 2 (.int .i64 y.owner)).put 3 (.int .i64 y.holds))) hlt
  have h5 := row15 h4 e4 4 (by decide) (.int .i64 (y.r 0))
  rw [List.set_set] at h5
  have e5 := List.getElem?_set_self (a := ((((((C15.of t).put 0 (.int .i64 y.kind)).put 1 (.int .i64 y.n)).put 2 (.int .i64 y.owner)).put 3 (.int .i64 y.holds)).put 4 (.int .i64 (y.r 0)))) hlt
  have h6 := row15 h5 e5 5 (by decide) (.int .i64 (y.r 1))
  rw [List.set_set] at h6
  have e6 := List.getElem?_set_self (a := (((((((C15.of t).put 0 (.int .i64 y.kind)).put 1 (.int .i64 y.n)).put 2 (.int .i64 y.owner)).put 3 (.int .i64 y.holds)).put 4 (.int .i64 (y.r 0))).put 5 (.int .i64 (y.r 1)))) hlt
  have h7 := row15 h6 e6 6 (by decide) (.int .i64 (y.r 2))
  rw [List.set_set] at h7
  have e7 := List.getElem?_set_self (a := ((((((((C15.of t).put 0 (.int .i64 y.kind)).put 1 (.int .i64 y.n)).put 2 (.int .i64 y.owner)).put 3 (.int .i64 y.holds)).put 4 (.int .i64 (y.r 0))).put 5 (.int .i64 (y.r 1))).put 6 (.int .i64 (y.r 2)))) hlt
  have h8 := row15 h7 e7 7 (by decide) (.int .i64 (y.r 3))
  rw [List.set_set] at h8
  have e8 := List.getElem?_set_self (a := (((((((((C15.of t).put 0 (.int .i64 y.kind)).put 1 (.int .i64 y.n)).put 2 (.int .i64 y.owner)).put 3 (.int .i64 y.holds)).put 4 (.int .i64 (y.r 0))).put 5 (.int .i64 (y.r 1))).put 6 (.int .i64 (y.r 2))).put 7 (.int .i64 (y.r 3)))) hlt
  have h9 := row15 h8 e8 8 (by decide) (.int .i64 (y.r 4))
  rw [List.set_set] at h9
  have e9 := List.getElem?_set_self (a := ((((((((((C15.of t).put 0 (.int .i64 y.kind)).put 1 (.int .i64 y.n)).put 2 (.int .i64 y.owner)).put 3 (.int .i64 y.holds)).put 4 (.int .i64 (y.r 0))).put 5 (.int .i64 (y.r 1))).put 6 (.int .i64 (y.r 2))).put 7 (.int .i64 (y.r 3))).put 8 (.int .i64 (y.r 4)))) hlt
  have h10 := row15 h9 e9 9 (by decide) (.int .i64 (y.r 5))
  rw [List.set_set] at h10
  have e10 := List.getElem?_set_self (a := (((((((((((C15.of t).put 0 (.int .i64 y.kind)).put 1 (.int .i64 y.n)).put 2 (.int .i64 y.owner)).put 3 (.int .i64 y.holds)).put 4 (.int .i64 (y.r 0))).put 5 (.int .i64 (y.r 1))).put 6 (.int .i64 (y.r 2))).put 7 (.int .i64 (y.r 3))).put 8 (.int .i64 (y.r 4))).put 9 (.int .i64 (y.r 5)))) hlt
  have h11 := row15 h10 e10 10 (by decide) (.int .i64 (y.r 6))
  rw [List.set_set] at h11
  have e11 := List.getElem?_set_self (a := ((((((((((((C15.of t).put 0 (.int .i64 y.kind)).put 1 (.int .i64 y.n)).put 2 (.int .i64 y.owner)).put 3 (.int .i64 y.holds)).put 4 (.int .i64 (y.r 0))).put 5 (.int .i64 (y.r 1))).put 6 (.int .i64 (y.r 2))).put 7 (.int .i64 (y.r 3))).put 8 (.int .i64 (y.r 4))).put 9 (.int .i64 (y.r 5))).put 10 (.int .i64 (y.r 6)))) hlt
  have h12 := row15 h11 e11 11 (by decide) (.int .i64 (y.r 7))
  rw [List.set_set] at h12
  have e12 := List.getElem?_set_self (a := (((((((((((((C15.of t).put 0 (.int .i64 y.kind)).put 1 (.int .i64 y.n)).put 2 (.int .i64 y.owner)).put 3 (.int .i64 y.holds)).put 4 (.int .i64 (y.r 0))).put 5 (.int .i64 (y.r 1))).put 6 (.int .i64 (y.r 2))).put 7 (.int .i64 (y.r 3))).put 8 (.int .i64 (y.r 4))).put 9 (.int .i64 (y.r 5))).put 10 (.int .i64 (y.r 6))).put 11 (.int .i64 (y.r 7)))) hlt
  have h13 := row15 h12 e12 12 (by decide) (.slice s y.ws.length cc)
  rw [List.set_set] at h13
  have e13 := List.getElem?_set_self (a := ((((((((((((((C15.of t).put 0 (.int .i64 y.kind)).put 1 (.int .i64 y.n)).put 2 (.int .i64 y.owner)).put 3 (.int .i64 y.holds)).put 4 (.int .i64 (y.r 0))).put 5 (.int .i64 (y.r 1))).put 6 (.int .i64 (y.r 2))).put 7 (.int .i64 (y.r 3))).put 8 (.int .i64 (y.r 4))).put 9 (.int .i64 (y.r 5))).put 10 (.int .i64 (y.r 6))).put 11 (.int .i64 (y.r 7))).put 12 (.slice s y.ws.length cc))) hlt
  have h14 := row15 h13 e13 13 (by decide) (.int .i64 y.offer)
  rw [List.set_set] at h14
  have e14 := List.getElem?_set_self (a := (((((((((((((((C15.of t).put 0 (.int .i64 y.kind)).put 1 (.int .i64 y.n)).put 2 (.int .i64 y.owner)).put 3 (.int .i64 y.holds)).put 4 (.int .i64 (y.r 0))).put 5 (.int .i64 (y.r 1))).put 6 (.int .i64 (y.r 2))).put 7 (.int .i64 (y.r 3))).put 8 (.int .i64 (y.r 4))).put 9 (.int .i64 (y.r 5))).put 10 (.int .i64 (y.r 6))).put 11 (.int .i64 (y.r 7))).put 12 (.slice s y.ws.length cc)).put 13 (.int .i64 y.offer))) hlt
  have h15 := row15 h14 e14 14 (by decide) (.int .i64 y.item)
  rw [List.set_set] at h15
  have e15 := List.getElem?_set_self (a := ((((((((((((((((C15.of t).put 0 (.int .i64 y.kind)).put 1 (.int .i64 y.n)).put 2 (.int .i64 y.owner)).put 3 (.int .i64 y.holds)).put 4 (.int .i64 (y.r 0))).put 5 (.int .i64 (y.r 1))).put 6 (.int .i64 (y.r 2))).put 7 (.int .i64 (y.r 3))).put 8 (.int .i64 (y.r 4))).put 9 (.int .i64 (y.r 5))).put 10 (.int .i64 (y.r 6))).put 11 (.int .i64 (y.r 7))).put 12 (.slice s y.ws.length cc)).put 13 (.int .i64 y.offer)).put 14 (.int .i64 y.item))) hlt
  refine row_c15.2 ?_
  rw [List.map_set]
  exact h15
theorem setCells_kept (g : Nat) : ∀ (vs : List Value) (o : Nat) (w : World), Kept (fun k => k = g) w (w.setCells g o vs)
  | [], o, w => Kept.refl _ _
  | v :: vs, o, w => ((Kept.refl (fun k => k = g) w).setCell ⟨g, o, none⟩ v (fun _ => rfl)).trans (setCells_kept g vs (o + 1) _) (fun _ _ e => e)
theorem setCells_wl {κ : Nat → Nat} {g : Nat} (h4 : κ g ≠ 4) : ∀ (vs : List Value) (o : Nat) (w : World), Wl κ w → Wl κ (w.setCells g o vs)
  | [], o, w, h => h
  | v :: vs, o, w, h => setCells_wl h4 vs (o + 1) _ (Step.set (C := fun q => q = κ g) h g o v rfl h4).wl
theorem thing_range {w : World} {g c j : Nat} {l : List Tt} {t : Tt} (hR : Row w g c 42 15 Tt.cells l) (hj : l[j]? = some t) : w.rangeAt g (j * 15) (t.x.box t.s t.c).toList :=
  fun k v hv => hR.cell Tt.fifteen hj hv
theorem thing_there {w : World} {g c j : Nat} {l : List Tt} {t : Tt} (hR : Row w g c 42 15 Tt.cells l) (hj : l[j]? = some t) : w.there g (j * 15) 15 := fun k hk => by
  obtain ⟨v, hv⟩ : ∃ v, t.cells[k]? = some v := ⟨_, List.getElem?_eq_getElem (by rw [Tt.fifteen]; exact hk)⟩
  exact ⟨by rw [hR.cell Tt.fifteen hj hv]; rfl, hR.free _⟩
theorem und_thing : ∃ d, Tryz.prog.underlying 42 = some d ∧ d.isRow = true := ⟨_, Tryz.underlying42, rfl⟩
theorem info_thing : (Tryz.prog.info? 42).map (·.size) = some 15 := by kernel_rfl
theorem box_all (x : Th) (s : Option Addr) (c : Nat) : (x.box s c).all (·.oneCell') = true := by
  rw [Array.all_eq_true_iff_forall_mem]
  intro v hv
  simp only [List.mem_toArray, List.mem_cons, List.not_mem_nil, or_false] at hv
  rcases hv with h | h | h | h | h | h | h | h | h | h | h | h | h | h | h <;> subst h <;> rfl
section
variable {ops : Array Oper} {rest : List Oper} {o : Oper} {a : Act} {w : World} {Q : Exit → Act → World → Prop} {g c j : Nat} {l : List Tt} {t : Tt}
theorem wpList_load15 (hgd : o.guard = none) {p : Operand} (ho : o.op = .load 42 p) (hp : a.eval p = .pointer (some ⟨g, j * 15, none⟩)) (hR : Row w g c 42 15 Tt.cells l) (hj : l[j]? = some t)
    (h : wpList Tryz.prog ops Q rest (a.put o.dst (t.x.agg t.s t.c)) w) : wpList Tryz.prog ops Q (o :: rest) a w := by
  obtain ⟨d, hu, hd⟩ := und_thing
  exact wpList_load_mid hgd _ p ho g (j * 15) hp _ d (thing_range hR hj) hu hd info_thing h
theorem wpList_store15 (hgd : o.guard = none) {p v : Operand} (ho : o.op = .store 42 p v) (hp : a.eval p = .pointer (some ⟨g, j * 15, none⟩)) {y : Th} {s : Option Addr} {cc : Nat} (hv : a.eval v = y.agg s cc) (hR : Row w g c 42 15 Tt.cells l) (hj : l[j]? = some t)
    (h : ∀ W, Row W g c 42 15 Tt.cells (l.set j ⟨y, s, cc⟩) → Kept (fun k => k = g) w W → (∀ κ : Nat → Nat, κ g ≠ 4 → Wl κ w → Wl κ W) → wpList Tryz.prog ops Q rest (a.put o.dst undef) W) : wpList Tryz.prog ops Q (o :: rest) a w :=
  wpList_store_mid hgd _ p v ho g (j * 15) (y.box s cc) hp hv (thing_there hR hj) info_thing (box_all y s cc)
    (h _ (things_set hR hj y s cc) (setCells_kept g _ _ _) (fun κ h4 hW => setCells_wl h4 _ _ _ hW))
end

end Go.Proofs.YtbodlaiakcoabaaGreatDoor
end
section
namespace Go.Proofs.YtbodlaiakcoabaaGreatDoor
open Go.RowKit
set_option linter.unusedSimpArgs false
set_option linter.unusedVariables false
set_option maxRecDepth 100000

theorem box_fresh (w : World) : BoxT (w.alloc (.cells #[.int .i64 0, .int .i64 0, .int .i64 0, .int .i64 0, .int .i64 0, .int .i64 0, .int .i64 0, .int .i64 0, .int .i64 0, .int .i64 0, .int .i64 0, .int .i64 0, .slice none 0 0, .int .i64 0, .int .i64 0] 42)) w.heap.size ⟨0, 0, 0, 0, fun _ => 0, [], 0, 0⟩ none 0 := heap_new1 w _
theorem kept_past {w w6 W : World} {ob : Obj} (hk : Kept (fun _ => False) (w.alloc ob) w6) (hS : Kept (fun k => k = w.heap.size) w6 W) : Kept (fun _ => False) w W := by
  have h1 : Kept (fun k => k = w.heap.size) w W := ((((Kept.refl (fun _ => False) w).alloc ob).tr0 hk).mono (T := fun k => k = w.heap.size) (fun _ _ f => f.elim)).trans hS (fun _ _ e => e)
  exact ⟨h1.os, h1.tape, h1.output, h1.size, fun k hk _ => h1.block k hk (Nat.ne_of_lt hk)⟩
theorem new_q {κ : Nat → Nat} {w0 w : World} {W : Nat} {s : Option Addr} {c : Nat} {ws : List Wt} (h : NewW W w s c ws) (hW : Wl κ w0) (hB : w0.heap.size ≤ W) : ElemsQ (fun g => κ g = 0) w s 2 Wt.cells ws :=
  ⟨h.el.1, fun i x hx => by
    have hne : ws ≠ [] := by rintro rfl; simp at hx
    obtain ⟨g, hs, h1, h2, _⟩ := h.nw hne
    obtain ⟨g', off, e, hb, hc⟩ := h.el.2 i x hx
    rw [hs] at e
    simp only [Option.some.injEq, Addr.mk.injEq, and_true] at e
    obtain ⟨rfl, rfl⟩ := e
    exact ⟨g, 0, hs, ⟨h2, Classical.byContradiction fun hn => by have := hW.lt g hn; omega⟩, hc⟩⟩
theorem new_q2 {κ : Nat → Nat} {w0 w6 W : World} {ob : Obj} {s : Option Addr} {c : Nat} {ws : List Wt} (h : NewW (w0.alloc ob).heap.size w6 s c ws) (hW : Wl κ w0) (hS : Kept (fun k => k = w0.heap.size) w6 W) : ElemsQ (fun g => κ g = 0) W s 2 Wt.cells ws :=
  new_q (h.kept hS (fun g hg e => by simp at hg; omega)) hW (by simp)
theorem new_q3 {κ : Nat → Nat} {w0 w6 : World} {ob : Obj} {s : Option Addr} {c : Nat} {ws : List Wt} (h : NewW w0.heap.size w6 s c ws) (hW : Wl κ w0) : ElemsQ (fun g => κ g = 0) (w6.alloc ob) s 2 Wt.cells ws :=
  new_q (h.kept ((Kept.refl (fun _ => False) w6).alloc ob) (fun _ _ f => f)) hW (Nat.le_refl _)
/-- A call that stands otherwise. -/
theorem In.note {B p : Nat} {κ κ' : Nat → Nat} {w w' : World} {σ : St} {m : Mem} {C : Nat → Prop} (q : In B p κ w σ m) (i : Nat) (k : Step C κ κ' w w') (hC : ∀ c, C c → c = 4 ∨ c = 5 + 2 * i ∨ c = 6 + 2 * i) {h : Hh} {t : Tr} {b : Nat} (hi : m.hs[i]? = some h) (ht : σ.threads[i]? = some t) (hp : h.ptr = some b) (c' : Ca) (hc : ∃ d, CallAt κ' w' i b c' d) :
    In B p κ' w' { σ with threads := σ.threads.set i { t with call := some c' } } m := by
  have n0 : ¬ C 0 := fun h => by have := hC 0 h; omega
  have n3 : ¬ C 3 := fun h => by have := hC 3 h; omega
  have hT := q.th i h t hi ht
  have hl := (List.getElem?_eq_some_iff.1 hi).1
  have hs : m.hs.set i h = m.hs := by
    apply List.ext_getElem?
    intro j
    by_cases e : i = j
    · subst e; rw [List.getElem?_set_self hl]; exact hi.symm
    · rw [List.getElem?_set_ne e]
  have r := q.thread i k (fun c e => .inr (hC c e)) h { t with call := some c' } (by rw [hs]; exact q.threads.kept k.kept (by rw [q.hcol]; exact n3))
    ⟨hT.ops, elems_step hT.el k n0 q.size q.low, hT.begun, hT.breaks, by rw [hp]; exact hc⟩
  rw [hs] at r
  exact r
/-- A thing that stands otherwise. -/
theorem In.thing {B p : Nat} {κ : Nat → Nat} {w w' : World} {σ : St} {m : Mem} (q : In B p κ w σ m) (j : Nat) (y : Th) (s : Option Addr) (c : Nat) (hR : Row w' m.tg m.tc 42 15 Tt.cells (m.tts.set j ⟨y, s, c⟩)) (hk : Kept (fun k => k = m.tg) w w') (hW : Wl κ w') (hE : ElemsQ (fun g => κ g = 0) w s 2 Wt.cells y.ws) :
    In B p κ w' { σ with things := σ.things.set j y } { m with tts := m.tts.set j ⟨y, s, c⟩ } := by
  have hk' : Kept (fun b => κ b = 2) w w' := hk.mono (fun b _ e => by rw [e]; exact q.tcol)
  have k : Step (fun q => q = 2) κ κ w w' := ⟨hk', fun _ _ => rfl, hW⟩
  refine ⟨hW, q.low, Nat.le_trans q.size hk.size, ?_, q.pcol, elems_step q.obs k (by omega) q.size q.low, hR, q.tcol, by rw [List.map_set, q.same], fun t ht => ?_, q.threads.kept hk' (by rw [q.hcol]; omega), q.hcol, q.hlen,
    fun i h t hh hi => (q.th i h t hh hi).step k q.size q.low (by omega) (by omega) (by omega)⟩
  · have := hk'.at_ q.box (by rw [q.pcol]; omega)
    simpa using this
  · rcases List.mem_or_eq_of_mem_set ht with ht | rfl
    · exact (q.ws t ht).lat (k.lat (by omega))
    · exact hE.lat (k.lat (by omega))
section
variable {ops : Array Oper} {rest : List Oper} {o : Oper} {a : Act} {w : World} {Q : Exit → Act → World → Prop} {b c : Nat} {x : Th} {s : Option Addr}
theorem wpList_loadB (hgd : o.guard = none) {p : Operand} (ho : o.op = .load 42 p) (hp : a.eval p = .pointer (some ⟨b, 0, none⟩)) (hB : BoxT w b x s c)
    (h : wpList Tryz.prog ops Q rest (a.put o.dst (x.agg s c)) w) : wpList Tryz.prog ops Q (o :: rest) a w := by
  obtain ⟨d, hu, hd⟩ := und_thing
  exact wpList_load_mid hgd _ p ho b 0 hp (x.box s c).toList d (fun j v hv => by rw [Nat.zero_add, cell_at w b j _ _ hB, ← hv, Array.getElem?_toList]) hu hd info_thing h
end
structure Th15 (w : World) (g j : Nat) (tt : Tt) : Prop where
  c0 : w.cell? ⟨g, j * 15, none⟩ = some (.int .i64 tt.x.kind)
  c1 : w.cell? ⟨g, j * 15 + 1, none⟩ = some (.int .i64 tt.x.n)
  c2 : w.cell? ⟨g, j * 15 + 2, none⟩ = some (.int .i64 tt.x.owner)
  c3 : w.cell? ⟨g, j * 15 + 3, none⟩ = some (.int .i64 tt.x.holds)
  c4 : w.cell? ⟨g, j * 15 + 4, none⟩ = some (.int .i64 (tt.x.r 0))
  c5 : w.cell? ⟨g, j * 15 + 5, none⟩ = some (.int .i64 (tt.x.r 1))
  c6 : w.cell? ⟨g, j * 15 + 6, none⟩ = some (.int .i64 (tt.x.r 2))
  c7 : w.cell? ⟨g, j * 15 + 7, none⟩ = some (.int .i64 (tt.x.r 3))
  c8 : w.cell? ⟨g, j * 15 + 8, none⟩ = some (.int .i64 (tt.x.r 4))
  c9 : w.cell? ⟨g, j * 15 + 9, none⟩ = some (.int .i64 (tt.x.r 5))
  c10 : w.cell? ⟨g, j * 15 + 10, none⟩ = some (.int .i64 (tt.x.r 6))
  c11 : w.cell? ⟨g, j * 15 + 11, none⟩ = some (.int .i64 (tt.x.r 7))
  c12 : w.cell? ⟨g, j * 15 + 12, none⟩ = some (.slice tt.s tt.x.ws.length tt.c)
  c13 : w.cell? ⟨g, j * 15 + 13, none⟩ = some (.int .i64 tt.x.offer)
  c14 : w.cell? ⟨g, j * 15 + 14, none⟩ = some (.int .i64 tt.x.item)
theorem th15 {w : World} {g c j : Nat} {l : List Tt} {tt : Tt} (hR : Row w g c 42 15 Tt.cells l) (hj : l[j]? = some tt) : Th15 w g j tt := by
  exact ⟨hR.cell Tt.fifteen (j := 0) hj rfl, hR.cell Tt.fifteen (j := 1) hj rfl, hR.cell Tt.fifteen (j := 2) hj rfl, hR.cell Tt.fifteen (j := 3) hj rfl, hR.cell Tt.fifteen (j := 4) hj rfl, hR.cell Tt.fifteen (j := 5) hj rfl, hR.cell Tt.fifteen (j := 6) hj rfl, hR.cell Tt.fifteen (j := 7) hj rfl, hR.cell Tt.fifteen (j := 8) hj rfl, hR.cell Tt.fifteen (j := 9) hj rfl, hR.cell Tt.fifteen (j := 10) hj rfl, hR.cell Tt.fifteen (j := 11) hj rfl, hR.cell Tt.fifteen (j := 12) hj rfl, hR.cell Tt.fifteen (j := 13) hj rfl, hR.cell Tt.fifteen (j := 14) hj rfl⟩

end Go.Proofs.YtbodlaiakcoabaaGreatDoor
end
