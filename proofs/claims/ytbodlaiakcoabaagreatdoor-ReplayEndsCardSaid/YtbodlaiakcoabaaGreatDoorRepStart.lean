/-
  How all stand ahead of all events: start.
  Conditions: the script lies in memory, and may be.
-/
import Derived.Test.YtbodlaiakcoabaaGreatDoorRepBegin
import Derived.Test.YtbodlaiakcoabaaGreatDoorModNew
import Derived.LoopTactic
import Derived.Deep.RegionLaw
namespace Go.Proofs.YtbodlaiakcoabaaGreatDoor
open Go.RowKit
set_option linter.unusedSimpArgs false
set_option linter.unusedVariables false
set_option maxRecDepth 100000

/-- A new thing, in memory. -/
def newT (o : Ob) : Tt := ⟨newM o.kind o.n, none, 0⟩
/-- A new thread, in memory. -/
def newH (p : Pr) : Hh := ⟨p, 0, none, 0⟩
theorem tt_cell (xs : List Tt) : ∀ u ∈ flat Tt.cells xs, u.oneCell' = true := by
  intro u hu
  simp only [flat, List.mem_flatMap, Tt.cells, List.mem_cons, List.not_mem_nil, or_false] at hu
  obtain ⟨x, _, h | h | h | h | h | h | h | h | h | h | h | h | h | h | h⟩ := hu <;> subst h <;> rfl
theorem info_tt : (Tryz.prog.info? 42).map (fun i => (i.zero, i.size, i.bytes)) = some (some (.agg #[.int .i64 0, .int .i64 0, .int .i64 0, .int .i64 0, .int .i64 0, .int .i64 0, .int .i64 0, .int .i64 0, .int .i64 0, .int .i64 0, .int .i64 0, .int .i64 0, .slice none 0 0, .int .i64 0, .int .i64 0]), 15, 136) := by kernel_rfl
theorem hh_cell (xs : List Hh) : ∀ u ∈ flat Hh.cells xs, u.oneCell' = true := by
  intro u hu
  simp only [flat, List.mem_flatMap, Hh.cells, List.mem_cons, List.not_mem_nil, or_false] at hu
  obtain ⟨x, _, h | h | h | h⟩ := hu <;> subst h <;> rfl
theorem info_hh : (Tryz.prog.info? 60).map (fun i => (i.zero, i.size, i.bytes)) = some (some (.agg #[.slice none 0 0, .int .i64 0, .pointer none, .int .i64 0]), 4, 48) := by kernel_rfl

theorem own_shape {w : World} {B : Nat} {e : TypeId} {m n : Nat} {v : Value} {xs : List Value} (h : w.ownsRow B e m v n xs) (hn : 0 < n) : ∃ g c, v = .slice (some ⟨g, 0, none⟩) n c ∧ B ≤ g ∧ g < w.heap.size := by
  rcases h.2 with ⟨_, h0⟩ | ⟨g, cap, cur, hv, hb, hg, _⟩
  · omega
  · exact ⟨g, cap, hv, hb, lt_of_heap hg⟩
theorem own_on {S : Nat → Prop} {w w' : World} {B : Nat} {e : TypeId} {m n : Nat} {v : Value} {xs : List Value} (h : w.ownsRow B e m v n xs) (hk : Kept S w w') (hS : ∀ g, v.ownBlock = some g → ¬ S g) : w'.ownsRow B e m v n xs := by
  refine ⟨h.1, ?_⟩
  rcases h.2 with h2 | ⟨g, cap, cur, rfl, hb, hg, rest⟩
  · exact .inl h2
  · exact .inr ⟨g, cap, cur, rfl, hb, hk.at_ hg (hS g rfl), rest⟩
/-- A call of a Go function by its contract, in a region that draws. -/
theorem step_call {ops : Array Oper} {o : Oper} {a : Act} {K : Act → World → Prop} {Q : Exit → Act → World → Prop} {E : Prop} {w : World} (hgd : o.guard = none) (f : FuncId) (args : Array Value) (hrun : (execOp a.eval o).run Tryz.prog w = .ok (.enter f args) w) {P : Value → World → Prop} {R : Ending → World → Prop} (hc : Calls Tryz.prog f args w R) (hR : ∀ e w', R e w' → ∃ v, e = .returned v ∧ P v w')
    (h : ∀ v w', P v w' → K (a.put o.dst v) w') : if Region.wanted o (yielded ops a.tmps) = true then Oper.wp Tryz.prog o a w K Q else E := by
  rw [if_pos (by simp [Region.wanted, hgd])]
  unfold Oper.wp
  rw [hrun, Oper.upon_enter]
  refine hc.mono fun e w'' hh => ?_
  obtain ⟨v, rfl, hv⟩ := hR e w'' hh
  exact h v w'' hv
section
variable {ops : Array Oper} {rest : List Oper} {o : Oper} {a : Act} {K : Act → World → Prop} {Q : Exit → Act → World → Prop} {E : Prop} {w : World}
theorem step_tt (hgd : o.guard = none) (s x : Operand) (ho : o.op = .call { callee := .builtin .append, args := #[s, x], argTypes := #[30, 30] })
    {v1 : Value} {g W n : Nat} {ts : List Tt} {t : Tt} (hs : a.eval s = v1) (hx : a.eval x = .slice (some ⟨g, 0, none⟩) 1 1) (h : w.ownsRow W 42 15 v1 n (flat Tt.cells ts)) (hf : n ≤ 1000) (hE : Elems w w.heap.size (some ⟨g, 0, none⟩) 15 Tt.cells [t]) (hW : W ≤ w.heap.size)
    (hK : ∀ g' c' w', w'.ownsRow W 42 15 (.slice (some ⟨g', 0, none⟩) (n + 1) c') (n + 1) (flat Tt.cells (ts ++ [t])) → Kept (fun k => v1.ownBlock = some k) w w' → K (a.put o.dst (.slice (some ⟨g', 0, none⟩) (n + 1) c')) w') :
    if Region.wanted o (yielded ops a.tmps) = true then Oper.wp Tryz.prog o a w K Q else E := by
  obtain ⟨i0, hi, hz0, hz1, hz2⟩ := info_parts info_tt
  refine step_append_elems (f := Tt.cells) (ys := [t]) w hgd s x 30 ho W 42 i0 (.agg #[.int .i64 0, .int .i64 0, .int .i64 0, .int .i64 0, .int .i64 0, .int .i64 0, .int .i64 0, .int .i64 0, .int .i64 0, .int .i64 0, .int .i64 0, .int .i64 0, .slice none 0 0, .int .i64 0, .int .i64 0]) 15 136 Tryz.underlying30 hi hz0 hz1 hz2 rfl (by decide) Tt.fifteen (tt_cell _) v1 n (flat Tt.cells ts) hs h w.heap.size _ 1 hx hE (by show n + 1 ≤ maxLen; unfold maxLen; omega) (by show (n + 1) * 136 ≤ _; omega) hW ?_
  intro v' w6 h1 h2 h3
  rw [← flat_append] at h1
  obtain ⟨g', c', rfl, _, _⟩ := own_shape h1 (by simp)
  exact hK g' c' w6 h1 ((Kept.refl _ _).grown h2 (fun k _ e => e))
theorem wpList_hh (hgd : o.guard = none) (s x : Operand) (ho : o.op = .call { callee := .builtin .append, args := #[s, x], argTypes := #[55, 55] })
    {v1 : Value} {g W n : Nat} {ts : List Hh} {t : Hh} (hs : a.eval s = v1) (hx : a.eval x = .slice (some ⟨g, 0, none⟩) 1 1) (h : w.ownsRow W 60 4 v1 n (flat Hh.cells ts)) (hf : n ≤ 1000) (hE : Elems w w.heap.size (some ⟨g, 0, none⟩) 4 Hh.cells [t]) (hW : W ≤ w.heap.size)
    (hK : ∀ g' c' w', w'.ownsRow W 60 4 (.slice (some ⟨g', 0, none⟩) (n + 1) c') (n + 1) (flat Hh.cells (ts ++ [t])) → Kept (fun k => v1.ownBlock = some k) w w' → wpList Tryz.prog ops Q rest (a.put o.dst (.slice (some ⟨g', 0, none⟩) (n + 1) c')) w') : wpList Tryz.prog ops Q (o :: rest) a w := by
  obtain ⟨i0, hi, hz0, hz1, hz2⟩ := info_parts info_hh
  refine wpList_append_elems (f := Hh.cells) (ys := [t]) w hgd s x 55 ho W 60 i0 (.agg #[.slice none 0 0, .int .i64 0, .pointer none, .int .i64 0]) 4 48 Tryz.underlying55 hi hz0 hz1 hz2 rfl (by decide) Hh.four (hh_cell _) v1 n (flat Hh.cells ts) hs h w.heap.size _ 1 hx hE (by show n + 1 ≤ maxLen; unfold maxLen; omega) (by show (n + 1) * 48 ≤ _; omega) hW ?_
  intro v' w6 h1 h2 h3
  rw [← flat_append] at h1
  obtain ⟨g', c', rfl, _, _⟩ := own_shape h1 (by simp)
  exact hK g' c' w6 h1 ((Kept.refl _ _).grown h2 (fun k _ e => e))
end

/-- The walk under way: block p, its things and threads. -/
structure Wk (W p : Nat) (os : Value) (w : World) (v1 v2 : Value) (ts : List Tt) (hs : List Hh) : Prop where
  box : w.heap[p]? = some (.cells #[os, v1, v2, .int .i64 0] 57 (0, 0))
  ts : w.ownsRow (p + 1) 42 15 v1 ts.length (flat Tt.cells ts)
  hs : w.ownsRow (p + 1) 60 4 v2 hs.length (flat Hh.cells hs)

theorem own_apart {w : World} {B e e2 n n2 m m2 : Nat} {v v2 : Value} {xs ys : List Value} (h : w.ownsRow B e m v n xs) (k : w.ownsRow B e2 m2 v2 n2 ys) (hne : e ≠ e2) : v.ownBlock = none ∨ ∃ g, v.ownBlock = some g ∧ v2.ownBlock ≠ some g := by
  rcases h.2 with ⟨rfl, _⟩ | ⟨g, cap, cur, rfl, hb, hg, _⟩
  · exact .inl rfl
  · refine .inr ⟨g, rfl, fun e => ?_⟩
    rcases k.2 with ⟨rfl, _⟩ | ⟨g2, cap2, cur2, rfl, hb2, hg2, _⟩
    · simp [Value.ownBlock] at e
    · have e2 : g2 = g := by simpa [Value.ownBlock] using e
      subst e2
      rw [hg] at hg2
      simp only [Option.some.injEq, Obj.cells.injEq] at hg2
      exact hne hg2.2.1
/-- What start leaves. -/
def StartTo (x : Sc) (w : World) (p : Nat) (w' : World) : Prop := ∃ κ m, In w.heap.size p κ w' (startM x.obs (x.prs.map Pr.ops)) m ∧ Kept (fun _ => False) w w'
/-- Where all lies, at the start. -/
theorem start_end (x : Sc) (w W0 W1 wr : World) (v1 v2 : Value) (hX : Lies w w.heap.size x) (hg : goodF x = true) (hs0 : W0.heap.size = w.heap.size + 1) (hk1 : Kept (fun _ => False) w W1) (hsz : W1.heap.size = W0.heap.size + 1)
    (hw : Wk w.heap.size W0.heap.size (.slice x.os x.obs.length x.oc) wr v1 v2 (x.obs.map newT) (x.prs.map newH)) (hkr : Kept (fun b => b = W0.heap.size) W1 wr) : StartTo x w W0.heap.size wr := by
  have hkw : Kept (fun _ => False) w wr := hk1.trans hkr (T := fun b => b = W0.heap.size) (S := fun _ => False) (fun b hb e => by omega)
  have h0 : x.obs.length ≠ 0 ∧ x.prs.length ≠ 0 := by
    unfold goodF at hg
    simp only [Bool.and_eq_true, bne_iff_ne] at hg
    exact ⟨hg.1.1.1.1, hg.1.1.1.2⟩
  obtain ⟨tg, tc, rfl, t1, t2⟩ := own_shape hw.ts (by simp; omega)
  obtain ⟨hg', hc, rfl, g1, g2⟩ := own_shape hw.hs (by simp; omega)
  have hne : tg ≠ hg' := by
    rcases own_apart hw.ts hw.hs (by decide) with h | ⟨g, h1, h2⟩
    · simp [Value.ownBlock] at h
    · intro e
      subst e
      exact h2 h1
  obtain ⟨κ, hκ⟩ : ∃ κ : Nat → Nat, κ = fun b => if b = W0.heap.size then 1 else if b = tg then 2 else if b = hg' then 3 else 0 := ⟨_, rfl⟩
  have c1 : κ W0.heap.size = 1 := by rw [hκ]; simp
  have c2 : κ tg = 2 := by rw [hκ]; simp; omega
  have c3 : κ hg' = 3 := by rw [hκ]; simp [Ne.symm hne]; omega
  have cb : ∀ b, κ b ≠ 0 → b = W0.heap.size ∨ b = tg ∨ b = hg' := fun b hb => by
    rw [hκ] at hb
    simp only at hb
    split at hb
    · exact .inl ‹_›
    split at hb
    · exact .inr (.inl ‹_›)
    split at hb
    · exact .inr (.inr ‹_›)
    · exact absurd rfl hb
  have c4 : ∀ b, κ b ≠ 4 := fun b e => by
    rw [hκ] at e
    simp only at e
    split at e
    · cases e
    split at e
    · cases e
    split at e
    · cases e
    · cases e
  refine ⟨κ, ⟨x.os, x.oc, tg, tc, x.obs.map newT, hg', hc, x.prs.map newH⟩, ⟨⟨fun b hb => ?_, fun b hb => absurd hb (c4 b)⟩, fun b hb => ?_, hkw.size, ?_, c1, hX.obs.kept hkw (Nat.le_refl _) (fun _ _ f => f), ownsRow_base hw.ts, c2, ?_, fun t ht => ?_, ownsRow_base hw.hs, c3, by simp [startM], fun i h t hh ht => ?_⟩, hkw⟩
  · rcases cb b hb with rfl | rfl | rfl
    · exact lt_of_heap hw.box
    · exact t2
    · exact g2
  · rcases cb b hb with rfl | rfl | rfl <;> omega
  · have := hw.box
    exact this
  · show (x.obs.map newT).map Tt.x = x.obs.map (fun o => newM o.kind o.n)
    rw [List.map_map]; rfl
  · obtain ⟨o, ho, rfl⟩ := List.mem_map.1 ht
    exact ElemsQ.nil
  · rw [List.getElem?_map] at hh
    have ht2 : ((x.prs.map Pr.ops).map (fun p => (⟨p, 0, none, 0⟩ : Tr)))[i]? = some t := ht
    rw [List.map_map, List.getElem?_map] at ht2
    cases hp : x.prs[i]? with
    | none => rw [hp] at hh; simp at hh
    | some pr =>
      rw [hp] at hh ht2
      simp only [Option.map_some, Option.some.injEq] at hh ht2
      subst hh ht2
      exact ⟨rfl, (hX.prs.ops pr (List.mem_of_getElem? hp)).kept hkw (Nat.le_refl _) (fun _ _ f => f), rfl, rfl, trivial⟩

set_option maxHeartbeats 8000000 in
theorem start_any (x : Sc) (w : World) (h : Lies w w.heap.size x) (hl : largeF x = false) (hg : goodF x = true) :
    Calls Tryz.prog 22 #[x.agg] w fun e w' => ∃ p, e = .returned (.pointer (some ⟨p, 0, none⟩)) ∧ StartTo x w p w' := by
  obtain ⟨os, oc, obs, ps, pc, prs, ks, kc, pis⟩ := x
  obtain ⟨W0, hW0⟩ : ∃ W0, w.alloc (.cells #[.slice os obs.length oc, .slice ps prs.length pc, .slice ks pis.length kc] 26) = W0 := ⟨_, rfl⟩
  have hk0 : Kept (fun _ => False) w W0 := by rw [← hW0]; exact (Kept.refl _ _).alloc _
  have hn0 : W0.heap[w.heap.size]? = some (.cells #[.slice os obs.length oc, .slice ps prs.length pc, .slice ks pis.length kc] 26 (0, 0)) := by rw [← hW0]; exact heap_new1 _ _
  have hs0 : W0.heap.size = w.heap.size + 1 := by rw [← hW0]; simp
  obtain ⟨W1, hW1⟩ : ∃ W1, W0.alloc (.cells #[.slice os obs.length oc, .slice none 0 0, .slice none 0 0, .int .i64 0] 57) = W1 := ⟨_, rfl⟩
  have hk1 : Kept (fun _ => False) W0 W1 := by rw [← hW1]; exact (Kept.refl _ _).alloc _
  have hn1 : W1.heap[W0.heap.size]? = some (.cells #[.slice os obs.length oc, .slice none 0 0, .slice none 0 0, .int .i64 0] 57 (0, 0)) := by rw [← hW1]; exact heap_new1 _ _
  have hsc := hk1.at0 hn0
  have s0 : W0.cell? ⟨w.heap.size, 0, none⟩ = some (.slice os obs.length oc) := by rw [cell_at _ _ 0 _ _ hn0]; rfl
  have r0 : W1.cell? ⟨w.heap.size, 0, none⟩ = some (.slice os obs.length oc) := by rw [cell_at _ _ 0 _ _ hsc]; rfl
  have hol : obs.length ≤ 6 ∧ prs.length ≤ 8 := by
    unfold largeF at hl
    simp at hl
    exact ⟨hl.1.1.1, hl.1.1.2⟩
  have HX := Lib.hid h
  have HSC := Lib.hid hsc
  have HN1 := Lib.hid hn1
  have HK1 := Lib.hid (hk0.tr0 hk1)
  have HS0 := Lib.hid hs0
  have HSZ : Hid (W1.heap.size = W0.heap.size + 1) := Lib.hid (by rw [← hW1]; simp)
  clear hk0 hn0 hk1 hn1 hsc h hs0
  go_enter Tryz.func22, Tryz.ntmps22
  go_wp2_with fail
  go_loopw [15] (fun i wr => ∃ (k : Nat) (v1 : Value), i = .int .i64 k ∧ k ≤ obs.length ∧ Wk w.heap.size W0.heap.size (.slice os obs.length oc) wr v1 (.slice none 0 0) ((obs.take k).map newT) [] ∧ Kept (fun b => b = W0.heap.size) W1 wr) (fun i _ => obs.length - (intOf i).toNat)
  case atStart => exact ⟨0, .slice none 0 0, rfl, by omega, ⟨HN1.out, World.ownsRow_nil _ _ _ _, World.ownsRow_nil _ _ _ _⟩, Kept.refl _ _⟩
  case round =>
    obtain ⟨k, v1, rfl, hk1, hw, hkr⟩ := hrel
    by_cases hkk : k < obs.length
    · obtain ⟨o, ho⟩ : ∃ o, obs[k]? = some o := ⟨_, List.getElem?_eq_getElem hkk⟩
      obtain ⟨g, off, rfl, -, c0, c1, c2⟩ := ob_at (HX.out.obs.kept (HK1.out.trans hkr (T := fun b => b = W0.heap.size) (S := fun _ => False) (fun b hb e => by have := HS0.out; omega)) (Nat.le_refl _) (fun _ _ f => f)) ho
      have k0 : (0 : Int) ≤ (k : Int) := by omega
      have k1 : (k : Int) < (obs.length : Int) := by omega
      obtain ⟨WO, hWO⟩ : ∃ WO, wr.alloc (.cells #[.int .i64 o.kind, .bool o.fair, .int .i64 o.n] 70) = WO := ⟨_, rfl⟩
      have hko : Kept (fun _ => False) wr WO := by rw [← hWO]; exact (Kept.refl _ _).alloc _
      have hno : WO.heap[wr.heap.size]? = some (.cells #[.int .i64 o.kind, .bool o.fair, .int .i64 o.n] 70 (0, 0)) := by rw [← hWO]; exact heap_new1 _ _
      have SF : Hid (∀ w', Kept (fun _ => False) WO w' → w'.cell? ⟨wr.heap.size, 0, none⟩ = some (.int .i64 o.kind) ∧ w'.cell? ⟨wr.heap.size, 1, none⟩ = some (.bool o.fair) ∧ w'.cell? ⟨wr.heap.size, 2, none⟩ = some (.int .i64 o.n)) := Lib.hid (fun w' hk => by
        have hn := hk.at0 hno
        refine ⟨?_, ?_, ?_⟩
        · rw [cell_at _ _ 0 _ _ hn]; rfl
        · rw [cell_at _ _ 1 _ _ hn]; rfl
        · rw [cell_at _ _ 2 _ _ hn]; rfl)
      have HBX : Hid (∀ w', Kept (fun _ => False) WO w' → w'.heap[W0.heap.size]? = some (.cells #[.slice (some ⟨g, off, none⟩) obs.length oc, v1, .slice none 0 0, .int .i64 0] 57 (0, 0)) ∧ w'.cell? ⟨W0.heap.size, 1, none⟩ = some v1 ∧ w'.frozen? ⟨W0.heap.size, 1, none⟩ = false ∧ w'.ownsRow (W0.heap.size + 1) 42 15 v1 k (flat Tt.cells ((obs.take k).map newT))) := Lib.hid (fun w' hk => by
        have hb := (hko.tr0 hk).at0 hw.box
        have hlen : ((obs.take k).map newT).length = k := by simp; omega
        have ho := own_on hw.ts (hko.tr0 hk) (fun _ _ f => f)
        rw [hlen] at ho
        exact ⟨hb, by rw [cell_at _ _ 1 _ _ hb]; rfl, frozen_at _ _ 1 _ _ hb, ho⟩)
      obtain ⟨y, hy⟩ : ∃ y, newM o.kind o.n = y := ⟨_, rfl⟩
      have HNEW : Hid (∀ w', Calls Tryz.prog 34 #[.agg #[.int .i64 o.kind, .bool o.fair, .int .i64 o.n]] w' fun e w'' => e = .returned (y.agg none 0) ∧ Kept (fun _ => False) w' w'') := Lib.hid (fun w' => by rw [← hy]; exact new_any o.kind o.n o.fair w')
      have HY := Lib.hid hy
      have HHS := Lib.hid hw.hs
      have HKO := Lib.hid hko
      have HKR := Lib.hid hkr
      have HO := Lib.hid ho
      have HLT : Hid (W0.heap.size + 1 ≤ wr.heap.size) := Lib.hid (lt_of_heap hw.box)
      obtain ⟨-, p1, -, -⟩ := HBX.out WO (Kept.refl _ _)
      obtain ⟨o0, o1, o2⟩ := SF.out WO (Kept.refl _ _)
      clear hko hno hw hkr ho hy
      go_wp2_with fail
      go_region_law (first
        | (refine step_call (by rfl) 34 #[.agg #[.int .i64 o.kind, .bool o.fair, .int .i64 o.n]] (by kernel_rfl) (P := fun v w' => v = y.agg none 0 ∧ Kept (fun _ => False) WO.drew w') (HNEW.out _) (fun e w' hh => ⟨_, hh.1, rfl, hh.2⟩) ?_; rintro v w6 ⟨rfl, hk6⟩; have HA : Kept (fun _ => False) WO w6 := Kept.drewL hk6; obtain ⟨WA, hWA⟩ : ∃ WA, w6.alloc (.cells (y.box none 0) 42) = WA := ⟨_, rfl⟩; have HB : Kept (fun _ => False) WO WA := (by rw [← hWA]; exact HA.alloc _); obtain ⟨-, p2, -, -⟩ := HBX.out _ HA; obtain ⟨hbx, p3, -, hown⟩ := HBX.out _ HB; have hEl : Elems WA WA.heap.size (some ⟨w6.heap.size, 0, none⟩) 15 Tt.cells [⟨y, none, 0⟩] := (by rw [← hWA]; exact (Elems.block (f := Tt.cells) (xs := [⟨y, none, 0⟩]) Tt.fifteen (heap_new1 w6 _) rfl (by show 1 ≤ maxLen; decide)).more (by simp)); have hsz : W0.heap.size + 1 ≤ WA.heap.size := Nat.le_trans HLT.out (Nat.le_trans HKO.out.size HB.size); clear hk6)
        | (refine step_tt (ts := (obs.take k).map newT) (t := ⟨y, none, 0⟩) (by rfl) _ _ (by rfl) (by rfl) (by rfl) hown (by omega) hEl hsz ?_; intro g' c' w9 h9 k9; have hb9 := k9.at_ hbx (fun e => by have := (World.ownsRow.lt hown _ e).1; omega); have p9 : w9.cell? ⟨W0.heap.size, 1, none⟩ = some v1 := (by rw [cell_at _ _ 1 _ _ hb9]; rfl); have f9 := frozen_at w9 _ 1 _ _ hb9; have H9 := Lib.hid h9; have K9 := Lib.hid k9; have HB9 := Lib.hid hb9; have HOWN := Lib.hid hown; clear h9 k9 hb9))
      all_goals (have hown2 : ∀ b, v1.ownBlock = some b → W0.heap.size + 1 ≤ b := fun b hb => (World.ownsRow.lt HOWN.out b hb).1)
      all_goals (have hk9 : Kept (fun b => b = W0.heap.size) W1 w9 := (HKR.out.trans (HKO.out.tr0 HB) (fun _ _ f => f.elim)).trans K9.out (fun b hb e => by have h1 := hown2 _ e; have h2 := HSZ.out; omega))
      all_goals (have hls : (obs.take (k + 1)).map newT = (obs.take k).map newT ++ [⟨y, none, 0⟩] := by obtain ⟨h1, e1⟩ := List.getElem?_eq_some_iff.1 HO.out; rw [List.take_succ_eq_append_getElem h1, e1, List.map_append, ← HY.out]; rfl)
      all_goals (have hln : ((obs.take k).map newT ++ [(⟨y, none, 0⟩ : Tt)]).length = k + 1 := by simp; omega)
      all_goals (have hgg := (World.ownsRow.lt H9.out g' rfl).1)
      all_goals (have hks : Kept (fun b => b = W0.heap.size) w9 (w9.setCell ⟨W0.heap.size, 1, none⟩ (.slice (some ⟨g', 0, none⟩) (k + 1) c')) := (Kept.refl _ _).setCell _ _ (fun _ => rfl))
      all_goals (have hW : Wk w.heap.size W0.heap.size (.slice (some ⟨g, off, none⟩) obs.length oc) (w9.setCell ⟨W0.heap.size, 1, none⟩ (.slice (some ⟨g', 0, none⟩) (k + 1) c')) (.slice (some ⟨g', 0, none⟩) (k + 1) c') (.slice none 0 0) ((obs.take (k + 1)).map newT) [] := ⟨by have := heap_setCell_same w9 W0.heap.size 1 _ _ (.slice (some ⟨g', 0, none⟩) (k + 1) c') HB9.out; exact this, by rw [hls, hln]; exact own_on H9.out hks (fun b hb e => by have e2 : g' = b := (by simpa [Value.ownBlock] using hb); subst e2; omega), World.ownsRow_nil _ _ _ _⟩)
      all_goals (have HWK := Lib.hid hW)
      all_goals (have HKK := Lib.hid (hk9.trans hks (fun _ _ e => e)))
      all_goals clear hW hk9 hks hown2 hln hls
      all_goals go_wp2_with fail
      all_goals go_roundw
      all_goals first
        | (simp [intOf]; omega)
        | (refine ⟨k + 1, .slice (some ⟨g', 0, none⟩) (k + 1) c', by go_num, by omega, ?_, HKK.out⟩; exact HWK.out)
    · have k1 : ¬ ((k : Int) < (obs.length : Int)) := by omega
      obtain rfl : k = obs.length := by omega
      rw [List.take_length] at hw
      have hne : w.heap.size ≠ W0.heap.size := by have := HS0.out; omega
      have hscr := hkr.at_ HSC.out hne
      have q1 : wr.cell? ⟨w.heap.size, 1, none⟩ = some (.slice ps prs.length pc) := by rw [cell_at _ _ 1 _ _ hscr]; rfl
      have HWF := Lib.hid hw
      have HKF := Lib.hid hkr
      have HSCF := Lib.hid hscr
      clear hw hkr hscr hkk hk1
      go_wp2_with fail
      go_loopw [34] (fun i wr2 => ∃ (k : Nat) (v2 : Value), i = .int .i64 k ∧ k ≤ prs.length ∧ Wk w.heap.size W0.heap.size (.slice os obs.length oc) wr2 v1 v2 (obs.map newT) ((prs.take k).map newH) ∧ Kept (fun b => b = W0.heap.size) W1 wr2) (fun i _ => prs.length - (intOf i).toNat)
      case atStart => exact ⟨0, .slice none 0 0, rfl, by omega, HWF.out, HKF.out⟩
      case round =>
        obtain ⟨k, v2, rfl, hk1, hw, hkr⟩ := hrel
        by_cases hkk : k < prs.length
        · obtain ⟨pr, hpr⟩ : ∃ pr, prs[k]? = some pr := ⟨_, List.getElem?_eq_getElem hkk⟩
          have hkw : Kept (fun _ => False) w wr := HK1.out.trans hkr (T := fun b => b = W0.heap.size) (S := fun _ => False) (fun b hb e => by have := HS0.out; omega)
          obtain ⟨g, off, rfl, -, c0⟩ := pr_at (HX.out.prs.row.kept hkw (Nat.le_refl _) (fun _ _ f => f)) hpr
          have k0 : (0 : Int) ≤ (k : Int) := by omega
          have k1 : (k : Int) < (prs.length : Int) := by omega
          have hbx := hw.box
          have p2 : wr.cell? ⟨W0.heap.size, 2, none⟩ = some v2 := by rw [cell_at _ _ 2 _ _ hbx]; rfl
          obtain ⟨WA, hWA⟩ : ∃ WA, wr.alloc (.cells #[.slice pr.s pr.ops.length pr.cap, .int .i64 0, .pointer none, .int .i64 0] 60) = WA := ⟨_, rfl⟩
          have hka : Kept (fun _ => False) wr WA := by rw [← hWA]; exact (Kept.refl _ _).alloc _
          have hbA := hka.at0 hbx
          have pA : WA.cell? ⟨W0.heap.size, 2, none⟩ = some v2 := by rw [cell_at _ _ 2 _ _ hbA]; rfl
          have hln : ((prs.take k).map newH).length = k := by simp; omega
          have hown := own_on hw.hs hka (fun _ _ f => f)
          rw [hln] at hown
          have htsA := own_on hw.ts hka (fun _ _ f => f)
          have hEl : Elems WA WA.heap.size (some ⟨wr.heap.size, 0, none⟩) 4 Hh.cells [newH pr] := by rw [← hWA]; exact (Elems.block (f := Hh.cells) (xs := [newH pr]) Hh.four (heap_new1 wr _) rfl (by show 1 ≤ maxLen; decide)).more (by simp)
          have hsz : W0.heap.size + 1 ≤ WA.heap.size := Nat.le_trans (lt_of_heap hbx) hka.size
          have HOWN := Lib.hid hown
          have HTSA := Lib.hid htsA
          have HEL := Lib.hid hEl
          have HSZA := Lib.hid hsz
          have HBA := Lib.hid hbA
          have HKA := Lib.hid (hkr.trans hka (fun _ _ f => f.elim))
          have HPR := Lib.hid hpr
          clear hown htsA hEl hsz hbA hka hw hkr hkw hbx hpr
          go_wp2_with (at_builtin; refine wpList_hh (ts := (prs.take k).map newH) (t := newH pr) rfl (.tmp 42) (.tmp 45) rfl rfl rfl HOWN.out (by omega) HEL.out HSZA.out ?_)
          intro g' c' w9 h9 k9
          rw [← List.map_take] at h9
          have hown2 : ∀ b, v2.ownBlock = some b → W0.heap.size + 1 ≤ b := fun b hb => (World.ownsRow.lt HOWN.out b hb).1
          have hb9 := k9.at_ HBA.out (fun e => by have := hown2 _ e; omega)
          have p9 : w9.cell? ⟨W0.heap.size, 2, none⟩ = some v2 := by rw [cell_at _ _ 2 _ _ hb9]; rfl
          have f9 := frozen_at w9 _ 2 _ _ hb9
          have hk9 : Kept (fun b => b = W0.heap.size) W1 w9 := HKA.out.trans k9 (fun b hb e => by have h1 := hown2 _ e; have h2 := HSZ.out; omega)
          have hlen3 : v1.ownBlock = none ∨ ∃ tg, v1.ownBlock = some tg ∧ v2.ownBlock ≠ some tg := own_apart HTSA.out HOWN.out (by decide)
          have hts9 := own_on HTSA.out k9 (fun b hb e => by
            rcases hlen3 with h | ⟨tg, h1, h2⟩
            · rw [h] at hb; cases hb
            · rw [h1] at hb; cases hb; exact h2 e)
          have hls : (prs.take (k + 1)).map newH = (prs.take k).map newH ++ [newH pr] := by
            obtain ⟨h1, e1⟩ := List.getElem?_eq_some_iff.1 HPR.out
            rw [List.take_succ_eq_append_getElem h1, e1, List.map_append]; rfl
          have hln : ((prs.take k).map newH ++ [newH pr]).length = k + 1 := by simp; omega
          have hgg := (World.ownsRow.lt h9 g' rfl).1
          have htg : ∀ b, v1.ownBlock = some b → W0.heap.size + 1 ≤ b := fun b hb => (World.ownsRow.lt hts9 b hb).1
          have hks : Kept (fun b => b = W0.heap.size) w9 (w9.setCell ⟨W0.heap.size, 2, none⟩ (.slice (some ⟨g', 0, none⟩) (k + 1) c')) := (Kept.refl _ _).setCell _ _ (fun _ => rfl)
          have hW : Wk w.heap.size W0.heap.size (.slice os obs.length oc) (w9.setCell ⟨W0.heap.size, 2, none⟩ (.slice (some ⟨g', 0, none⟩) (k + 1) c')) v1 (.slice (some ⟨g', 0, none⟩) (k + 1) c') (obs.map newT) ((prs.take (k + 1)).map newH) :=
            ⟨heap_setCell_same w9 W0.heap.size 2 _ _ (.slice (some ⟨g', 0, none⟩) (k + 1) c') hb9, own_on hts9 hks (fun b hb e => by have := htg b hb; omega), by rw [hls, hln]; exact own_on h9 hks (fun b hb e => by have e2 : g' = b := (by simpa [Value.ownBlock] using hb); subst e2; omega)⟩
          have HWK := Lib.hid hW
          have HKK := Lib.hid (hk9.trans hks (fun _ _ e => e))
          clear hW hk9 hks hown2 hln hls hts9 h9 k9 hb9 htg hlen3
          go_wp2_with fail
          go_roundw
          case rel => exact ⟨k + 1, .slice (some ⟨g', 0, none⟩) (k + 1) c', by go_num, by omega, HWK.out, HKK.out⟩
          case measure => simp [intOf]; omega
        · have k1 : ¬ ((k : Int) < (prs.length : Int)) := by omega
          obtain rfl : k = prs.length := by omega
          rw [List.take_length] at hw
          have HT := Lib.hid (start_end ⟨os, oc, obs, ps, pc, prs, ks, kc, pis⟩ w W0 W1 wr v1 v2 HX.out hg HS0.out HK1.out HSZ.out hw hkr)
          clear hw hkr hkk hk1
          go_wp2_with fail
          go_ret
          exact ⟨W0.heap.size, rfl, HT.out⟩

end Go.Proofs.YtbodlaiakcoabaaGreatDoor
