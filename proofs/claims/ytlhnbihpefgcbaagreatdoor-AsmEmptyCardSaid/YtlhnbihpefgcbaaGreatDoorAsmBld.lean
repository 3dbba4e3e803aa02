/-
  What the program's builder holds, in memory: three rows and a map of its own; errors at a place.
  Conditions: none.
-/
import Derived.Test.YtlhnbihpefgcbaaGreatDoorAsmMem
import Derived.Test.YtlhnbihpefgcbaaGreatDoorAsmProg
import Derived.Test.YtlhnbihpefgcbaaGreatDoorAsmRange
import Derived.Maps.OwnSet
import Derived.StringKeys
namespace Go.Proofs.YtlhnbihpefgcbaaGreatDoor
open Go.RowKit Go.Maps

/-- A jump's cells. -/
def jmpC (j : Nat × Nat × Str) : List Value := [.int .i64 j.1, .int .i64 j.2.1, .string (strS j.2.2)]
theorem jmpC_three : ∀ x, (jmpC x).length = 3 := fun _ => rfl
theorem jmpC_flat (xs ys : Jmps) : flat jmpC (xs ++ ys) = flat jmpC xs ++ flat jmpC ys := by simp [flat]
theorem jmpC_cell (xs : Jmps) : ∀ u ∈ flat jmpC xs, u.oneCell' = true := by
  intro u hu
  simp only [flat, List.mem_flatMap, jmpC, List.mem_cons, List.not_mem_nil, or_false] at hu
  obtain ⟨x, _, h | h | h⟩ := hu <;> subst h <;> rfl

/-! ### The map of names -/
theorem names_key : Keyed Tryz.prog 9 := string_keyed Tryz.underlying9
theorem zero_int (w : World) : (zeroValue 3).run Tryz.prog w = .ok (.int .i64 0) w := by kernel_rfl
def NamesAt (w : World) (m : Nat) (l : Labs) : Prop :=
  ∃ D : DataW Unit, w.ownsMap Tryz.prog 9 (plainElem Tryz.prog 3) m l.length D ∧
    ∀ t : Str, t.length ≤ maxLen → Maps.has D (.string t) = (findA l t).isSome ∧ ∀ k, findA l t = some k → D.atKey (.string t) (.lit (.int .i64 0)) = .lit (.int .i64 (k : Int))
theorem find_snoc (l : Labs) (s : Str) (n : Nat) (t : Str) : findA (l ++ [(s, n)]) t = match findA l t with
    | some k => some k
    | none => if s = t then some n else none := by
  unfold findA
  rw [List.find?_append]
  cases h : l.find? (fun p => decide (p.1 = t)) with
  | some p => rfl
  | none =>
    by_cases e : s = t
    · simp [e]
    · simp [e]
section
variable {w w' : World} {m : Nat} {l : Labs} {S : Nat → Prop}
theorem names_new (w : World) : NamesAt (w.alloc (.map #[] 0)) w.heap.size [] := ⟨_, World.ownsMap_made _ _ _ _, fun t _ => ⟨rfl, fun k h => by cases h⟩⟩
theorem NamesAt.at_ (h : NamesAt w m l) : ∃ es c, w.heap[m]? = some (.map es c) := by
  obtain ⟨D, ⟨es, c, hb, _⟩, _⟩ := h
  exact ⟨es, c, hb⟩
theorem NamesAt.kept (h : NamesAt w m l) (hk : Kept S w w') (hm : ¬ S m) : NamesAt w' m l := by
  obtain ⟨D, ⟨es, c, hb, r⟩, hD⟩ := h
  exact ⟨D, ⟨es, c, (hk.block m (Array.getElem?_eq_some_iff.1 hb).1 hm).trans hb, r⟩, hD⟩
theorem names_look (h : NamesAt w m l) (t : Str) (ht : t.length ≤ maxLen) :
    (Instr.lookup 48 (.map (some m)) (.string (strS t)) true).run Tryz.prog w = .ok (.tuple #[.int .i64 ((findA l t).getD 0 : Nat), .bool (findA l t).isSome]) w := by
  obtain ⟨D, hown, hD⟩ := h
  have hkey : keyOf Tryz.prog 9 (.string (strS t)) = some (.string t) := by
    have := Go.WideMaps.keyOf_string_mk Tryz.underlying9 (s := strS t) (by rw [strS_size]; exact ht)
    simpa [strS] using this
  obtain ⟨v, ps, hrun, hv⟩ := hown.look_ok names_key Tryz.underlying48 (zero_int w) (plainElem_int Tryz.underlying3 (a := 0) (by decide)) hkey
  obtain ⟨c, rfl, hc, hwc⟩ := plainElem_int_inv Tryz.underlying3 hv
  have hc' := congrArg Prod.fst hc
  dsimp only at hc'
  obtain ⟨h1, h2⟩ := hD t ht
  rw [hrun, h1]
  cases e : findA l t with
  | none =>
    rw [e] at h1
    rw [Maps.atKey_of_not_has (by rw [h1]; rfl)] at hc'
    simp only [DataW.lit.injEq, Lit.int.injEq, true_and] at hc'
    subst hc'
    rfl
  | some k =>
    rw [h2 k e] at hc'
    simp only [DataW.lit.injEq, Lit.int.injEq, true_and] at hc'
    subst hc'
    rfl
theorem names_store (h : NamesAt w m l) (t : Str) (ht : t.length ≤ maxLen) (hn : l.length < maxLen) (k : Nat) (hk : k ≤ 9223372036854775807) (hf : findA l t = none) :
    ∃ w', (Instr.mapUpdate 48 (.map (some m)) (.string (strS t)) (.int .i64 k)).run Tryz.prog w = .ok () w' ∧ NamesAt w' m (l ++ [(t, k)]) ∧ w.grownBy w' (some m) := by
  obtain ⟨D, hown, hD⟩ := h
  have hkey : keyOf Tryz.prog 9 (.string (strS t)) = some (.string t) := by
    have := Go.WideMaps.keyOf_string_mk Tryz.underlying9 (s := strS t) (by rw [strS_size]; exact ht)
    simpa [strS] using this
  obtain ⟨w', hrun, hown', hturn⟩ := hown.store names_key Tryz.underlying48 hn hkey (plainElem_int Tryz.underlying3 (a := (k : Int)) (WalkArith.wf_i64 (by omega)))
  refine ⟨w', hrun, ⟨_, by rw [List.length_append]; exact hown', fun s hs => ?_⟩, hturn.grown⟩
  obtain ⟨h1, h2⟩ := hD s hs
  rw [find_snoc]
  by_cases e : t = s
  · subst e
    rw [hf]
    simp only
    refine ⟨Maps.has_put_same hown.isMap (show WideAt.IsKeyLit (.string t) from trivial) _, fun j hj => ?_⟩
    obtain rfl := Option.some.inj hj
    exact Maps.atKey_put_same hown.isMap (show WideAt.IsKeyLit (.string t) from trivial) _ _
  · have hne : (Lit.string s) ≠ .string t := fun h => by cases h; exact e rfl
    rw [if_neg e, Maps.has_put_other hne, Maps.atKey_put_other hne, h1]
    cases ej : findA l s with
    | none => exact ⟨rfl, fun j hj => by cases hj⟩
    | some j => exact ⟨rfl, fun i hi => h2 i (ej.trans hi)⟩
end

/-! ### Rows -/
section
variable {w w' : World} {base size n : Nat} {e : TypeId} {v : Value} {xs : List Value} {S : Nat → Prop}
theorem row_at (h : w.ownsRow base e size v n xs) {g : Nat} (hg : v.ownBlock = some g) : base ≤ g ∧ ∃ cur, w.heap[g]? = some (.cells cur e (0, 0)) := by
  rcases h.2 with ⟨rfl, _⟩ | ⟨g', cap, cur, rfl, hb, hg', _⟩
  · cases hg
  · obtain rfl := Option.some.inj hg
    exact ⟨hb, cur, hg'⟩
theorem row_kept (h : w.ownsRow base e size v n xs) (hk : Kept S w w') (hS : ∀ g, v.ownBlock = some g → ¬ S g) : w'.ownsRow base e size v n xs := by
  refine ⟨h.1, ?_⟩
  rcases h.2 with h0 | ⟨g, cap, cur, rfl, hb, hg, r⟩
  · exact .inl h0
  · exact .inr ⟨g, cap, cur, rfl, hb, (hk.block g (Array.getElem?_eq_some_iff.1 hg).1 (hS g rfl)).trans hg, r⟩
theorem own_form (h : w.ownsRow base e size v n xs) (hn : 0 < n) : ∃ g cap, v = .slice (some ⟨g, 0, none⟩) n cap ∧ g < w.heap.size := by
  rcases h.2 with ⟨_, h0⟩ | ⟨g, cap, cur, h3, _, hg, _⟩
  · omega
  · exact ⟨g, cap, h3, (Array.getElem?_eq_some_iff.1 hg).1⟩
end

/-- The builder's blocks. -/
def foot (b m : Nat) (v u q : Value) (k : Nat) : Prop := k = b ∨ k = m ∨ v.ownBlock = some k ∨ u.ownBlock = some k ∨ q.ownBlock = some k
/-- The builder. -/
structure Bld (B b m : Nat) (w : World) (s : Bst) (v u q : Value) : Prop where
  box : w.heap[b]? = some (.cells #[v, u, .map (some m), q, .int .i64 s.line] 51 (0, 0))
  code : w.ownsRow B 43 5 v s.code.length (flat insC s.code)
  labs : w.ownsRow B 35 2 u s.labs.length (flat labC s.labs)
  jmps : w.ownsRow B 76 3 q s.jmps.length (flat jmpC s.jmps)
  names : NamesAt w m s.labs
/-- Its bounds. -/
structure BldOk (s : Bst) : Prop where
  code : s.code.length ≤ 1024
  jmps : s.jmps.length ≤ s.code.length
  at_ : ∀ j ∈ s.jmps, j.1 < s.code.length
  labs : s.labs.length ≤ s.line
  line : s.line ≤ 200000
  names : ∀ j ∈ s.jmps, j.2.2.length ≤ 24
  spots : ∀ j ∈ s.jmps, j.2.1 ≤ 200000
section
variable {B b m : Nat} {w w' : World} {s : Bst} {v u q : Value} {S : Nat → Prop}
theorem Bld.kept (h : Bld B b m w s v u q) (hk : Kept S w w') (hS : ∀ k, foot b m v u q k → ¬ S k) : Bld B b m w' s v u q :=
  ⟨(hk.block b (Array.getElem?_eq_some_iff.1 h.box).1 (hS b (.inl rfl))).trans h.box, row_kept h.code hk (fun g hg => hS g (.inr (.inr (.inl hg)))), row_kept h.labs hk (fun g hg => hS g (.inr (.inr (.inr (.inl hg))))),
    row_kept h.jmps hk (fun g hg => hS g (.inr (.inr (.inr (.inr hg))))), h.names.kept hk (hS m (.inr (.inl rfl)))⟩
theorem Bld.low (h : Bld B b m w s v u q) (k : Nat) (hk : foot b m v u q k) : k < w.heap.size := by
  rcases hk with rfl | rfl | hk | hk | hk
  · exact (Array.getElem?_eq_some_iff.1 h.box).1
  · obtain ⟨es, c, hm⟩ := h.names.at_; exact (Array.getElem?_eq_some_iff.1 hm).1
  · obtain ⟨_, cur, hg⟩ := row_at h.code hk; exact (Array.getElem?_eq_some_iff.1 hg).1
  · obtain ⟨_, cur, hg⟩ := row_at h.labs hk; exact (Array.getElem?_eq_some_iff.1 hg).1
  · obtain ⟨_, cur, hg⟩ := row_at h.jmps hk; exact (Array.getElem?_eq_some_iff.1 hg).1
/-- Its blocks are all different. -/
theorem Bld.apart (h : Bld B b m w s v u q) : b ≠ m ∧ v.ownBlock ≠ some b ∧ v.ownBlock ≠ some m ∧ u.ownBlock ≠ some b ∧ u.ownBlock ≠ some m ∧ q.ownBlock ≠ some b ∧ q.ownBlock ≠ some m ∧
    (∀ g, v.ownBlock = some g → u.ownBlock ≠ some g ∧ q.ownBlock ≠ some g) ∧ (∀ g, u.ownBlock = some g → q.ownBlock ≠ some g) := by
  obtain ⟨es, c, hm⟩ := h.names.at_
  have hb := h.box
  have v1 := fun g hg => (row_at h.code (g := g) hg).2
  have u1 := fun g hg => (row_at h.labs (g := g) hg).2
  have q1 := fun g hg => (row_at h.jmps (g := g) hg).2
  refine ⟨fun e => ?_, fun e => ?_, fun e => ?_, fun e => ?_, fun e => ?_, fun e => ?_, fun e => ?_, fun g e => ⟨fun e2 => ?_, fun e2 => ?_⟩, fun g e e2 => ?_⟩
  · subst e; rw [hb] at hm; cases hm
  · obtain ⟨cur, hg⟩ := v1 _ e; rw [hb] at hg; cases hg
  · obtain ⟨cur, hg⟩ := v1 _ e; rw [hm] at hg; cases hg
  · obtain ⟨cur, hg⟩ := u1 _ e; rw [hb] at hg; cases hg
  · obtain ⟨cur, hg⟩ := u1 _ e; rw [hm] at hg; cases hg
  · obtain ⟨cur, hg⟩ := q1 _ e; rw [hb] at hg; cases hg
  · obtain ⟨cur, hg⟩ := q1 _ e; rw [hm] at hg; cases hg
  · obtain ⟨cur, hg⟩ := v1 _ e; obtain ⟨cur', hg'⟩ := u1 _ e2; rw [hg] at hg'; cases hg'
  · obtain ⟨cur, hg⟩ := v1 _ e; obtain ⟨cur', hg'⟩ := q1 _ e2; rw [hg] at hg'; cases hg'
  · obtain ⟨cur, hg⟩ := u1 _ e; obtain ⟨cur', hg'⟩ := q1 _ e2; rw [hg] at hg'; cases hg'
/-- The cells of its struct. -/
theorem Bld.cells (h : Bld B b m w s v u q) : (w.cell? ⟨b, 0, none⟩ = some v ∧ w.cell? ⟨b, 1, none⟩ = some u ∧ w.cell? ⟨b, 2, none⟩ = some (.map (some m)) ∧ w.cell? ⟨b, 3, none⟩ = some q ∧ w.cell? ⟨b, 4, none⟩ = some (.int .i64 s.line)) ∧
    (∀ i, w.frozen? ⟨b, i, none⟩ = false) :=
  ⟨⟨by rw [cell_at w _ 0 _ _ h.box]; rfl, by rw [cell_at w _ 1 _ _ h.box]; rfl, by rw [cell_at w _ 2 _ _ h.box]; rfl, by rw [cell_at w _ 3 _ _ h.box]; rfl, by rw [cell_at w _ 4 _ _ h.box]; rfl⟩, fun i => frozen_at w _ i _ _ h.box⟩
end

/-! ### Errors at a place -/
@[reducible] def spotV (g : Nat) : Value := .iface 63 (.pointer (some ⟨g, 0, none⟩))
@[reducible] def spotC (p : Nat × Nat) : Array Value := #[.int .i64 p.2, .iface 47 (.int .i64 p.1)]
def SpotAt (w : World) (g : Nat) (p : Nat × Nat) : Prop := w.heap[g]? = some (.cells (spotC p) 67 (0, 0))
theorem SpotAt.kept {w w' : World} {g : Nat} {p : Nat × Nat} {S : Nat → Prop} (h : SpotAt w g p) (hk : Kept S w w') (hg : ¬ S g) : SpotAt w' g p := (hk.block g (Array.getElem?_eq_some_iff.1 h).1 hg).trans h
theorem spot_any (i c : Nat) (w : World) : Calls Tryz.prog 28 #[.int .i64 i, .int .i64 c] w fun e w' => e = .returned (spotV w.heap.size) ∧ w' = w.alloc (.cells (spotC (c, i)) 67) := by
  go_enter Tryz.func28, Tryz.ntmps28
  go_wp2_with fail
  go_ret
  exact ⟨rfl, rfl⟩

/-- What a call on the builder leaves. -/
def BldTo (B b m : Nat) (w : World) (v u q : Value) (r : Except (Nat × Nat) Bst) (e : Ending) (w' : World) : Prop :=
  Kept (foot b m v u q) w w' ∧ match r with
    | .error p => ∃ g, w.heap.size ≤ g ∧ e = .returned (spotV g) ∧ SpotAt w' g p ∧ ∃ k : Nat, k ≤ 300000 ∧ w'.heap[b]? = some (.cells #[v, u, .map (some m), q, .int .i64 k] 51 (0, 0))
    | .ok s => ∃ v' u' q', e = .returned .nilIface ∧ Bld B b m w' s v' u' q' ∧ ∀ k, foot b m v' u' q' k → foot b m v u q k ∨ w.heap.size ≤ k
/-- What a line taken leaves. -/
def AddTo (B b m : Nat) (w : World) (v u q : Value) (r : Except (Nat × Nat) Bst) (e : Ending) (w' : World) : Prop :=
  Kept (foot b m v u q) w w' ∧ match r with
    | .error p => ∃ g, w.heap.size ≤ g ∧ e = .returned (spotV g) ∧ SpotAt w' g p
    | .ok s => ∃ v' u' q', e = .returned .nilIface ∧ Bld B b m w' s v' u' q' ∧ ∀ k, foot b m v' u' q' k → foot b m v u q k ∨ w.heap.size ≤ k

end Go.Proofs.YtlhnbihpefgcbaaGreatDoor
