/-
  What the statement MicroAgain needs: copies of code and of a frame, how many frames and marks a step leaves.
  Conditions: none.
-/
import Derived.Test.YtdkableaooaebaaDoorMicUp
import Derived.Test.YtdkableaooaebaaDoorMicIn
import Derived.Test.YtdkableaooaebaaDoorMicSame
import Derived.Test.YtdkableaooaebaaDoorTabClone
namespace Go.Proofs.YtdkableaooaebaaDoor
open Go.RowKit
set_option linter.unusedVariables false

theorem info_ins : (Tryd.prog.info? 46).map (fun i => (i.zero, i.size, i.bytes)) = some (some (.agg #[.int .i64 0, .int .i64 0, .int .i64 0, .int .i64 0, .int .i64 0]), 5, 40) := by kernel_rfl
theorem ix_cell (xs : List Ix) : ∀ u ∈ flat Ix.cells xs, u.oneCell' = true := by
  intro u hu
  simp only [flat, List.mem_flatMap, Ix.cells, List.mem_cons, List.not_mem_nil, or_false] at hu
  obtain ⟨x, _, h | h | h | h | h⟩ := hu <;> subst h <;> rfl
theorem neq_ins (x : Ix) (w : World) : (binOp .neq 46 x.agg x.agg).run Tryd.prog w = .ok (.bool false) w := by
  have h := eq_ins x w
  unfold Ix.agg at h ⊢
  rw [run_neq_struct, h]
  rfl

section
variable {α : Type} {f : α → List Value} {size : Nat} {e : TypeId} {w w' : World} {v : Value} {n : Nat} {xs : List α}
/-- A copy that an append onto a new row made. -/
theorem own_row (hf : ∀ x, (f x).length = size) (hn : xs.length = n) (h : w'.ownsRow w.heap.size e size v n (flat f xs)) (hg : (w.alloc (.cells #[] e)).grownBy w' (some w.heap.size)) :
    Kept (fun _ => False) w w' ∧ ((∃ c, v = .slice none n c ∧ xs = []) ∨ ∃ g c, v = .slice (some ⟨g, 0, none⟩) n c ∧ w.heap.size ≤ g ∧ Row w' g c e size f xs) := by
  refine ⟨((Kept.refl _ w).alloc (.cells #[] e)).grown hg (fun k hk e => by simp at e; omega), ?_⟩
  rcases h.2 with ⟨rfl, h0⟩ | ⟨g, cap, cur, rfl, hb, rest⟩
  · subst h0
    exact .inl ⟨0, rfl, List.eq_nil_of_length_eq_zero hn⟩
  · exact .inr ⟨g, cap, rfl, hb, Row.made hn.symm ⟨h.1, .inr ⟨g, cap, cur, rfl, Nat.zero_le _, rest⟩⟩⟩
end
/-- A copy of the code: where it lies. -/
theorem own_code {w w' : World} {v : Value} {code : List Ix} (hm : code.length ≤ maxLen) (h : w'.ownsRow w.heap.size 46 5 v code.length (flat Ix.cells code)) (hg : (w.alloc (.cells #[] 46)).grownBy w' (some w.heap.size)) :
    Kept (fun _ => False) w w' ∧ ∃ so c, v = .slice so code.length c ∧ CodeIn so code (fun g => g < w.heap.size) w' := by
  obtain ⟨hk, h⟩ := own_row Ix.five rfl h hg
  refine ⟨hk, ?_⟩
  rcases h with ⟨c, rfl, h0⟩ | ⟨g, c, rfl, hb, hR⟩
  · subst h0
    exact ⟨none, c, rfl, by simp, fun i x hi => by simp at hi⟩
  · exact ⟨_, c, rfl, code_in (Elems.of_row Ix.five hR hm) (by have := hR.lt; omega) (by omega)⟩
theorem in_cells {so : Option Addr} {code : List Ix} {T : Nat → Prop} {i : Nat} {x : Ix} {w : World} (h : CodeIn so code T w) (hx : code[i]? = some x) : ∃ g off, so = some ⟨g, off, none⟩ ∧ g < w.heap.size ∧
    w.cell? ⟨g, off + i * 5, none⟩ = some (.int .i64 x.op) ∧ w.cell? ⟨g, off + i * 5 + 1, none⟩ = some (.int .i64 x.a) ∧ w.cell? ⟨g, off + i * 5 + 2, none⟩ = some (.int .i64 x.b) ∧ w.cell? ⟨g, off + i * 5 + 3, none⟩ = some (.int .i64 x.c) ∧ w.cell? ⟨g, off + i * 5 + 4, none⟩ = some (.int .i64 x.n) := by
  obtain ⟨g, off, e, hg, hc, hj⟩ := h.2 i x hx
  exact ⟨g, off, e, hg, hj 0 _ rfl, hj 1 _ rfl, hj 2 _ rfl, hj 3 _ rfl, hj 4 _ rfl⟩
/-- How long a step's frames and marks are. -/
theorem do_ns (most now : Int) (self : Nat) (x : Ix) (s : Ms) : (doM most now self x s).2.ns.length ≤ s.ns.length + 1 := by
  have hv : (valM most now self x s).2.ns = s.ns := by
    unfold valM allocM
    repeat' split
    all_goals rfl
  have ha : (actM most now self x s).2.ns.length ≤ s.ns.length + 1 := by
    unfold actM accM parkM unparkM
    repeat' split
    all_goals first
      | exact Nat.le_succ _
      | (show (s.ns ++ [_]).length ≤ s.ns.length + 1; rw [List.length_append]; exact Nat.le_refl _)
      | (show (valM most now self x s).2.ns.length ≤ s.ns.length + 1; rw [hv]; exact Nat.le_succ _)
  unfold doM jumpM enterM leaveM
  repeat' split
  all_goals first
    | exact Nat.le_succ _
    | exact ha
theorem run_lens (code : List Ix) (most now : Int) (self : Nat) : ∀ (m : Nat) (b : Bool) (s : Ms), s.bs.length ≤ 15 → (runM code most now self m b s).2.2.bs.length ≤ 15 ∧ (runM code most now self m b s).2.2.ns.length ≤ s.ns.length + m
  | 0, b, s, h => by unfold runM; exact ⟨h, Nat.le_refl _⟩
  | m + 1, b, s, h => by
    unfold runM
    split
    · exact ⟨h, Nat.le_add_right _ _⟩
    · rename_i x _
      have h1 := do_bs most now self x h
      have h2 := do_ns most now self x s
      split
      · exact ⟨h, Nat.le_add_right _ _⟩
      · split
        · have := run_lens code most now self m true _ h1
          exact ⟨this.1, by omega⟩
        · split
          · exact ⟨h1, by show (doM most now self x s).2.ns.length ≤ _; omega⟩
          · exact ⟨h1, by show (doM most now self x s).2.ns.length ≤ _; omega⟩
theorem step_lens (code : List Ix) (most now : Int) (self : Nat) (s : Ms) (h : s.bs.length ≤ 15) (h0 : s.ns = []) : (stepM code most now self s).2.2.bs.length ≤ 15 ∧ (stepM code most now self s).2.2.ns.length ≤ 200 := by
  have := run_lens code most now self 200 false s h
  rw [h0] at this
  exact ⟨this.1, by have := this.2; simp only [List.length_nil, Nat.zero_add] at this; exact this⟩

/-- What the first step left stands behind the second one, that is done with other blocks. -/
theorem again_end {w7 w8 w9 w10 : World} {ab tb tg tc b ub ug uc fg fc fg2 fc2 : Nat} {og ogb og' og2 : Option Nat} {s : Ms} {nv nv2 : Value} (hB : ∀ g, Base ab tb tg og g → ¬ Base b ub ug ogb g) (hlt : ∀ g, Base b ub ug ogb g → g < w7.heap.size)
    (haf : After w7 ab tb tg tc og 4096 0 s w8 fg fc nv og') (hk : Kept (fun _ => False) w8 w9) (haf2 : After w9 b ub ug uc ogb 4096 0 s w10 fg2 fc2 nv2 og2) :
    Row w10 fg fc 60 17 Fr.cells (s.bs ++ [s.f]) ∧ w10.ownsRow 0 78 2 nv s.ns.length (flat Nt.cells s.ns) ∧ Arena w10 ab og' 4096 s.zs := by
  refine ⟨(haf.fr.kept hk (fun f => f)).kept haf2.kept (fun h => ?_), nt_kept (nt_kept haf.nt hk (fun _ _ f => f)) haf2.kept (fun g e h => ?_), (haf.ar.kept hk (fun f => f) (fun _ _ f => f)).kept haf2.kept (hB _ (.inl (.inl rfl))) (fun g e h => ?_)⟩
  · have := hlt _ h; have := haf.newF; omega
  · have := hlt _ h; have := haf.newN g e; omega
  · rcases haf.newO g e with e2 | e2
    · exact hB _ (.inl (.inr e2)) h
    · have := hlt _ h; omega
/-- The other system stands behind the first step. -/
theorem again_other {N : Nat} {w7 w8 : World} {ab tb tg tc b ub ug uc fg fc : Nat} {og ogb og' : Option Nat} {s : Ms} {nv : Value} {zs : List Int} {ps : List Pk} (hB : ∀ g, Base ab tb tg og g → ¬ Base b ub ug ogb g)
    (haf : After w7 ab tb tg tc og 4096 0 s w8 fg fc nv og') (hs : Sys N w7 b ub ug uc ogb zs ps) : Sys N w8 b ub ug uc ogb zs ps := hs.kept haf.kept (fun g hg h => hB g h hg)

end Go.Proofs.YtdkableaooaebaaDoor
