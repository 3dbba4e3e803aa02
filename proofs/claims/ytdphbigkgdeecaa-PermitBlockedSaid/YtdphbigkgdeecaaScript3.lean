/-
  The deeds of layer 3's statements as they lie in memory, and what they all do, one behind the other.
  Conditions: none.
-/
import Derived.Test.YtdphbigkgdeecaaElems
import Derived.Test.YtdphbigkgdeecaaDeedPark
namespace Go.Proofs.Ytdphbigkgdeecaa
open Go.RowKit Go.ChangeShapes Go.WideShapes

structure Dd where
  t : Int
  i : Int
  n : Int
def Dd.cells (d : Dd) : List Value := [.int .i64 d.t, .int .i64 d.i, .int .i64 d.n]
structure Dd.In (d : Dd) : Prop where
  t : In64 d.t
  i : In64 d.i
  n : In64 d.n

theorem Try.cells_int : Try.prog.cellsOf 3 = 1 := by kernel_rfl
theorem Try.cells_int64 : Try.prog.cellsOf 2 = 1 := by kernel_rfl
theorem Try.cells_deed : Try.prog.cellsOf 36 = 3 := by kernel_rfl

theorem deeds_of {H : Type} {enc : TypeId × Value → H} {w : World} {s : Option Addr} {len cap : Nat} {d : DataW H} {p : List MemPlace}
    (h : DataW.Trod enc Try.prog w 0 (fun _ => true) true 22 (.slice s len cap) d p) : ∃ xs, xs.length = len ∧ Elems w w.heap.size s 3 Dd.cells xs ∧ ∀ x ∈ xs, Dd.In x := by
  refine elems_of Try.underlying22 Try.cells_deed (by omega) (fun k cs y hl ht => ?_) h
  obtain ⟨xs, k', _, _, _, hxl, hfld⟩ := DataW.trod_struct Try.underlying36 ht
  match cs, hl, xs, hxl with
  | [c0, c1, c2], _, [y0, y1, y2], _ =>
    have f0 : DataW.trod enc Try.prog w 0 (fun _ => true) true k' 3 (([c0, c1, c2].drop 0).take (Try.prog.cellsOf 3)) = some y0 := hfld 0 _ rfl
    have f1 : DataW.trod enc Try.prog w 0 (fun _ => true) true k' 3 (([c0, c1, c2].drop 1).take (Try.prog.cellsOf 3)) = some y1 := hfld 1 _ rfl
    have f2 : DataW.trod enc Try.prog w 0 (fun _ => true) true k' 2 (([c0, c1, c2].drop 2).take (Try.prog.cellsOf 2)) = some y2 := hfld 2 _ rfl
    rw [Try.cells_int] at f0 f1
    rw [Try.cells_int64] at f2
    simp only [List.drop_zero, List.drop_succ_cons, List.take_succ_cons, List.take_zero] at f0 f1 f2
    obtain ⟨t, e0, _, w0⟩ := DataW.trod_int Try.underlying3 f0
    obtain ⟨i, e1, _, w1⟩ := DataW.trod_int Try.underlying3 f1
    obtain ⟨n, e2, _, w2⟩ := DataW.trod_int Try.underlying2 f2
    simp only [List.cons.injEq, and_true] at e0 e1 e2
    subst e0 e1 e2
    exact ⟨⟨t, i, n⟩, rfl, ⟨⟨(bounds_i64 w0).1, (bounds_i64 w0).2⟩, ⟨(bounds_i64 w1).1, (bounds_i64 w1).2⟩, ⟨(bounds_i64 w2).1, (bounds_i64 w2).2⟩⟩⟩

/-- The cells of one deed. -/
theorem deed_at {w : World} {B : Nat} {s : Option Addr} {xs : List Dd} (h : Elems w B s 3 Dd.cells xs) {k : Nat} {x : Dd} (hx : xs[k]? = some x) :
    ∃ g off, s = some ⟨g, off, none⟩ ∧ g < B ∧ w.cell? ⟨g, off + k * 3, none⟩ = some (.int .i64 x.t) ∧ w.cell? ⟨g, off + k * 3 + 1, none⟩ = some (.int .i64 x.i) ∧ w.cell? ⟨g, off + k * 3 + 2, none⟩ = some (.int .i64 x.n) := by
  obtain ⟨g, off, e, hb, hc⟩ := h.2 k x hx
  exact ⟨g, off, e, hb, hc 0 _ rfl, hc 1 _ rfl, hc 2 _ rfl⟩

/-- How threads stand behind some deeds. -/
def run (s : Int × List Pk) (xs : List Dd) : Int × List Pk := xs.foldl (fun s d => step s.1 s.2 d.t d.i d.n) s

theorem run_next (s : Int × List Pk) (xs : List Dd) (k : Nat) (x : Dd) (h : xs[k]? = some x) : run s (xs.take (k + 1)) = step (run s (xs.take k)).1 (run s (xs.take k)).2 x.t x.i x.n := by
  obtain ⟨hk, e⟩ := List.getElem?_eq_some_iff.1 h
  rw [run, List.take_succ_eq_append_getElem hk, List.foldl_append, e]; rfl

theorem run_now (xs : List Dd) : ∀ s : Int × List Pk, 0 ≤ s.1 → s.1 ≤ 9223372036854775807 → 0 ≤ (run s xs).1 ∧ (run s xs).1 ≤ 9223372036854775807 := by
  induction xs with
  | nil => intro s h1 h2; exact ⟨h1, h2⟩
  | cons x xs ih => intro s h1 h2; have h := step_now s.1 s.2 x.t x.i x.n h1 h2; exact ih _ h.1 h.2
theorem run_len (xs : List Dd) : ∀ s : Int × List Pk, (run s xs).2.length = s.2.length := by
  induction xs with
  | nil => intro s; rfl
  | cons x xs ih => intro s; exact (ih _).trans (step_len _ _ _ _ _)

/-- Threads that never yet did anything. -/
def fresh (n : Nat) : Int × List Pk := (0, List.replicate n Pk.zero)
theorem fresh_now (n : Nat) (xs : List Dd) : 0 ≤ (run (fresh n) xs).1 ∧ (run (fresh n) xs).1 ≤ 9223372036854775807 := run_now xs _ (by simp [fresh]) (by simp [fresh])
theorem fresh_len (n : Nat) (xs : List Dd) : (run (fresh n) xs).2.length = n := by rw [run_len]; simp [fresh]

/-- A model that the statement makes: new blocks beside a new table. -/
theorem Ref.made {w w1 : World} {n : Nat} (hR : Row w1 w.heap.size n 41 4 Pk.cells (List.replicate n Pk.zero)) (hn : n ≤ 8) :
    Ref (w1.alloc (.cells #[.slice (some ⟨w.heap.size, 0, none⟩) n n, .int .i64 0] 33)) w1.heap.size w.heap.size n 0 (List.replicate n Pk.zero) := by
  have hs := hR.lt
  refine ⟨?_, hR.kept ((Kept.refl (fun _ => False) w1).alloc _) (fun f => f), by omega, by simpa using hn⟩
  rw [heap_alloc_new, List.length_replicate]

/-- The table and the model of a run, made since W. -/
def Runs (W w : World) (b g c mb mg mc : Nat) (s : Int × List Pk) : Prop :=
  Both w b g c mb mg mc s.1 s.2 ∧ Kept (fun k => W.heap.size ≤ k) W w ∧ ∀ k, Foot b g mb mg k → W.heap.size ≤ k

theorem Runs.off {W w w' : World} {b g c mb mg mc : Nat} {s : Int × List Pk} (h : Runs W w b g c mb mg mc s) (hk : Kept (fun _ => False) w w') : Runs W w' b g c mb mg mc s :=
  ⟨h.1.off hk, h.2.1.trans hk (fun _ _ f => f.elim), h.2.2⟩
theorem Runs.done {W w w' : World} {b g c mb mg mc : Nat} {s s' : Int × List Pk} {e : Ending} (h : Runs W w b g c mb mg mc s) (hd : Done w b g c mb mg mc s' e w') : Runs W w' b g c mb mg mc s' :=
  ⟨hd.2.1, h.2.1.trans hd.2.2 (fun _ _ e => h.2.2 _ e), h.2.2⟩
theorem Runs.below {W w : World} {b g c mb mg mc : Nat} {s : Int × List Pk} (h : Runs W w b g c mb mg mc s) : Below W.heap.size W w := h.2.1.below (Nat.le_refl _) (fun _ h => h)

/-- A new table, and behind it a new model. -/
theorem Runs.made {W w2 w3 : World} {b g n : Nat} (hT : Tab w2 b g n 0 (List.replicate n Pk.zero)) (hK : Kept (fun k => W.heap.size ≤ k) W w2) (hb : W.heap.size ≤ b) (hg : W.heap.size ≤ g)
    (hown : w3.ownsRow 0 41 4 (.slice (some ⟨w2.heap.size, 0, none⟩) n n) n (madeCells #[.bool false, .bool false, .bool false, .int .i64 0] (n * 4)).toList) (hgrow : w2.grownBy w3 none) (hn : n ≤ 8) :
    Runs W (w3.alloc (.cells #[.slice (some ⟨w2.heap.size, 0, none⟩) n n, .int .i64 0] 33)) b g n w3.heap.size w2.heap.size n (fresh n) := by
  rw [made_parks] at hown
  have hR : Row w3 w2.heap.size n 41 4 Pk.cells (List.replicate n Pk.zero) := Row.made (by simp) hown
  have hk3 : Kept (fun _ => False) w2 w3 := (Kept.refl _ w2).grown hgrow (fun _ _ e => by simp at e)
  have hs1 := hK.size
  have hs3 := hk3.size
  have hlt := hT.lt
  refine ⟨⟨hT.kept (hk3.alloc _) (fun f => f) (fun f => f), Ref.made hR hn, by omega, by omega, by omega, by omega⟩, (hK.trans hk3 (fun _ _ f => f.elim)).alloc _, fun k hk => ?_⟩
  rcases hk with rfl | rfl | rfl | rfl <;> omega

end Go.Proofs.Ytdphbigkgdeecaa
