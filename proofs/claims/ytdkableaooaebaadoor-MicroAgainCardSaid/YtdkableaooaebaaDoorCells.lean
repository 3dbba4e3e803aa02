/-
  Arenas in memory, as layer 1 makes them: what a block that holds one is, what a step leaves as it was, and a law for append(s, make([]int64, n)...) on a slice of the call's own.
  Conditions: none; these are lemmas on worlds for the walks.
-/
import Derived.Test.YtdkableaooaebaaDoorKept
import Derived.WalkKit
import Derived.Lib.Hide
import Derived.Lib.AppendZerosOnto
namespace Go.Proofs.YtdkableaooaebaaDoor
open Go.RowKit

/-- Block b holds an arena of at most 'most' cells, which are zs; og: the block of their row, if there is one. -/
def Arena (w : World) (b : Nat) (og : Option Nat) (most : Int) (zs : List Int) : Prop :=
  ∃ v, w.heap[b]? = some (.cells #[.int .i64 most, v] 62 (0, 0)) ∧ w.ownsRow 0 2 1 v zs.length (zs.map (Value.int .i64)) ∧ v.ownBlock = og ∧ og ≠ some b

/-- What an arena takes up. -/
def Foot (b : Nat) (og : Option Nat) (k : Nat) : Prop := k = b ∨ og = some k

theorem Arena.lt {w : World} {b : Nat} {og : Option Nat} {most : Int} {zs : List Int} (h : Arena w b og most zs) : b < w.heap.size := by
  obtain ⟨v, hb, _⟩ := h
  exact (Array.getElem?_eq_some_iff.1 hb).1

theorem Arena.rowLt {w : World} {b : Nat} {og : Option Nat} {most : Int} {zs : List Int} (h : Arena w b og most zs) : ∀ g, og = some g → g < w.heap.size ∧ g ≠ b := by
  obtain ⟨v, hb, hown, ho, hne⟩ := h
  intro g hg
  refine ⟨(hown.lt g (ho.trans hg)).2, ?_⟩
  intro e; exact hne (by rw [hg, e])

theorem Arena.kept {S : Nat → Prop} {w w' : World} {b : Nat} {og : Option Nat} {most : Int} {zs : List Int} (h : Arena w b og most zs) (hk : Kept S w w') (h0 : ¬ S b) (h1 : ∀ g, og = some g → ¬ S g) : Arena w' b og most zs := by
  have hl := h.lt
  obtain ⟨v, hb, hown, ho, hne⟩ := h
  refine ⟨v, (hk.block b hl h0).trans hb, ⟨hown.1, ?_⟩, ho, hne⟩
  rcases hown.2 with hn | ⟨g, cap, cur, rfl, hbg, hgg, rest⟩
  · exact .inl hn
  · have hg : og = some g := by rw [← ho]; rfl
    exact .inr ⟨g, cap, cur, rfl, hbg, (hk.block g (Array.getElem?_eq_some_iff.1 hgg).1 (h1 g hg)).trans hgg, rest⟩

theorem Arena.drew {w : World} {b : Nat} {og : Option Nat} {most : Int} {zs : List Int} (h : Arena w b og most zs) : Arena w.drew b og most zs :=
  h.kept (S := fun _ => False) (Kept.refl _ _).drew (fun f => f) (fun _ _ f => f)

theorem Arena.alloc {w : World} {b : Nat} {og : Option Nat} {most : Int} {zs : List Int} (h : Arena w b og most zs) (o : Obj) : Arena (w.alloc o) b og most zs :=
  h.kept (S := fun _ => False) ((Kept.refl _ _).alloc o) (fun f => f) (fun _ _ f => f)

/-- A new one. -/
theorem Arena.made (w : World) (most : Int) : Arena (w.alloc (.cells #[.int .i64 most, .slice none 0 0] 62)) w.heap.size none most [] :=
  ⟨_, heap_alloc_new w _, World.ownsRow_nil _ _ _ _, rfl, by simp⟩

/-- Its two fields. -/
theorem Arena.fields {w : World} {b : Nat} {og : Option Nat} {most : Int} {zs : List Int} (h : Arena w b og most zs) :
    ∃ ao cap, w.cell? ⟨b, 0, none⟩ = some (.int .i64 most) ∧ w.cell? ⟨b, 1, none⟩ = some (.slice ao zs.length cap) ∧ w.frozen? ⟨b, 1, none⟩ = false ∧ zs.length ≤ maxLen ∧
      (og = none → ao = none ∧ cap = 0 ∧ zs = []) ∧ (∀ g, og = some g → ao = some ⟨g, 0, none⟩) := by
  obtain ⟨v, hb, hown, ho, hne⟩ := h
  rcases hown.2 with ⟨rfl, h0⟩ | ⟨g, cap, cur, rfl, hbg, hgg, hn, hm, hs, ht⟩
  · have hz : zs = [] := List.eq_nil_of_length_eq_zero h0
    subst hz
    refine ⟨none, 0, by rw [cell_at w b 0 _ _ hb]; rfl, by rw [cell_at w b 1 _ _ hb]; rfl, frozen_at w b 1 _ _ hb, by simp, fun _ => ⟨rfl, rfl, rfl⟩, fun g hg => ?_⟩
    rw [← ho] at hg; simp [Value.ownBlock] at hg
  · refine ⟨some ⟨g, 0, none⟩, cap, by rw [cell_at w b 0 _ _ hb]; rfl, by rw [cell_at w b 1 _ _ hb]; rfl, frozen_at w b 1 _ _ hb, by omega, fun e => ?_, fun g' hg => ?_⟩
    · rw [← ho] at e; simp [Value.ownBlock] at e
    · rw [← ho] at hg; simp [Value.ownBlock] at hg; subst hg; rfl

/-- A cell of it, where there is one. -/
theorem Arena.at {w : World} {b : Nat} {og : Option Nat} {most : Int} {zs : List Int} (h : Arena w b og most zs) (i : Nat) (hi : i < zs.length) :
    ∃ g cap, og = some g ∧ g ≠ b ∧ zs.length ≤ maxLen ∧ w.cell? ⟨b, 1, none⟩ = some (.slice (some ⟨g, 0, none⟩) zs.length cap) ∧ w.cell? ⟨g, i, none⟩ = some (.int .i64 (zs.getD i 0)) ∧ w.frozen? ⟨g, i, none⟩ = false := by
  obtain ⟨v, hb, hown, ho, hne⟩ := h
  rcases hown.2 with ⟨rfl, h0⟩ | ⟨g, cap, cur, rfl, hbg, hgg, hn, hm, hs, ht⟩
  · omega
  · have hog : og = some g := by rw [← ho]; rfl
    refine ⟨g, cap, hog, fun e => hne (by rw [hog, e]), by omega, by rw [cell_at w b 1 _ _ hb]; rfl, ?_, frozen_at w g i _ _ hgg⟩
    rw [cell_at w g i _ _ hgg]
    have h1 : (zs.map (Value.int .i64))[i]? = some (.int .i64 (zs.getD i 0)) := by simp [List.getD, hi]
    rw [← ht, List.getElem?_take] at h1
    split at h1
    · simpa using h1
    · cases h1

/-- A cell of it is written. -/
theorem Arena.set {w : World} {b g : Nat} {most : Int} {zs : List Int} (h : Arena w b (some g) most zs) (i : Nat) (hi : i < zs.length) (v : Int) :
    Arena (w.setCell ⟨g, i, none⟩ (.int .i64 v)) b (some g) most (zs.set i v) := by
  obtain ⟨x, hb, hown, ho, hne⟩ := h
  have hgb : g ≠ b := fun e => hne (by rw [e])
  rcases hown.2 with ⟨rfl, h0⟩ | ⟨g', cap, cur, rfl, hbg, hgg, hn, hm, hs, ht⟩
  · omega
  · have hgg' : g' = g := by simpa [Value.ownBlock] using ho
    subst hgg'
    refine ⟨_, (Below.heap_setCell w _ _ b (Ne.symm hgb)).trans hb, ⟨by simp, .inr ⟨g', cap, cur.set! i (.int .i64 v), by simp, hbg, ?_, by simpa using hn, hm, by simpa using hs, ?_⟩⟩, rfl, hne⟩
    · simp only [World.setCell, Array.getElem?_modify]
      simp [hgg]
    · simp only [List.length_set, Nat.mul_one] at ht ⊢
      rw [List.map_set, ← ht]
      simp [List.take_set]

section
variable {P : Program} (w : World)

/-- append(s, make([]T, m)...) where there is room for m more: the zeros are laid behind what s holds. -/
theorem run_append_room_zeros (t tn ty e : TypeId) (i : TypeInfo) (z : Value) (kq kn : IntKind) (ht : P.underlying t = some (.slice e)) (htn : P.underlying tn = some (.int kn)) (hi : P.info? e = some i) (hz : i.zero = some z)
    (g sLen sCap : Nat) (cur : Array Value) (hg : w.heap[g]? = some (.cells cur e (0, 0)))
    (m : Nat) (h0 : 0 < m) (hs : 0 < i.size) (hzs : z.cells.size = i.size) (h1 : ∀ u ∈ (Builtin.zeroCells z.cells m).toList, u.oneCell' = true) (h63 : (m : Int) ≤ 9223372036854775807) (h48 : m * i.bytes ≤ 281474976710656)
    (hroom : sLen + m ≤ sCap) (hfit : sLen * i.size + m * i.size ≤ cur.size) :
    (Builtin.append_ #[t, tn] ty #[.slice (some ⟨g, 0, none⟩) sLen sCap, .int kq m]).run P w =
      .ok (.slice (some ⟨g, 0, none⟩) (sLen + m) sCap) (w.setRow g (cur.toList.take (sLen * i.size) ++ (Builtin.zeroCells z.cells m).toList ++ cur.toList.drop (sLen * i.size + (Builtin.zeroCells z.cells m).toList.length)).toArray) := by
  have hm : m ≠ 0 := by omega
  have hw : IntKind.i64.wrap (m : Int) = m := by rw [IntKind.wrap_i64]; omega
  have h48i : ¬ (281474976710656 < (m : Int) * (i.bytes : Int)) := by
    rw [← Int.natCast_mul]
    omega
  have hneg : ¬ ((m : Int) < 0) := by omega
  have hns : ¬ (m * i.size = 0) := Nat.mul_ne_zero hm (by omega)
  have hst := run_storeCells_at P g (sLen * i.size) e (Builtin.zeroCells z.cells m).toList 0 cur w hg (by rw [Array.length_toList, size_zeroCells, hzs]; omega) h1
  simp only [Nat.add_zero] at hst
  simp [Builtin.append_, run_underlying ht, run_underlying htn, sizeOf, typeInfo, zeroValue, hi, hz, asInt, asIntOf, hw, hneg, hns, h48i, hroom, Addr.add_lit]
  simp at hst
  rw [hst]
  rfl

/-- append(s, make([]T, m)...) on a slice that is nil or the call's own: it may grow. -/
theorem run_append_own_zeros (base : Nat) (t tn ty e : TypeId) (i : TypeInfo) (z : Value) (kq kn : IntKind) (size bytes : Nat) (ht : P.underlying t = some (.slice e)) (htn : P.underlying tn = some (.int kn)) (hi : P.info? e = some i) (hz : i.zero = some z)
    (hsize : i.size = size) (hby : i.bytes = bytes) (hzs : z.cells.size = size) (hsz : 0 < size)
    (v : Value) (n : Nat) (xs : List Value) (hown : w.ownsRow base e size v n xs)
    (m : Nat) (h0 : 0 < m) (h1 : ∀ u ∈ (Builtin.zeroCells z.cells m).toList, u.oneCell' = true)
    (h63 : n + m ≤ maxLen) (hbytes : (n + m) * bytes ≤ 140737488355328) (hbase : base ≤ w.heap.size) :
    ∃ v' w', (Builtin.append_ #[t, tn] ty #[v, .int kq m]).run P w = .ok v' w' ∧ w'.ownsRow base e size v' (n + m) (xs ++ (Builtin.zeroCells z.cells m).toList) ∧ w.grownBy w' v.ownBlock ∧ (v'.ownBlock = v.ownBlock ∨ v'.ownBlock = some w.heap.size) := by
  subst hsize
  subst hby
  have hsmall : n + m ≤ 9223372036854775807 := by simp only [maxLen] at h63; omega
  have hl : (Builtin.zeroCells z.cells m).toList.length = m * i.size := by rw [Array.length_toList, size_zeroCells, hzs]
  have hlen : (xs ++ (Builtin.zeroCells z.cells m).toList).length = (n + m) * i.size := by rw [List.length_append, hown.1, hl, Nat.add_mul]
  have hmb : m * i.bytes ≤ 140737488355328 := Nat.le_trans (Nat.mul_le_mul_right _ (by omega)) hbytes
  have grown : ∀ (old : Nat), old < n + m → ∀ (row : Option Nat),
      (w.drew.alloc (.cells (xs.toArray ++ Builtin.zeroCells z.cells m ++ Builtin.zeroCells z.cells (grownCap w (n + m) old e - (n + m))) e)).ownsRow base e i.size
        (.slice (some ⟨w.heap.size, 0, none⟩) (n + m) (grownCap w (n + m) old e)) (n + m) (xs ++ (Builtin.zeroCells z.cells m).toList) ∧
      w.grownBy (w.drew.alloc (.cells (xs.toArray ++ Builtin.zeroCells z.cells m ++ Builtin.zeroCells z.cells (grownCap w (n + m) old e - (n + m))) e)) row := by
    intro old ho row
    have hge := grownCap_ge w (n + m) old e
    have hcm : grownCap w (n + m) old e ≤ maxLen := grownCap_le_maxLen w (n + m) old e h63
    refine ⟨⟨hlen, .inr ⟨w.heap.size, _, _, rfl, hbase, heap_alloc_new w.drew _, hge, hcm, ?_, ?_⟩⟩, ⟨rfl, rfl, rfl, by simp, fun k hk _ => Below.heap_alloc w.drew _ k hk⟩⟩
    · simp only [Array.size_append, List.size_toArray, size_zeroCells, hzs, hown.1, ← Nat.add_mul]
      congr 1
      omega
    · simp only [Array.toList_append]
      rw [← hlen]
      exact List.take_left
  rcases hown.2 with ⟨rfl, rfl⟩ | ⟨g, cap, cur, rfl, hbg, hg, hnc, hcm, hcs, htake⟩
  · have hx : xs = [] := List.eq_nil_of_length_eq_zero (by simpa using hown.1)
    subst hx
    have hr := Lib.run_append_nil_zeros (P := P) w t tn ty e i z kq kn ht htn hi hz m h0 hsz (by omega) (by omega)
    have hgr := grown 0 (by omega) (Value.ownBlock (.slice none 0 0))
    simp only [Nat.zero_add, List.nil_append, Array.empty_append] at hgr ⊢
    exact ⟨_, _, hr, hgr.1, hgr.2, .inr rfl⟩
  · by_cases hroom : n + m ≤ cap
    · have hfit : n * i.size + m * i.size ≤ cur.size := by rw [hcs, ← Nat.add_mul]; exact Nat.mul_le_mul_right _ hroom
      have hr := run_append_room_zeros (P := P) w t tn ty e i z kq kn ht htn hi hz g n cap cur hg m h0 hsz hzs h1 (by omega) (by omega) hroom hfit
      refine ⟨_, _, hr, ⟨hlen, .inr ⟨g, cap, _, rfl, hbg, setRow_heap w g cur _ e _ hg, hroom, hcm, ?_, ?_⟩⟩, ⟨rfl, rfl, rfl, by simp, fun k _ hk => setRow_other w g k _ (fun e => hk (by simp [Value.ownBlock, e]))⟩, .inl rfl⟩
      · simp only [List.size_toArray, List.length_append, List.length_take, List.length_drop, hl]
        simp only [Array.length_toList]
        omega
      · rw [htake, ← hlen]
        exact List.take_left
    · have holds : ∀ j u, xs[j]? = some u → w.cell? ((⟨g, 0, none⟩ : Addr).add j) = some u := hown.cells (g := g) rfl
      have hold := run_firstCells_some (P := P) w.drew i.size n ⟨g, 0, none⟩ n cap xs hown.1 (by simpa using holds)
      have hr := Lib.run_append_grow_zeros (P := P) w t tn ty e i z kq kn ht htn hi hz (some ⟨g, 0, none⟩) n cap xs hold m h0 hsz (by omega) (by omega) (by omega) (growslice_fits (by omega) hbytes)
      have hgr := grown cap (by omega) (Value.ownBlock (.slice (some ⟨g, 0, none⟩) n cap))
      exact ⟨_, _, hr, hgr.1, hgr.2, .inr rfl⟩

/-- The same at the walk's operation. -/
theorem wpList_append_own_zeros {ops : Array Oper} {rest : List Oper} {o : Oper} {a : Act} {Q : Exit → Act → World → Prop} (hgd : o.guard = none) (s x : Operand) (t tn : TypeId)
    (ho : o.op = .call { callee := .builtin .append, args := #[s, x], argTypes := #[t, tn] })
    (base : Nat) (e : TypeId) (i : TypeInfo) (z : Value) (kq kn : IntKind) (size bytes : Nat) (ht : P.underlying t = some (.slice e)) (htn : P.underlying tn = some (.int kn)) (hi : P.info? e = some i) (hz : i.zero = some z)
    (hsize : i.size = size) (hby : i.bytes = bytes) (hzs : z.cells.size = size) (hsz : 0 < size)
    (v : Value) (n : Nat) (xs : List Value) (hs : a.eval s = v) (hown : w.ownsRow base e size v n xs)
    (m : Nat) (hx : a.eval x = .int kq m) (h0 : 0 < m) (h1 : ∀ u ∈ (Builtin.zeroCells z.cells m).toList, u.oneCell' = true)
    (h63 : n + m ≤ maxLen) (hbytes : (n + m) * bytes ≤ 140737488355328) (hbase : base ≤ w.heap.size)
    (h : ∀ v' w', w'.ownsRow base e size v' (n + m) (xs ++ (Builtin.zeroCells z.cells m).toList) → w.grownBy w' v.ownBlock → (v'.ownBlock = v.ownBlock ∨ v'.ownBlock = some w.heap.size) → wpList P ops Q rest (a.put o.dst v') w') : wpList P ops Q (o :: rest) a w := by
  obtain ⟨v', w', hr, h2, h3, h4⟩ := run_append_own_zeros (P := P) w base t tn o.type e i z kq kn size bytes ht htn hi hz hsize hby hzs hsz v n xs hown m h0 h1 h63 hbytes hbase
  exact Lib.wpList_append_run w hgd s x t tn ho v (.int kq m) hs hx v' w' hr (h v' w' h2 h3 h4)

end

theorem zeroCells_int (m : Nat) : (Builtin.zeroCells (Value.cells (.int .i64 0)) m).toList = List.replicate m (Value.int .i64 0) := by
  apply List.ext_getElem
  · simp [Builtin.zeroCells, Value.cells]
  · intro j h1 h2
    simp [Builtin.zeroCells, Value.cells, Nat.mod_one]

end Go.Proofs.YtdkableaooaebaaDoor
