/-
  An arena beside a slice of the law's own that shares no memory with it: what package cell's calls, and stores into the slice, do to the two.
  Conditions: the arena is of at most 4096 cells.
-/
import Derived.Test.YtokfkkmkfgdclaaOne
import Derived.Maps.AppendAt
import Derived.RegionTactic
namespace Go.Proofs.Ytokfkkmkfgdclaa
open Go.RowKit

/-- Block b holds an arena whose cells are zs; the slice at ao owns ys; both were made since W, and they share nothing. -/
def Play (W w : World) (b : Nat) (most : Int) (zs : List Int) (ao : Option Addr) (cap : Nat) (ys : List Int) : Prop :=
  ∃ og, Arena w b og most zs ∧ w.ownsRow 0 2 1 (.slice ao ys.length cap) ys.length (ys.map (Value.int .i64)) ∧ (∀ g, Value.ownBlock (.slice ao ys.length cap) = some g → W.heap.size ≤ g ∧ ¬ Foot b og g) ∧ (∀ k, Foot b og k → W.heap.size ≤ k) ∧ Kept (fun k => W.heap.size ≤ k) W w

theorem row_kept {S : Nat → Prop} {w w' : World} {base : Nat} {e : TypeId} {size : Nat} {v : Value} {n : Nat} {xs : List Value} (h : w.ownsRow base e size v n xs) (hk : Kept S w w') (hg : ∀ g, v.ownBlock = some g → ¬ S g) : w'.ownsRow base e size v n xs := by
  refine ⟨h.1, ?_⟩
  rcases h.2 with hn | ⟨g, cap, cur, rfl, hbg, hgg, rest⟩
  · exact .inl hn
  · exact .inr ⟨g, cap, cur, rfl, hbg, (hk.block g (Array.getElem?_eq_some_iff.1 hgg).1 (hg g rfl)).trans hgg, rest⟩

theorem Play.step {S : Nat → Prop} {W w w' : World} {b : Nat} {most : Int} {zs ys : List Int} {ao : Option Addr} {cap : Nat} (h : Play W w b most zs ao cap ys) (hk : Kept S w w') (hS : ∀ k, k < w.heap.size → ¬ S k) : Play W w' b most zs ao cap ys := by
  obtain ⟨og, hA, hown, hg, hf, hK⟩ := h
  have hbl := hA.lt
  have hgl := hA.rowLt
  have hol := hown.lt
  exact ⟨og, hA.kept hk (hS b hbl) (fun g e => hS g (hgl g e).1), row_kept hown hk (fun g e => hS g (hol g e).2), hg, hf, hK.trans hk (fun i hi s => absurd s (hS i (Nat.lt_of_lt_of_le hi hK.size)))⟩

theorem Play.alloc {W w : World} {b : Nat} {most : Int} {zs ys : List Int} {ao : Option Addr} {cap : Nat} (h : Play W w b most zs ao cap ys) (o : Obj) : Play W (w.alloc o) b most zs ao cap ys :=
  h.step (S := fun _ => False) ((Kept.refl _ w).alloc o) (fun _ _ f => f)
theorem Play.drew {W w : World} {b : Nat} {most : Int} {zs ys : List Int} {ao : Option Addr} {cap : Nat} (h : Play W w b most zs ao cap ys) : Play W w.drew b most zs ao cap ys :=
  h.step (S := fun _ => False) (Kept.refl _ w).drew (fun _ _ f => f)
theorem Play.drewN {W w : World} {b : Nat} {most : Int} {zs ys : List Int} {ao : Option Addr} {cap : Nat} (h : Play W w b most zs ao cap ys) (k : Nat) : Play W (w.drewN k) b most zs ao cap ys :=
  h.step (S := fun _ => False) (Kept.drewN w k) (fun _ _ f => f)

theorem Play.one {W w : World} {b : Nat} {most : Int} {zs ys : List Int} {ao : Option Addr} {cap : Nat} (h : Play W w b most zs ao cap ys) : One W w b most zs := by
  obtain ⟨og, hA, hown, hg, hf, hK⟩ := h
  exact ⟨og, hA, hf b (.inl rfl), fun g e => hf g (.inr e), hK⟩

theorem Play.begin {W w : World} {b : Nat} {most : Int} {zs : List Int} (h : One W w b most zs) : Play W w b most zs none 0 [] := by
  obtain ⟨og, hA, hb, hg, hK⟩ := h
  refine ⟨og, hA, World.ownsRow_nil _ _ _ _, fun g e => by simp [Value.ownBlock] at e, fun k hk => ?_, hK⟩
  rcases hk with rfl | hk
  · exact hb
  · exact hg k hk

/-- An element of the slice. -/
theorem Play.at {W w : World} {b : Nat} {most : Int} {zs ys : List Int} {ao : Option Addr} {cap : Nat} (h : Play W w b most zs ao cap ys) (i : Nat) (hi : i < ys.length) :
    ∃ g, ao = some ⟨g, 0, none⟩ ∧ w.cell? ⟨g, i, none⟩ = some (.int .i64 (ys.getD i 0)) ∧ w.frozen? ⟨g, i, none⟩ = false := by
  obtain ⟨og, hA, hown, hg, hf, hK⟩ := h
  rcases hown.2 with ⟨hv, h0⟩ | ⟨g, cap', cur, hv, hbg, hgg, hn, hm, hs, ht⟩
  · omega
  · simp only [Value.slice.injEq] at hv
    obtain ⟨rfl, _, rfl⟩ := hv
    refine ⟨g, rfl, ?_, frozen_at w g i _ _ hgg⟩
    rw [cell_at w g i _ _ hgg]
    have h1 : (ys.map (Value.int .i64))[i]? = some (.int .i64 (ys.getD i 0)) := by simp [List.getD, hi]
    rw [← ht, List.getElem?_take] at h1
    split at h1
    · simpa using h1
    · cases h1

/-- A store into the slice. -/
theorem Play.set {W w : World} {b g : Nat} {most : Int} {zs ys : List Int} {cap : Nat} (h : Play W w b most zs (some ⟨g, 0, none⟩) cap ys) (i : Nat) (v : Int) :
    Play W (w.setCell ⟨g, i, none⟩ (.int .i64 v)) b most zs (some ⟨g, 0, none⟩) cap (ys.set i v) := by
  obtain ⟨og, hA, hown, hg, hf, hK⟩ := h
  have hst := (hown.stored i (.int .i64 v)).1
  obtain ⟨hw, hn⟩ := hg g rfl
  have hk : Kept (fun k => k = g) w (w.setCell ⟨g, i, none⟩ (.int .i64 v)) := (Kept.refl _ _).setCell _ _ (fun _ => rfl)
  refine ⟨og, hA.kept hk (fun e => hn (.inl e.symm)) (fun k e h => hn (.inr (h ▸ e))), by simpa [List.map_set] using hst, by simpa using hg, hf, hK.trans hk (fun i _ e => by rw [e]; exact hw)⟩

/-- Blocks that hold neither an arena nor 64-bit cells are as they were. -/
def Others (w w' : World) : Prop := ∀ (k : Nat) (cs : Array Value) (t : TypeId) (f : Nat × Nat), w.heap[k]? = some (.cells cs t f) → t ≠ 51 → t ≠ 2 → w'.heap[k]? = some (.cells cs t f)

theorem Arena.others {w w' : World} {b : Nat} {og : Option Nat} {most : Int} {zs : List Int} (h : Arena w b og most zs) (hk : Kept (Foot b og) w w') : Others w w' := by
  obtain ⟨v, hb, hown, ho, hne⟩ := h
  intro k cs t f hc h1 h2
  refine (hk.block k (Array.getElem?_eq_some_iff.1 hc).1 (fun hf => ?_)).trans hc
  rcases hf with hf | hf
  · subst hf
    rw [hb] at hc
    simp only [Option.some.injEq, Obj.cells.injEq] at hc
    exact h1 hc.2.1.symm
  · rcases hown.2 with ⟨rfl, h0⟩ | ⟨g, cap, cur, rfl, hbg, hgg, _⟩
    · rw [← ho] at hf; simp [Value.ownBlock] at hf
    · rw [← ho] at hf
      have : g = k := by simpa [Value.ownBlock] using hf
      subst this
      rw [hgg] at hc
      simp only [Option.some.injEq, Obj.cells.injEq] at hc
      exact h2 hc.2.1.symm

theorem Play.stored {W w w' : World} {b : Nat} {og : Option Nat} {most : Int} {zs zs' ys : List Int} {ao : Option Addr} {cap : Nat} (_hA : Arena w b og most zs) (hown : w.ownsRow 0 2 1 (.slice ao ys.length cap) ys.length (ys.map (Value.int .i64)))
    (hg : ∀ g, Value.ownBlock (.slice ao ys.length cap) = some g → W.heap.size ≤ g ∧ ¬ Foot b og g) (hf : ∀ k, Foot b og k → W.heap.size ≤ k) (hK : Kept (fun k => W.heap.size ≤ k) W w) (hs : Stored w b og most zs' w') : Play W w' b most zs' ao cap ys :=
  ⟨og, hs.1, row_kept hown hs.2 (fun g e h => (hg g e).2 (.inr h)), hg, hf, hK.trans hs.2 (fun i _ e => hf i (.inr e))⟩

theorem play_store_in {W w : World} {b : Nat} {most : Int} {zs ys : List Int} {ao : Option Addr} {cap : Nat} (at' v : Int) (hP : Play W w b most zs ao cap ys) (h : 1 ≤ at') (h2 : at' ≤ (zs.length : Int)) :
    Calls Try.prog 14 #[.pointer (some ⟨b, 0, none⟩), .int .i64 at', .int .i64 v] w fun e w' => e = .returned .nilIface ∧ Play W w' b most (zs.set (at'.toNat - 1) v) ao cap ys ∧ Others w w' := by
  obtain ⟨og, hA, hown, hg, hf, hK⟩ := hP
  exact (store_in at' v w hA h h2).mono fun _ _ ⟨he, hs⟩ => ⟨he, Play.stored hA hown hg hf hK hs, hA.others (hs.2.mono fun _ _ e => .inr e)⟩

theorem play_swap_yes {W w : World} {b : Nat} {most : Int} {zs ys : List Int} {ao : Option Addr} {cap : Nat} (at' old v : Int) (hP : Play W w b most zs ao cap ys) (h : 1 ≤ at') (h2 : at' ≤ (zs.length : Int)) (he : zs.getD (at'.toNat - 1) 0 = old) :
    Calls Try.prog 17 #[.pointer (some ⟨b, 0, none⟩), .int .i64 at', .int .i64 old, .int .i64 v] w fun e w' => e = .returned (.tuple #[.bool true, .nilIface]) ∧ Play W w' b most (zs.set (at'.toNat - 1) v) ao cap ys ∧ Others w w' := by
  obtain ⟨og, hA, hown, hg, hf, hK⟩ := hP
  exact (swap_yes at' old v w hA h h2 he).mono fun _ _ ⟨he, hs⟩ => ⟨he, Play.stored hA hown hg hf hK hs, hA.others (hs.2.mono fun _ _ e => .inr e)⟩

theorem play_alloc_in {W w : World} {b : Nat} {most : Int} {zs ys : List Int} {ao : Option Addr} {cap : Nat} (n : Int) (hP : Play W w b most zs ao cap ys) (hm0 : 0 ≤ most) (hm : most ≤ 4096) (h : 1 ≤ n) (h2 : n ≤ most - zs.length) :
    Calls Try.prog 13 #[.pointer (some ⟨b, 0, none⟩), .int .i64 n] w fun e w' => e = .returned (.tuple #[.int .i64 (zs.length + 1), .nilIface]) ∧ Play W w' b most (zs ++ List.replicate n.toNat 0) ao cap ys ∧ Others w w' := by
  obtain ⟨og, hA, hown, hg, hf, hK⟩ := hP
  have hbl := hA.lt
  have hgl := hA.rowLt
  have hol := hown.lt
  have hz := hK.size
  refine (alloc_in n w hA hm0 hm h h2).mono fun e w' ⟨he, og', hA', hk', ho⟩ => ⟨he, ⟨og', hA', row_kept hown hk' (fun g e => (hg g e).2), fun g e => ⟨(hg g e).1, fun hj => ?_⟩, fun k hk => ?_, hK.trans hk' (fun i _ e => hf i e)⟩, hA.others hk'⟩
  · rcases hj with hj | hj
    · exact (hg g e).2 (.inl hj)
    · rcases ho with ho | ⟨g', ho, hl⟩
      · exact (hg g e).2 (.inr (by rw [← ho]; exact hj))
      · rw [ho] at hj; cases hj
        have := (hol _ e).2; omega
  · rcases hk with hk | hk
    · exact hf k (.inl hk)
    · rcases ho with ho | ⟨g', ho, hl⟩
      · exact hf k (.inr (by rw [← ho]; exact hk))
      · rw [ho] at hk; cases hk; omega

theorem play_alloc_full {W w : World} {b : Nat} {most : Int} {zs ys : List Int} {ao : Option Addr} {cap : Nat} (n : Int) (hP : Play W w b most zs ao cap ys) (hm0 : 0 ≤ most) (hm : most ≤ 4096) (h : 1 ≤ n) (h2 : most - zs.length < n) :
    Calls Try.prog 13 #[.pointer (some ⟨b, 0, none⟩), .int .i64 n] w fun e w' => e = .returned (.tuple #[.int .i64 0, .iface 28 (.int .i64 3)]) ∧ Play W w' b most zs ao cap ys ∧ Others w w' := by
  obtain ⟨og, hA, rest⟩ := hP
  exact (alloc_full n w hA hm0 hm h h2).mono fun _ _ ⟨he, k, hw⟩ => ⟨he, by subst hw; exact ⟨Play.drewN ⟨og, hA, rest⟩ k, fun _ _ _ _ hc _ _ => hc⟩⟩

theorem Others.cell {w w' : World} (h : Others w w') {k : Nat} {cs : Array Value} {t : TypeId} (hc : w.heap[k]? = some (.cells cs t (0, 0))) (h1 : t ≠ 51) (h2 : t ≠ 2) (j : Nat) : w'.cell? ⟨k, j, none⟩ = cs[j]? :=
  cell_at w' k j cs t (h k cs t (0, 0) hc h1 h2)

/-- The slice is another one, in new memory. -/
theorem Play.renew {W w w' : World} {b g n cap' : Nat} {most : Int} {zs ys ys' : List Int} {ao : Option Addr} {cap : Nat} (h : Play W w b most zs ao cap ys) (hn : n = ys'.length) (hown : w'.ownsRow 0 2 1 (.slice (some ⟨g, 0, none⟩) n cap') n (ys'.map (Value.int .i64)))
    (hg' : w.heap.size ≤ g) (hk : Kept (fun _ => False) w w') : Play W w' b most zs (some ⟨g, 0, none⟩) cap' ys' := by
  subst hn
  obtain ⟨og, hA, hown0, hg, hf, hK⟩ := h
  have hbl := hA.lt
  have hgl := hA.rowLt
  have hz := hK.size
  refine ⟨og, hA.kept hk (fun f => f) (fun _ _ f => f), hown, fun k e => ?_, hf, hK.trans hk (fun _ _ f => f.elim)⟩
  have : k = g := by simpa [Value.ownBlock] using e.symm
  subst this
  refine ⟨by omega, fun hj => ?_⟩
  rcases hj with hj | hj
  · omega
  · have := (hgl _ hj).1; omega

section
variable {P : Program} (w : World)

/-- append(s, x...) on a slice of the call's own, where x is nil or owns its cells. -/
theorem run_append_src (base : Nat) (t ty e : TypeId) (i : TypeInfo) (z : Value) (size bytes : Nat) (ht : P.underlying t = some (.slice e)) (hi : P.info? e = some i) (hz : i.zero = some z)
    (hsize : i.size = size) (hby : i.bytes = bytes) (hzs : z.cells.size = size) (hsz : 0 < size)
    (v : Value) (n : Nat) (xs : List Value) (hown : w.ownsRow base e size v n xs)
    (base' : Nat) (x : Value) (m : Nat) (news : List Value) (hsrc : w.ownsRow base' e size x m news) (h1 : ∀ u ∈ news, u.oneCell' = true)
    (h63 : n + m ≤ maxLen) (hbytes : (n + m) * bytes ≤ 140737488355328) (hbase : base ≤ w.heap.size) :
    ∃ v' w', (Builtin.append_ #[t, t] ty #[v, x]).run P w = .ok v' w' ∧ w'.ownsRow base e size v' (n + m) (xs ++ news) ∧ w.grownBy w' v.ownBlock ∧ (v'.ownBlock = v.ownBlock ∨ v'.ownBlock = some w.heap.size) := by
  rcases hsrc.2 with ⟨rfl, rfl⟩ | ⟨g, cap, cur, rfl, _⟩
  · have hx : news = [] := List.eq_nil_of_length_eq_zero (by simpa using hsrc.1)
    subst hx
    refine ⟨v, w, ?_, by simpa using hown, ⟨rfl, rfl, rfl, Nat.le_refl _, fun _ _ _ => rfl⟩, .inl rfl⟩
    rcases hown.2 with ⟨rfl, rfl⟩ | ⟨g, cap, cur, rfl, _, _, hnc, _⟩
    · simp [Builtin.append_, run_underlying ht, sizeOf, typeInfo, hi, Builtin.lenOf, Builtin.firstCells]
    · simp [Builtin.append_, run_underlying ht, sizeOf, typeInfo, hi, Builtin.lenOf, Builtin.firstCells, hnc, storeCells]
  · obtain ⟨v', w', hrun, h2, h3, _, h5⟩ := run_append_own_at (P := P) w base t ty e i z size bytes ht hi hz hsize hby hzs hsz v n xs hown ⟨g, 0, none⟩ m cap news hsrc.1 (hsrc.cells (g := g) rfl) h1 h63 hbytes hbase
    exact ⟨v', w', hrun, h2, h3, h5⟩

/-- The same at a step of a region that draws its order. -/
theorem step_append_src {ops : Array Oper} {o : Oper} {a : Act} {K : Act → World → Prop} {Q : Exit → Act → World → Prop} {E : Prop} (hgd : o.guard = none) (s x : Operand) (t : TypeId)
    (ho : o.op = .call { callee := .builtin .append, args := #[s, x], argTypes := #[t, t] })
    (base : Nat) (e : TypeId) (i : TypeInfo) (z : Value) (size bytes : Nat) (ht : P.underlying t = some (.slice e)) (hi : P.info? e = some i) (hz : i.zero = some z)
    (hsize : i.size = size) (hby : i.bytes = bytes) (hzs : z.cells.size = size) (hsz : 0 < size)
    (v : Value) (n : Nat) (xs : List Value) (hs : a.eval s = v) (hown : w.ownsRow base e size v n xs)
    (base' : Nat) (vx : Value) (m : Nat) (news : List Value) (hx : a.eval x = vx) (hsrc : w.ownsRow base' e size vx m news) (h1 : ∀ u ∈ news, u.oneCell' = true)
    (h63 : n + m ≤ maxLen) (hbytes : (n + m) * bytes ≤ 140737488355328) (hbase : base ≤ w.heap.size)
    (h : ∀ v' w', w'.ownsRow base e size v' (n + m) (xs ++ news) → w.grownBy w' v.ownBlock → (v'.ownBlock = v.ownBlock ∨ v'.ownBlock = some w.heap.size) → K (a.put o.dst v') w') :
    if Region.wanted o (yielded ops a.tmps) = true then Oper.wp P o a w K Q else E := by
  have hw : Region.wanted o (yielded ops a.tmps) = true := by simp [Region.wanted, hgd]
  rw [if_pos hw]
  obtain ⟨v', w', hrun, h2, h3, h4⟩ := run_append_src (P := P) w base t o.type e i z size bytes ht hi hz hsize hby hzs hsz v n xs hown base' vx m news hsrc h1 h63 hbytes hbase
  unfold Oper.wp execOp
  simp only [ho, resolve, invoke, builtin, Sem.run_bind, Sem.run_pure, Result.andThen_ok, List.map_toArray, List.map_cons, List.map_nil, hs, hx, hrun]
  exact h v' w' h2 h3 h4

theorem step_append_zeros {ops : Array Oper} {o : Oper} {a : Act} {K : Act → World → Prop} {Q : Exit → Act → World → Prop} {E : Prop} (hgd : o.guard = none) (s x : Operand) (t tn : TypeId)
    (ho : o.op = .call { callee := .builtin .append, args := #[s, x], argTypes := #[t, tn] })
    (base : Nat) (e : TypeId) (i : TypeInfo) (z : Value) (kq kn : IntKind) (size bytes : Nat) (ht : P.underlying t = some (.slice e)) (htn : P.underlying tn = some (.int kn)) (hi : P.info? e = some i) (hz : i.zero = some z)
    (hsize : i.size = size) (hby : i.bytes = bytes) (hzs : z.cells.size = size) (hsz : 0 < size)
    (v : Value) (n : Nat) (xs : List Value) (hs : a.eval s = v) (hown : w.ownsRow base e size v n xs)
    (m : Nat) (hx : a.eval x = .int kq m) (h0 : 0 < m) (h1 : ∀ u ∈ (Builtin.zeroCells z.cells m).toList, u.oneCell' = true)
    (h63 : n + m ≤ maxLen) (hbytes : (n + m) * bytes ≤ 140737488355328) (hbase : base ≤ w.heap.size)
    (h : ∀ g cap w', w'.ownsRow base e size (.slice (some ⟨g, 0, none⟩) (n + m) cap) (n + m) (xs ++ (Builtin.zeroCells z.cells m).toList) → w.grownBy w' v.ownBlock → (v.ownBlock = some g ∨ g = w.heap.size) → K (a.put o.dst (.slice (some ⟨g, 0, none⟩) (n + m) cap)) w') :
    if Region.wanted o (yielded ops a.tmps) = true then Oper.wp P o a w K Q else E := by
  have hw : Region.wanted o (yielded ops a.tmps) = true := by simp [Region.wanted, hgd]
  rw [if_pos hw]
  obtain ⟨v', w', hrun, h2, h3, h4⟩ := run_append_own_zeros (P := P) w base t tn o.type e i z kq kn size bytes ht htn hi hz hsize hby hzs hsz v n xs hown m h0 h1 h63 hbytes hbase
  unfold Oper.wp execOp
  simp only [ho, resolve, invoke, builtin, Sem.run_bind, Sem.run_pure, Result.andThen_ok, List.map_toArray, List.map_cons, List.map_nil, hs, hx, hrun]
  obtain ⟨g, cap, rfl⟩ : ∃ g cap, v' = .slice (some ⟨g, 0, none⟩) (n + m) cap := by
    rcases h2.2 with ⟨_, h0⟩ | ⟨g, cap, _, h0, _⟩
    · omega
    · exact ⟨g, cap, h0⟩
  refine h g cap w' h2 h3 ?_
  rcases h4 with h4 | h4
  · exact .inl (by rw [← h4]; rfl)
  · exact .inr (by simpa [Value.ownBlock] using h4)
end

end Go.Proofs.Ytokfkkmkfgdclaa
