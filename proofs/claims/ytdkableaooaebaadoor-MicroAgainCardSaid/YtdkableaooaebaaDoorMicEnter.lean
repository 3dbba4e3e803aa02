/-
  What the program's enter comes to.
  Conditions: the step's row of frames has 1 to 16 of them; the place is at most 10^9.
-/
import Derived.Test.YtdkableaooaebaaDoorMicLeave
import Derived.Deep.RegionHeld3
import Derived.Deep.RegionLaw
namespace Go.Proofs.YtdkableaooaebaaDoor
open Go.RowKit

theorem info_frame : (Tryd.prog.info? 60).map (fun i => (i.zero, i.size, i.bytes)) = some (some (.agg #[.int .i64 0, .int .i64 0, .int .i64 0, .int .i64 0, .int .i64 0, .int .i64 0, .int .i64 0, .int .i64 0, .int .i64 0, .int .i64 0, .int .i64 0, .int .i64 0, .int .i64 0, .int .i64 0, .int .i64 0, .int .i64 0, .int .i64 0]), 17, 136) := by kernel_rfl
theorem fr_cell (xs : List Fr) : ∀ u ∈ flat Fr.cells xs, u.oneCell' = true := by
  intro u hu
  simp only [flat, List.mem_flatMap, Fr.cells, regsC, List.mem_cons, List.mem_map] at hu
  obtain ⟨x, _, h | ⟨j, _, h⟩⟩ := hu <;> subst h <;> rfl

section
variable {α : Type} {P : Program} (w : World) {f : α → List Value} {ys : List α}
/-- An append onto a row of the call's own: where it makes a new one, the old one stays. -/
theorem step_append_kept {ops : Array Oper} {o : Oper} {a : Act} {K : Act → World → Prop} {Q : Exit → Act → World → Prop} {E : Prop} (hgd : o.guard = none) (s x : Operand) (t : TypeId)
    (ho : o.op = .call { callee := .builtin .append, args := #[s, x], argTypes := #[t, t] })
    (base : Nat) (e : TypeId) (i : TypeInfo) (z : Value) (size bytes : Nat) (ht : P.underlying t = some (.slice e)) (hi : P.info? e = some i) (hz : i.zero = some z)
    (hsize : i.size = size) (hby : i.bytes = bytes) (hzs : z.cells.size = size) (hsz : 0 < size) (hf : ∀ x, (f x).length = size) (h1 : ∀ u ∈ flat f ys, u.oneCell' = true)
    (g n cap : Nat) (xs : List Value) (hs : a.eval s = .slice (some ⟨g, 0, none⟩) n cap) (hown : w.ownsRow base e size (.slice (some ⟨g, 0, none⟩) n cap) n xs)
    (B : Nat) (A : Option Addr) (c : Nat) (hx : a.eval x = .slice A ys.length c) (hE : Elems w B A size f ys) (hne : 0 < ys.length) (h63 : n + ys.length ≤ maxLen) (hbytes : (n + ys.length) * bytes ≤ 140737488355328) (hbase : base ≤ w.heap.size)
    (h : ∀ v' w', w'.ownsRow base e size v' (n + ys.length) (xs ++ flat f ys) → w.grownBy w' (some g) → (v'.ownBlock = some g ∨ (v'.ownBlock = some w.heap.size ∧ w.grownBy w' none)) → K (a.put o.dst v') w') :
    if Region.wanted o (yielded ops a.tmps) = true then Oper.wp P o a w K Q else E := by
  have hw : Region.wanted o (yielded ops a.tmps) = true := by simp [Region.wanted, hgd]
  rw [if_pos hw]
  obtain ⟨v', w', hrun, h2, h3, h4⟩ := run_append_elems (P := P) w base t o.type e i z size bytes ht hi hz hsize hby hzs hsz hf h1 _ n xs hown B A c hE h63 hbytes hbase
  have hgl : g < w.heap.size := (World.ownsRow.lt hown g rfl).2
  have h5 : v'.ownBlock = some g ∨ (v'.ownBlock = some w.heap.size ∧ w.grownBy w' none) := by
    rcases h4 with h4 | h4
    · exact .inl h4
    refine .inr ⟨h4, ?_⟩
    obtain ⟨y, hy⟩ : ∃ y, ys[0]? = some y := ⟨_, List.getElem?_eq_getElem hne⟩
    obtain ⟨ga, off, rfl, _, _⟩ := hE.2 0 y hy
    by_cases hroom : n + ys.length ≤ cap
    · have hsp : ∀ j, j < (flat f ys).length → (w.cell? ⟨g, 0 + n * i.size + j, none⟩).isSome = true ∧ w.frozen? ⟨g, 0 + n * i.size + j, none⟩ = false := by
        intro j hj
        rw [flat_len hf] at hj
        rcases hown.2 with ⟨h0, _⟩ | ⟨g', cap', cur, h6, _, hgg, _, _, h7, _⟩
        · cases h0
        simp only [Value.slice.injEq, Option.some.injEq, Addr.mk.injEq, and_true, true_and] at h6
        obtain ⟨rfl, rfl⟩ := h6
        refine ⟨?_, frozen_at w g _ _ _ hgg⟩
        rw [cell_at w g _ _ _ hgg, Option.isSome_iff_exists]
        have hlt : 0 + n * i.size + j < cur.size := by
          rw [h7, hsize, Nat.zero_add]
          have := Nat.mul_le_mul_right size hroom
          rw [Nat.add_mul] at this
          omega
        exact ⟨_, Array.getElem?_eq_getElem hlt⟩
      have hr := run_append_room_cells (P := P) w t o.type e i ht hi g 0 n cap ⟨ga, off, none⟩ ys.length c (flat f ys) (by rw [flat_len hf, hsize]) (hE.cells hf _ rfl) h1 hroom (fun j hj => (hsp j hj).1) (fun j hj => (hsp j hj).2)
      rw [hrun] at hr
      injection hr with e1 e2
      rw [e1] at h4
      have : g = w.heap.size := Option.some.inj h4
      omega
    · obtain ⟨v2, w2, hr, _, h6⟩ := run_append_arg_grows (P := P) w t o.type e i z size bytes ht hi hz hsize hby hzs hsz ⟨g, 0, none⟩ n cap xs hown.1 (World.ownsRow.cells hown rfl) ⟨ga, off, none⟩ ys.length c (flat f ys) (flat_len hf ys) (hE.cells hf _ rfl) (by omega) h63 hbytes
      rw [hrun] at hr
      injection hr with e1 e2
      rw [e2]
      exact h6
  unfold Oper.wp execOp
  simp only [ho, resolve, invoke, builtin, Sem.run_bind, Sem.run_pure, Result.andThen_ok, List.map_toArray, List.map_cons, List.map_nil, hs, hx, hrun]
  exact h v' w' h2 h3 h5
end

/-- What a call that may move the step's rows leaves. -/
def OnMo (L : Sp) (col : Nat → Nat) (d : Nat) (w : World) (s' : Ms) (w' : World) : Prop := ∃ col' k', On L col' k' d s' w' ∧ Goes col w col' w'

section
variable {L : Sp} {col : Nat → Nat} {k : Kp} {d : Nat} {s : Ms} {w : World}
theorem OnTo.mo {w' : World} {s' : Ms} (h : OnTo L col k d w s' w') : OnMo L col d w s' w' := ⟨col, k, h⟩

theorem enter_not (h : On L col k d s w) (hb : s.bs.length = 15) (op a b c n : Int) : Calls Tryd.prog 36 #[.pointer (some ⟨L.sb, 0, none⟩), .agg #[.int .i64 op, .int .i64 a, .int .i64 b, .int .i64 c, .int .i64 n]] w fun e w' => e = .returned (.int .i64 3) ∧ Kept (fun _ => False) w w' := by
  obtain ⟨⟨c0, c1, c2, c3, c4, c5, c6⟩, _⟩ := (h.alloc (.cells #[.int .i64 op, .int .i64 a, .int .i64 b, .int .i64 c, .int .i64 n] 46)).cells
  rw [hb] at c4
  clear h
  go_enter Tryd.func36, Tryd.ntmps36
  go_wp2_with fail
  go_ret
  exact ⟨rfl, (Kept.refl _ w).alloc _⟩

set_option maxRecDepth 100000 in
set_option maxHeartbeats 4000000 in
theorem enter_any (h : On L col k d s w) (hb : s.bs.length ≤ 14) (op a b c n : Int) (h0 : 0 ≤ s.f.pc) (h1 : s.f.pc ≤ 1000000000) :
    Calls Tryd.prog 36 #[.pointer (some ⟨L.sb, 0, none⟩), .agg #[.int .i64 op, .int .i64 a, .int .i64 b, .int .i64 c, .int .i64 n]] w fun e w' => e = .returned (.int .i64 0) ∧ OnMo L col d w { s with bs := s.bs ++ [s.f.go (s.f.pc + 1)], f := ⟨n, s.f.r⟩ } w' := by
  obtain ⟨i17, hi17, hz17, hn17, hb17⟩ := info_parts info_frame
  have HI := Lib.hid hi17; clear hi17
  have HZ := Lib.hid hz17; clear hz17
  have HN := Lib.hid hn17; clear hn17
  have HBY := Lib.hid hb17; clear hb17
  have h2 := h.alloc (.cells #[.int .i64 op, .int .i64 a, .int .i64 b, .int .i64 c, .int .i64 n] 46)
  have HKK := Lib.hid ((Kept.refl (fun _ => False) w).alloc (.cells #[.int .i64 op, .int .i64 a, .int .i64 b, .int .i64 c, .int .i64 n] 46))
  have HBB := Lib.hid (heap_new1 w (.cells #[.int .i64 op, .int .i64 a, .int .i64 b, .int .i64 c, .int .i64 n] 46))
  obtain ⟨⟨_, _, _, _, c4, _, _⟩, _⟩ := h2.cells
  have HLA := Lib.hid (last_any h2 (by omega))
  have HH := Lib.hid h2
  have HC0 := Lib.hid (h.new w.heap.size (Nat.le_refl _))
  clear h2 h
  obtain ⟨m, hm⟩ : ∃ m, s.bs.length = m := ⟨_, rfl⟩
  rw [hm] at c4 hb HLA
  have HM := Lib.hid hm; clear hm
  have hne : ¬ ((m : Int) + 1 = 16) := by omega
  have hw : IntKind.i64.wrap (s.f.pc + 1) = s.f.pc + 1 := IntWalk.i64_in _ (by omega)
  go_enter Tryd.func36, Tryd.ntmps36
  go_wp2_with fail
  refine (HLA.out).mono ?_
  rintro e w1 ⟨rfl, hk1⟩
  have H1 := Lib.hid (HH.out.kept0 hk1)
  have HK1 := Lib.hid (HKK.out.trans hk1 (fun _ _ f => f))
  have y0 := H1.out.pcAt
  rw [HM.out] at y0
  have f0 := H1.out.free (m * 17)
  have HB1 := Lib.hid (hk1.at0 HBB.out)
  clear hk1 HLA
  go_wp2_with fail
  generalize hW : World.setCell w1 _ _ = W
  have h2 : OnTo L col k d w1 (s.go (s.f.pc + 1)) W := by
    have := H1.out.goTo (s.f.pc + 1)
    rw [HM.out, hW] at this
    exact this
  have H2 := Lib.hid h2.1
  have HG2 := Lib.hid ((Goes.of0 (c := col) HK1.out).trans h2.2)
  have HB2 := Lib.hid (h2.2.at_ HB1.out HC0.out)
  have hsz := h2.2.kept.size
  clear h2 hW y0 f0 c4 HBB HKK HH
  have SF : Hid (∀ w', Kept (fun _ => False) W w' → w'.cell? ⟨L.sb, 4, none⟩ = some (.slice (some ⟨k.fg, 0, none⟩) (m + 1) k.fc) ∧ w'.cell? ⟨w.heap.size, 4, none⟩ = some (.int .i64 n) ∧ w'.rangeAt k.fg (m * 17 + 1) [.int .i64 (s.f.r 0), .int .i64 (s.f.r 1), .int .i64 (s.f.r 2), .int .i64 (s.f.r 3), .int .i64 (s.f.r 4), .int .i64 (s.f.r 5), .int .i64 (s.f.r 6), .int .i64 (s.f.r 7), .int .i64 (s.f.r 8), .int .i64 (s.f.r 9), .int .i64 (s.f.r 10), .int .i64 (s.f.r 11), .int .i64 (s.f.r 12), .int .i64 (s.f.r 13), .int .i64 (s.f.r 14), .int .i64 (s.f.r 15)]) := Lib.hid (fun w' hk => by
    have h3 := H2.out.kept0 hk
    obtain ⟨⟨_, _, _, _, c4, _, _⟩, _⟩ := h3.cells
    obtain ⟨_, _, _, _, b4, _⟩ := cells5 (hk.at0 HB2.out)
    have hm : (s.go (s.f.pc + 1)).bs.length = m := HM.out
    rw [hm] at c4
    refine ⟨c4, b4, fun j v hj => ?_⟩
    have e : [.int .i64 (s.f.r 0), .int .i64 (s.f.r 1), .int .i64 (s.f.r 2), .int .i64 (s.f.r 3), .int .i64 (s.f.r 4), .int .i64 (s.f.r 5), .int .i64 (s.f.r 6), .int .i64 (s.f.r 7), .int .i64 (s.f.r 8), .int .i64 (s.f.r 9), .int .i64 (s.f.r 10), .int .i64 (s.f.r 11), .int .i64 (s.f.r 12), .int .i64 (s.f.r 13), .int .i64 (s.f.r 14), .int .i64 (s.f.r 15)] = regsC s.f.r := rfl
    rw [e] at hj
    have hj16 : j < 16 := by have := (List.getElem?_eq_some_iff.1 hj).1; rwa [regsC_len] at this
    rw [regsC_at _ hj16] at hj
    rw [← hj, ← hm]
    exact h3.regAt hj16)
  have f4 : W.frozen? ⟨L.sb, 4, none⟩ = false := H2.out.cells.2 4
  have hlt : L.sb < W.heap.size := H2.out.lts.1
  have HEL : Hid (Elems (W.alloc (.cells #[.int .i64 n, .int .i64 (s.f.r 0), .int .i64 (s.f.r 1), .int .i64 (s.f.r 2), .int .i64 (s.f.r 3), .int .i64 (s.f.r 4), .int .i64 (s.f.r 5), .int .i64 (s.f.r 6), .int .i64 (s.f.r 7), .int .i64 (s.f.r 8), .int .i64 (s.f.r 9), .int .i64 (s.f.r 10), .int .i64 (s.f.r 11), .int .i64 (s.f.r 12), .int .i64 (s.f.r 13), .int .i64 (s.f.r 14), .int .i64 (s.f.r 15)] 60)).drew (W.heap.size + 1) (some ⟨W.heap.size, 0, none⟩) 17 Fr.cells [⟨n, s.f.r⟩]) :=
    Lib.hid (Elems.block (f := Fr.cells) (xs := [⟨n, s.f.r⟩]) Fr.len (heap_new1 W (.cells #[.int .i64 n, .int .i64 (s.f.r 0), .int .i64 (s.f.r 1), .int .i64 (s.f.r 2), .int .i64 (s.f.r 3), .int .i64 (s.f.r 4), .int .i64 (s.f.r 5), .int .i64 (s.f.r 6), .int .i64 (s.f.r 7), .int .i64 (s.f.r 8), .int .i64 (s.f.r 9), .int .i64 (s.f.r 10), .int .i64 (s.f.r 11), .int .i64 (s.f.r 12), .int .i64 (s.f.r 13), .int .i64 (s.f.r 14), .int .i64 (s.f.r 15)] 60)) rfl (by show 1 ≤ maxLen; decide))
  have HOWN : Hid (W.ownsRow 0 60 17 (.slice (some ⟨k.fg, 0, none⟩) (m + 1) k.fc) (m + 1) (flat Fr.cells (s.bs ++ [s.f.go (s.f.pc + 1)]))) := Lib.hid (by
    have h3 := H2.out.fr
    unfold Row at h3
    have e : ((s.go (s.f.pc + 1)).bs ++ [(s.go (s.f.pc + 1)).f]).length = m + 1 := by rw [List.length_append]; show s.bs.length + 1 = m + 1; rw [HM.out]
    rw [e] at h3
    exact h3)
  obtain ⟨x1, x2, x3⟩ := SF.out W (Kept.refl _ W)
  have YS : Hid (W.cell? ⟨k.fg, m * 17 + 1, none⟩ = some (.int .i64 (s.f.r 0)) ∧ W.cell? ⟨k.fg, m * 17 + 2, none⟩ = some (.int .i64 (s.f.r 1)) ∧ W.cell? ⟨k.fg, m * 17 + 3, none⟩ = some (.int .i64 (s.f.r 2)) ∧ W.cell? ⟨k.fg, m * 17 + 4, none⟩ = some (.int .i64 (s.f.r 3)) ∧ W.cell? ⟨k.fg, m * 17 + 5, none⟩ = some (.int .i64 (s.f.r 4)) ∧ W.cell? ⟨k.fg, m * 17 + 6, none⟩ = some (.int .i64 (s.f.r 5)) ∧ W.cell? ⟨k.fg, m * 17 + 7, none⟩ = some (.int .i64 (s.f.r 6)) ∧ W.cell? ⟨k.fg, m * 17 + 8, none⟩ = some (.int .i64 (s.f.r 7)) ∧ W.cell? ⟨k.fg, m * 17 + 9, none⟩ = some (.int .i64 (s.f.r 8)) ∧ W.cell? ⟨k.fg, m * 17 + 10, none⟩ = some (.int .i64 (s.f.r 9)) ∧ W.cell? ⟨k.fg, m * 17 + 11, none⟩ = some (.int .i64 (s.f.r 10)) ∧ W.cell? ⟨k.fg, m * 17 + 12, none⟩ = some (.int .i64 (s.f.r 11)) ∧ W.cell? ⟨k.fg, m * 17 + 13, none⟩ = some (.int .i64 (s.f.r 12)) ∧ W.cell? ⟨k.fg, m * 17 + 14, none⟩ = some (.int .i64 (s.f.r 13)) ∧ W.cell? ⟨k.fg, m * 17 + 15, none⟩ = some (.int .i64 (s.f.r 14)) ∧ W.cell? ⟨k.fg, m * 17 + 16, none⟩ = some (.int .i64 (s.f.r 15))) := Lib.hid (by
    obtain ⟨_, y1, y2, y3, y4, y5, y6, y7, y8, y9, y10, y11, y12, y13, y14, y15, y16⟩ := H2.out.all
    have hm : (s.go (s.f.pc + 1)).bs.length = m := HM.out
    rw [hm] at y1 y2 y3 y4 y5 y6 y7 y8 y9 y10 y11 y12 y13 y14 y15 y16
    exact ⟨y1, y2, y3, y4, y5, y6, y7, y8, y9, y10, y11, y12, y13, y14, y15, y16⟩)
  have MO : Hid (∀ w1 w3 v', Kept (fun _ => False) W w1 → w3.ownsRow 0 60 17 v' (m + 1 + 1) (flat Fr.cells (s.bs ++ [s.f.go (s.f.pc + 1)]) ++ flat Fr.cells [⟨n, s.f.r⟩]) → w1.grownBy w3 (some k.fg) → (v'.ownBlock = some k.fg ∨ v'.ownBlock = some w1.heap.size) →
      OnMo L col d w { s with bs := s.bs ++ [s.f.go (s.f.pc + 1)], f := ⟨n, s.f.r⟩ } (w3.setCell ⟨L.sb, 4, none⟩ v')) := Lib.hid (fun w1 w3 v' hk g1 g2 g3 => by
    have hm : (s.go (s.f.pc + 1)).bs.length = m := HM.out
    rw [← hm] at g1
    obtain ⟨col', fg', fc', ho, hg⟩ := H2.out.push hk ⟨n, s.f.r⟩ g1 g2 g3
    exact ⟨col', _, ho, HG2.out.trans hg⟩)
  have SFR : Hid (∀ w1 w3, Kept (fun _ => False) W w1 → w1.grownBy w3 (some k.fg) → w3.frozen? ⟨L.sb, 4, none⟩ = false ∧ w3.cell? ⟨L.sb, 4, none⟩ = some (.slice (some ⟨k.fg, 0, none⟩) (m + 1) k.fc)) := Lib.hid (fun w1 w3 hk hg => by
    have hk3 : Kept (fun g => g = k.fg) W w3 := (hk.mono (fun _ _ f => f.elim)).grown hg (fun g _ e => (Option.some.inj e).symm)
    have hn : ¬ (L.sb = k.fg) := fun e => by have := H2.out.c1; rw [e, H2.out.c2] at this; cases this
    rw [hk3.frozen (p := ⟨L.sb, 4, none⟩) hlt hn, hk3.cell (p := ⟨L.sb, 4, none⟩) hlt hn]
    exact ⟨f4, x1⟩)
  obtain ⟨y1, y2, y3, y4, y5, y6, y7, y8, y9, y10, y11, y12, y13, y14, y15, y16⟩ := YS.out
  go_region_law (refine step_append_kept (ys := [⟨n, s.f.r⟩]) _ (by rfl) _ _ _ (by rfl) 0 60 i17 (.agg #[.int .i64 0, .int .i64 0, .int .i64 0, .int .i64 0, .int .i64 0, .int .i64 0, .int .i64 0, .int .i64 0, .int .i64 0, .int .i64 0, .int .i64 0, .int .i64 0, .int .i64 0, .int .i64 0, .int .i64 0, .int .i64 0, .int .i64 0]) 17 136 Tryd.underlying29 HI.out HZ.out HN.out HBY.out rfl (by decide) Fr.len (fr_cell _) k.fg (m + 1) k.fc (flat Fr.cells (s.bs ++ [s.f.go (s.f.pc + 1)])) (by rfl) (by exact (HOWN.out.drew).alloc _) (W.heap.size + 1) _ 1 (by rfl) (by exact HEL.out) Nat.zero_lt_one (by show m + 1 + 1 ≤ maxLen; unfold maxLen; omega) (by show (m + 1 + 1) * 136 ≤ _; omega) (by simp) ?_; intro v' w3 h1 h2 h3; obtain ⟨f43, c43⟩ := SFR.out _ _ (((Kept.refl _ _).alloc _).drew) h2; obtain ⟨A', c', rfl, _⟩ := nt_form h1)
  all_goals
    have HF := Lib.hid (MO.out _ _ _ (((Kept.refl _ _).alloc _).drew) h1 h2 (h3.imp id And.left))
    clear h1 h2 h3 c43 f43
    go_wp2_with fail
    go_ret
    exact ⟨rfl, HF.out⟩
end

end Go.Proofs.YtdkableaooaebaaDoor
