/-
  What the program's leave comes to.
  Conditions: the step's row of frames has 1 to 16 of them.
-/
import Derived.Test.YtdkableaooaebaaDoorMicJump
import Derived.BigRegion
namespace Go.Proofs.YtdkableaooaebaaDoor
open Go.RowKit

section
variable {L : Sp} {col : Nat → Nat} {k : Kp} {d : Nat} {s : Ms} {w : World}
theorem On.all (h : On L col k d s w) : w.cell? ⟨k.fg, s.bs.length * 17, none⟩ = some (.int .i64 s.f.pc) ∧ w.cell? ⟨k.fg, s.bs.length * 17 + 1, none⟩ = some (.int .i64 (s.f.r 0)) ∧ w.cell? ⟨k.fg, s.bs.length * 17 + 2, none⟩ = some (.int .i64 (s.f.r 1)) ∧
    w.cell? ⟨k.fg, s.bs.length * 17 + 3, none⟩ = some (.int .i64 (s.f.r 2)) ∧ w.cell? ⟨k.fg, s.bs.length * 17 + 4, none⟩ = some (.int .i64 (s.f.r 3)) ∧ w.cell? ⟨k.fg, s.bs.length * 17 + 5, none⟩ = some (.int .i64 (s.f.r 4)) ∧ w.cell? ⟨k.fg, s.bs.length * 17 + 6, none⟩ = some (.int .i64 (s.f.r 5)) ∧
    w.cell? ⟨k.fg, s.bs.length * 17 + 7, none⟩ = some (.int .i64 (s.f.r 6)) ∧ w.cell? ⟨k.fg, s.bs.length * 17 + 8, none⟩ = some (.int .i64 (s.f.r 7)) ∧ w.cell? ⟨k.fg, s.bs.length * 17 + 9, none⟩ = some (.int .i64 (s.f.r 8)) ∧ w.cell? ⟨k.fg, s.bs.length * 17 + 10, none⟩ = some (.int .i64 (s.f.r 9)) ∧
    w.cell? ⟨k.fg, s.bs.length * 17 + 11, none⟩ = some (.int .i64 (s.f.r 10)) ∧ w.cell? ⟨k.fg, s.bs.length * 17 + 12, none⟩ = some (.int .i64 (s.f.r 11)) ∧ w.cell? ⟨k.fg, s.bs.length * 17 + 13, none⟩ = some (.int .i64 (s.f.r 12)) ∧ w.cell? ⟨k.fg, s.bs.length * 17 + 14, none⟩ = some (.int .i64 (s.f.r 13)) ∧
    w.cell? ⟨k.fg, s.bs.length * 17 + 15, none⟩ = some (.int .i64 (s.f.r 14)) ∧ w.cell? ⟨k.fg, s.bs.length * 17 + 16, none⟩ = some (.int .i64 (s.f.r 15)) := by
  have q : ∀ j, j < 16 → w.cell? ⟨k.fg, s.bs.length * 17 + (j + 1), none⟩ = some (.int .i64 (s.f.r j)) := fun j hj => by rw [Nat.add_comm j 1, ← Nat.add_assoc]; exact h.regAt hj
  exact ⟨h.pcAt, q 0 (by decide), q 1 (by decide), q 2 (by decide), q 3 (by decide), q 4 (by decide), q 5 (by decide), q 6 (by decide), q 7 (by decide), q 8 (by decide), q 9 (by decide), q 10 (by decide), q 11 (by decide), q 12 (by decide), q 13 (by decide), q 14 (by decide), q 15 (by decide)⟩

theorem On.cap (h : On L col k d s w) : s.bs.length + 1 ≤ k.fc ∧ k.fc ≤ maxLen := by
  have h1 := h.fr
  unfold Row at h1
  rcases h1.2 with ⟨h0, _⟩ | ⟨g, cap, cur, h3, _, _, h4, h5, _⟩
  · cases h0
  · simp only [Value.slice.injEq, List.length_append, List.length_cons, List.length_nil] at h3 h4
    obtain ⟨_, _, rfl⟩ := h3
    exact ⟨h4, h5⟩

theorem On.put01 (h : On L col k d s w) (v u : Int) : OnTo L col k d w { s with f := (s.f.put 0 v).put 1 u } ((w.setCell ⟨k.fg, s.bs.length * 17 + 1, none⟩ (.int .i64 v)).setCell ⟨k.fg, s.bs.length * 17 + 2, none⟩ (.int .i64 u)).drew := by
  obtain ⟨h1, g1⟩ := h.put (j := 0) (by decide) v
  obtain ⟨h2, g2⟩ := h1.put (j := 1) (by decide) u
  exact ⟨h2.drew, (g1.trans g2).trans (Goes.of0 (Kept.refl _ _).drew)⟩

theorem leave_not (h : On L col k d s w) (hb : s.bs = []) : Calls Tryd.prog 37 #[.pointer (some ⟨L.sb, 0, none⟩)] w fun e w' => e = .returned (.int .i64 3) ∧ w = w' := by
  obtain ⟨⟨c0, c1, c2, c3, c4, c5, c6⟩, _⟩ := h.cells
  rw [hb] at c4
  clear h
  go_enter Tryd.func37, Tryd.ntmps37
  go_wp2_with fail
  go_ret
  exact ⟨rfl, rfl⟩

set_option maxRecDepth 100000 in
set_option maxHeartbeats 2000000 in
theorem leave_any (h : On L col k d s w) {bs' : List Fr} {g : Fr} (hbs : s.bs = bs' ++ [g]) (hb : s.bs.length ≤ 15) :
    Calls Tryd.prog 37 #[.pointer (some ⟨L.sb, 0, none⟩)] w fun e w' => e = .returned (.int .i64 0) ∧ OnTo L col k d w { s with bs := bs', f := (g.put 0 (s.f.r 0)).put 1 (s.f.r 1) } w' := by
  obtain ⟨⟨c0, c1, c2, c3, c4, c5, c6⟩, _⟩ := h.cells
  have HL : Hid (s.bs.length = bs'.length + 1) := Lib.hid (by rw [hbs]; simp)
  have HLA := Lib.hid (last_any h hb)
  obtain ⟨n, hn⟩ : ∃ n, s.bs.length = n := ⟨_, rfl⟩
  rw [hn] at c4 hb HLA
  have h1 : ¬ ((n : Int) + 1 = 1) := by have := HL.out; omega
  have HH := Lib.hid h; clear h
  have HBS := Lib.hid hbs; clear hbs
  have HN := Lib.hid hn; clear hn
  go_enter Tryd.func37, Tryd.ntmps37
  go_wp2_with fail
  refine (HLA.out).mono ?_
  rintro e w1 ⟨rfl, hk1⟩
  have H1 := HH.out.kept0 hk1
  have HS1 := Lib.hid hk1.size
  obtain ⟨y0, y1, y2, y3, y4, y5, y6, y7, y8, y9, y10, y11, y12, y13, y14, y15, y16⟩ := H1.all
  rw [HN.out] at y0 y1 y2 y3 y4 y5 y6 y7 y8 y9 y10 y11 y12 y13 y14 y15 y16
  go_wp2_with fail
  generalize hW : World.alloc w1 _ = w2
  have hk2 : Kept (fun _ => False) w1 w2 := by rw [← hW]; exact (Kept.refl _ w1).alloc _
  have hb2 : ∃ cs, w2.heap[w1.heap.size]? = some (.cells cs 60 (0, 0)) ∧ cs[1]? = some (.int .i64 (s.f.r 0)) ∧ cs[2]? = some (.int .i64 (s.f.r 1)) := by rw [← hW]; exact ⟨_, heap_new1 w1 _, rfl, rfl⟩
  clear hW y0 y1 y2 y3 y4 y5 y6 y7 y8 y9 y10 y11 y12 y13 y14 y15 y16
  have H2 := H1.kept0 hk2
  have hK2 := hk1.trans hk2 (fun _ _ f => f)
  obtain ⟨⟨_, _, _, _, e4, _, _⟩, ef⟩ := H2.cells
  have ef4 := ef 4
  rw [HN.out] at e4
  have hcap := H2.cap.1
  rw [HN.out] at hcap
  have hcap2 := H2.cap.2
  unfold maxLen at hcap2
  have hw1 : IntKind.i64.wrap (n : Int) = n := IntWalk.i64_in _ (by omega)
  have H2' := Lib.hid H2; clear H2 H1 hk1 hk2 ef HLA c0 c1 c2 c3 c4 c5 c6
  have HK2 := Lib.hid hK2; clear hK2
  have HB2 := Lib.hid hb2; clear hb2
  have h3 : OnTo L col k d w2 { s with bs := bs', f := g } (w2.setCell ⟨L.sb, 4, none⟩ (.slice (some ⟨k.fg, 0, none⟩) n k.fc)).drew := by
    have := H2'.out.pop HBS.out
    rw [HN.out] at this
    exact ⟨this.1.drew, this.2.trans (Goes.of0 (Kept.refl _ _).drew)⟩
  have H3 := Lib.hid h3; clear h3
  have HLB : Hid (Calls Tryd.prog 32 #[.pointer (some ⟨L.sb, 0, none⟩)] (w2.setCell ⟨L.sb, 4, none⟩ (.slice (some ⟨k.fg, 0, none⟩) n k.fc)).drew fun e w' => e = .returned (.pointer (some ⟨k.fg, bs'.length * 17, none⟩)) ∧ Kept (fun _ => False) (w2.setCell ⟨L.sb, 4, none⟩ (.slice (some ⟨k.fg, 0, none⟩) n k.fc)).drew w') :=
    Lib.hid (last_any H3.out.1 (by have := HL.out; have := HN.out; show bs'.length ≤ 15; omega))
  have HFG : Hid (k.fg < w1.heap.size) := Lib.hid (Nat.lt_of_lt_of_le HH.out.lts.2.1 HS1.out)
  go_region
  all_goals go_wp2_with fail
  all_goals
    refine HLB.out.mono ?_
    rintro e w4 ⟨rfl, hk4⟩
    have H4 := Lib.hid (H3.out.1.kept0 hk4)
    have HK4 := Lib.hid ((Goes.of0 (c := col) HK2.out).trans (H3.out.2.trans (Goes.of0 hk4)))
    obtain ⟨_, y1, y2, _⟩ := H4.out.all
    have f1 := H4.out.free (bs'.length * 17 + 1)
    have f2 := H4.out.free (bs'.length * 17 + 2)
    have hnf : ¬ (w1.heap.size = k.fg) := by have := HFG.out; omega
    have hnf' : ¬ (k.fg = w1.heap.size) := by have := HFG.out; omega
    have hb4 : ∃ cs, w4.heap[w1.heap.size]? = some (.cells cs 60 (0, 0)) ∧ cs[1]? = some (.int .i64 (s.f.r 0)) ∧ cs[2]? = some (.int .i64 (s.f.r 1)) := by
      obtain ⟨cs, h1, h2⟩ := HB2.out
      exact ⟨cs, (H3.out.2.trans (Goes.of0 hk4)).at_ h1 (HH.out.new _ HS1.out), h2⟩
    obtain ⟨cs, q0, q1, q2⟩ := hb4
    have x1 : w4.cell? ⟨w1.heap.size, 1, none⟩ = some (.int .i64 (s.f.r 0)) := by rw [cell_at w4 _ 1 _ _ q0]; exact q1
    have x2 : w4.cell? ⟨w1.heap.size, 2, none⟩ = some (.int .i64 (s.f.r 1)) := by rw [cell_at w4 _ 2 _ _ q0]; exact q2
    clear q0 q1 q2 hk4
    have HF : Hid (OnTo L col k d w { s with bs := bs', f := (g.put 0 (s.f.r 0)).put 1 (s.f.r 1) } ((w4.setCell ⟨k.fg, bs'.length * 17 + 1, none⟩ (.int .i64 (s.f.r 0))).setCell ⟨k.fg, bs'.length * 17 + 2, none⟩ (.int .i64 (s.f.r 1))).drew) := Lib.hid (by
      have := H4.out.put01 (s.f.r 0) (s.f.r 1)
      exact ⟨this.1, HK4.out.trans this.2⟩)
    go_wp2_with fail
  all_goals go_region
  all_goals go_wp2_with fail
  all_goals go_ret
  all_goals exact ⟨rfl, HF.out⟩
end

end Go.Proofs.YtdkableaooaebaaDoor
