/-
  What the program's leads and jump come to.
  Conditions: the step's row of frames has 1 to 16 of them; registers' numbers are below 16.
-/
import Derived.Test.YtdkableaooaebaaDoorMicLast
namespace Go.Proofs.YtdkableaooaebaaDoor
open Go.RowKit

theorem leads_any (op : Int) (a b : Nat) (c n : Int) (g off : Nat) (r : Nat → Int) (w : World) (hr : ∀ j, j < 16 → w.cell? ⟨g, off + j, none⟩ = some (.int .i64 (r j))) (ha : a < 16) (hb : b < 16) :
    Calls Tryd.prog 42 #[.agg #[.int .i64 op, .int .i64 a, .int .i64 b, .int .i64 c, .int .i64 n], .pointer (some ⟨g, off, none⟩)] w fun e w' => e = .returned (.bool (leadsM ⟨op, a, b, c, n⟩ r)) ∧ Kept (fun _ => False) w w' := by
  have HK : Hid (∀ q, Kept (fun _ => False) w (w.drewN q)) := Lib.hid (fun q => (Kept.refl _ w).drewN q)
  have HB := Lib.hid (((Kept.refl (fun _ => False) w).alloc (.cells #[.int .i64 op, .int .i64 a, .int .i64 b, .int .i64 c, .int .i64 n] 46)))
  have hra : (w.alloc (.cells #[.int .i64 op, .int .i64 a, .int .i64 b, .int .i64 c, .int .i64 n] 46)).cell? ⟨g, off + a, none⟩ = some (.int .i64 (r a)) := by
    have h := hr a ha
    rw [HB.out.cell (p := ⟨g, off + a, none⟩) (cellLt h) (fun f => f)]; exact h
  have hrb : (w.alloc (.cells #[.int .i64 op, .int .i64 a, .int .i64 b, .int .i64 c, .int .i64 n] 46)).cell? ⟨g, off + b, none⟩ = some (.int .i64 (r b)) := by
    have h := hr b hb
    rw [HB.out.cell (p := ⟨g, off + b, none⟩) (cellLt h) (fun f => f)]; exact h
  clear hr
  have ha' : (a : Int) < 16 := by omega
  have hb' : (b : Int) < 16 := by omega
  obtain ⟨x, hx⟩ : ∃ x, r a = x := ⟨_, rfl⟩
  obtain ⟨y, hy⟩ : ∃ y, r b = y := ⟨_, rfl⟩
  rw [hx] at hra
  rw [hy] at hrb
  have HX := Lib.hid hx; clear hx
  have HY := Lib.hid hy; clear hy
  by_cases h9 : op = 9
  · subst h9
    have HE : Hid (leadsM ⟨9, a, b, c, n⟩ r = (x == y)) := Lib.hid (by unfold leadsM; rw [if_pos rfl]; show (r a == r b) = _; rw [HX.out, HY.out])
    go_enter Tryd.func42, Tryd.ntmps42
    go_wp2_with fail
    go_quiet (fail)
    go_wp2_with fail
    go_ret
    exact ⟨ret_bool HE.out.symm, HB.out.drewN _⟩
  by_cases h10 : op = 10
  · have HE : Hid (leadsM ⟨op, a, b, c, n⟩ r = (x != y)) := Lib.hid (by unfold leadsM; rw [if_neg h9, if_pos h10]; show (r a != r b) = _; rw [HX.out, HY.out])
    subst h10
    go_enter Tryd.func42, Tryd.ntmps42
    go_wp2_with fail
    go_quiet (fail)
    go_wp2_with fail
    go_ret
    exact ⟨ret_bool HE.out.symm, HB.out.drewN _⟩
  by_cases h11 : op = 11
  · have HE : Hid (leadsM ⟨op, a, b, c, n⟩ r = decide (x < y)) := Lib.hid (by unfold leadsM; rw [if_neg h9, if_neg h10, if_pos h11]; show decide (r a < r b) = _; rw [HX.out, HY.out])
    subst h11
    go_enter Tryd.func42, Tryd.ntmps42
    go_wp2_with fail
    go_quiet (fail)
    go_wp2_with fail
    go_ret
    exact ⟨ret_bool HE.out.symm, HB.out.drewN _⟩
  have HE : Hid (leadsM ⟨op, a, b, c, n⟩ r = true) := Lib.hid (by unfold leadsM; rw [if_neg h9, if_neg h10, if_neg h11])
  have e9 : (op == 9) = false := by rw [beq_eq_false_iff_ne]; exact h9
  have e10 : (op == 10) = false := by rw [beq_eq_false_iff_ne]; exact h10
  have e11 : (op == 11) = false := by rw [beq_eq_false_iff_ne]; exact h11
  clear h9 h10 h11
  go_enter Tryd.func42, Tryd.ntmps42
  go_wp2_with fail
  go_ret
  exact ⟨ret_bool HE.out.symm, HB.out⟩

section
variable {L : Sp} {col : Nat → Nat} {k : Kp} {d : Nat} {s : Ms} {w : World}
/-- What a call of the step's leaves. -/
def OnTo (L : Sp) (col : Nat → Nat) (k : Kp) (d : Nat) (w : World) (s' : Ms) (w' : World) : Prop := On L col k d s' w' ∧ Goes col w col w'

set_option maxHeartbeats 1000000 in
theorem jump_any (h : On L col k d s w) (hb : s.bs.length ≤ 15) (op : Int) (a b : Nat) (c n : Int) (ha : a < 16) (hb' : b < 16) (h0 : 0 ≤ s.f.pc) (h1 : s.f.pc ≤ 1000000000) :
    Calls Tryd.prog 35 #[.pointer (some ⟨L.sb, 0, none⟩), .agg #[.int .i64 op, .int .i64 a, .int .i64 b, .int .i64 c, .int .i64 n]] w fun e w' => e = .returned (.int .i64 0) ∧ OnTo L col k d w (jumpM ⟨op, a, b, c, n⟩ s) w' := by
  have h2 := h.alloc (.cells #[.int .i64 op, .int .i64 a, .int .i64 b, .int .i64 c, .int .i64 n] 46)
  have hK := (Kept.refl (fun _ => False) w).alloc (.cells #[.int .i64 op, .int .i64 a, .int .i64 b, .int .i64 c, .int .i64 n] 46)
  have hB := heap_new1 w (.cells #[.int .i64 op, .int .i64 a, .int .i64 b, .int .i64 c, .int .i64 n] 46)
  have HLA := Lib.hid (last_any h2 hb)
  have HH := Lib.hid h2; clear h2
  have HKK := Lib.hid hK; clear hK
  have HBB := Lib.hid hB; clear hB h
  go_enter Tryd.func35, Tryd.ntmps35
  go_wp2_with fail
  refine (HLA.out).mono ?_
  rintro e w1 ⟨rfl, hk1⟩
  have H1 := HH.out.kept0 hk1
  have hK1 := HKK.out.trans hk1 (fun _ _ f => f)
  have hB1 := hk1.at0 HBB.out
  have HLE : Hid (Calls Tryd.prog 42 #[.agg #[.int .i64 op, .int .i64 a, .int .i64 b, .int .i64 c, .int .i64 n], .pointer (some ⟨k.fg, s.bs.length * 17 + 1, none⟩)] w1.drew fun e w' => e = .returned (.bool (leadsM ⟨op, a, b, c, n⟩ s.f.r)) ∧ Kept (fun _ => False) w1.drew w') := Lib.hid (leads_any op a b c n k.fg (s.bs.length * 17 + 1) s.f.r _ (fun j hj => H1.drew.regAt hj) ha hb')
  obtain ⟨b0, b1, b2, b3, b4, _⟩ := cells5 hB1
  have H1' := Lib.hid H1; clear H1 hk1
  have HK1 := Lib.hid hK1; clear hK1
  have HB1 := Lib.hid hB1; clear hB1 HLA
  obtain ⟨v, hv⟩ : ∃ v, leadsM ⟨op, a, b, c, n⟩ s.f.r = v := ⟨_, rfl⟩
  have HV := Lib.hid hv
  rw [hv] at HLE
  clear hv
  have hw : IntKind.i64.wrap (s.f.pc + 1) = s.f.pc + 1 := IntWalk.i64_in _ (by omega)
  have SF : Hid (∀ w2, Kept (fun _ => False) w1.drew w2 → w2.cell? ⟨k.fg, s.bs.length * 17, none⟩ = some (.int .i64 s.f.pc) ∧ w2.frozen? ⟨k.fg, s.bs.length * 17, none⟩ = false ∧ w2.cell? ⟨w.heap.size, 4, none⟩ = some (.int .i64 n)) := Lib.hid (fun w2 hk => by
    have h2 := H1'.out.drew.kept0 hk
    obtain ⟨_, _, _, _, b4, _⟩ := cells5 (hk.at0 (((Kept.refl (fun _ => False) w1).drew).at0 HB1.out))
    exact ⟨h2.pcAt, h2.free _, b4⟩)
  have HF : Hid (∀ w2 p, Kept (fun _ => False) w1.drew w2 → jumpM ⟨op, a, b, c, n⟩ s = s.go p → OnTo L col k d w (jumpM ⟨op, a, b, c, n⟩ s) (w2.setCell ⟨k.fg, s.bs.length * 17, none⟩ (.int .i64 p))) := Lib.hid (fun w2 p hk hp => by
    obtain ⟨h3, h4⟩ := (H1'.out.drew.kept0 hk).goTo p
    rw [hp]
    exact ⟨h3, (Goes.of0 (HK1.out.drew.trans hk (fun _ _ f => f))).trans h4⟩)
  have HJ : Hid (jumpM ⟨op, a, b, c, n⟩ s = s.go (if v then n else s.f.pc + 1)) := Lib.hid (by unfold jumpM; rw [HV.out]; cases v <;> rfl)
  go_wp2_with fail
  go_region_with (go_at_call 42; refine HLE.out.mono ?_; rintro e w2 ⟨rfl, hk2⟩; obtain ⟨x0, x1, x2⟩ := SF.out _ hk2; have HK2 := Lib.hid hk2; clear hk2)
  all_goals cases v
  all_goals go_wp2_with fail
  all_goals go_ret
  all_goals exact ⟨rfl, HF.out _ _ HK2.out HJ.out⟩

end

end Go.Proofs.YtdkableaooaebaaDoor
