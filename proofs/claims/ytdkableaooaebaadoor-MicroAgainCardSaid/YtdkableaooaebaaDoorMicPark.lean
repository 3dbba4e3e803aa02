/-
  What the program's value comes to, and park.
  Conditions: the step's row of frames has 1 to 16 of them; registers' numbers are below 16; the thread is there, and isn't blocked.
-/
import Derived.Test.YtdkableaooaebaaDoorMicCas
namespace Go.Proofs.YtdkableaooaebaaDoor
open Go.RowKit

section
variable {L : Sp} {col : Nat → Nat} {k : Kp} {d : Nat} {s : Ms} {w : World}
theorem thr_at {s : Ms} {i : Nat} {p : Pk} (hp : s.ps[i]? = some p) : s.thr i = p := by unfold Ms.thr; rw [List.getD_eq_getElem?_getD, hp]; rfl

theorem value_any (h : On L col k d s w) (hbl : s.bs.length ≤ 15) (op : Int) (a b c : Nat) (n : Int) (hb : b < 16) (hc : c < 16) (h0 : 0 ≤ L.most) (h1 : L.most ≤ 4096) {p : Pk} (hp : s.ps[L.self]? = some p)
    (hop : op = 1 ∨ op = 2 ∨ op = 3 ∨ op = 4 ∨ op = 16 ∨ op = 17 ∨ op = 18 ∨ op = 19) :
    Calls Tryd.prog 48 #[.pointer (some ⟨L.sb, 0, none⟩), .agg #[.int .i64 op, .int .i64 a, .int .i64 b, .int .i64 c, .int .i64 n]] w fun e w' => e = .returned (.int .i64 (valM L.most L.now L.self ⟨op, a, b, c, n⟩ s).1) ∧ OnAr L col k d w (valM L.most L.now L.self ⟨op, a, b, c, n⟩ s).2 w' := by
  rcases hop with rfl | rfl | rfl | rfl | rfl | rfl | rfl | rfl
  · exact (val_1 h hbl a b c n).mono fun e w' ⟨h2, h3⟩ => ⟨h2, OnAr.same h h3⟩
  · exact (val_2 h hbl a b c n hb).mono fun e w' ⟨h2, h3⟩ => ⟨h2, OnAr.same h h3⟩
  · refine (val_3 h hbl a b c n hb hc).mono fun e w' ⟨h2, h3⟩ => ⟨?_, OnAr.same h h3⟩
    rw [h2, ← IntWalk.i64_left]; rfl
  · refine (val_4 h hbl a b c n hb).mono fun e w' ⟨h2, h3⟩ => ⟨?_, OnAr.same h h3⟩
    rw [h2, ← IntWalk.i64_left]; rfl
  · exact val_16 h hbl a b c n h0 h1
  · exact (val_17 h hbl a b c n).mono fun e w' ⟨h2, h3⟩ => ⟨h2, OnAr.same h h3⟩
  · exact (val_18 h hbl a b c n).mono fun e w' ⟨h2, h3⟩ => ⟨h2, OnAr.same h h3⟩
  · refine (val_19 h hbl a b c n hp).mono fun e w' ⟨h2, h3⟩ => ?_
    have e1 : valM L.most L.now L.self ⟨19, a, b, c, n⟩ s = (bitI (s.thr L.self).flag, s.setThr L.self (s.thr L.self).clear) := rfl
    rw [e1, thr_at hp]
    exact ⟨h2, h3⟩

set_option maxHeartbeats 1000000 in
theorem mic_park (h : On L col k d s w) {p : Pk} (hp : s.ps[L.self]? = some p) (hnb : p.blocked = false) (dl : Int) :
    Calls Tryd.prog 45 #[.pointer (some ⟨L.sb, 0, none⟩), .int .i64 dl] w fun e w' => e = .returned (.int .i64 (parkM L.now L.self dl s).1) ∧ OnTo L col k d w (parkM L.now L.self dl s).2 w' := by
  have c2 := h.cells.1.2.2.1
  have c3 := h.cells.1.2.2.2.1
  by_cases hd : dl < -1
  · have HR : Hid (parkM L.now L.self dl s = (3, s)) := Lib.hid (by unfold parkM; rw [if_pos hd])
    have HC := Lib.hid (park_arg dl h.drew.tab hp (.inr hd))
    have HS : Hid (OnTo L col k d w s w.drew) := Lib.hid ⟨h.drew, Goes.of0 (Kept.refl _ w).drew⟩
    clear h hp hd hnb
    go_enter Tryd.func45, Tryd.ntmps45
    go_wp2_with fail
    go_region_with (go_at_call 54; refine HC.out.mono ?_; rintro e w1 ⟨rfl, rfl⟩)
    all_goals go_wp2_with fail
    all_goals
      refine (ran_err 1 _).mono ?_
      rintro e w2 ⟨rfl, rfl⟩
      go_wp2_with fail
      go_ret
      exact ⟨by rw [HR.out]; rfl, by rw [HR.out]; exact HS.out⟩
  · have HR : Hid (parkM L.now L.self dl s = (bitI (p.parks L.now dl), s.setThr L.self (p.park L.now dl))) := Lib.hid (by unfold parkM; rw [if_neg hd, thr_at hp])
    have HC := Lib.hid (park_at dl h.drew.tab hp hnb (by omega))
    have HS : Hid (∀ w', Turned w.drew L.tb L.tg L.tc L.now (s.ps.set L.self (p.park L.now dl)) w' → OnTo L col k d w (s.setThr L.self (p.park L.now dl)) w') := Lib.hid (fun w' ht => by
      obtain ⟨h2, h3⟩ := h.drew.toTab ht
      exact ⟨h2, (Goes.of0 (Kept.refl _ w).drew).trans h3⟩)
    clear h hp hd hnb
    obtain ⟨v, hv⟩ : ∃ v, p.parks L.now dl = v := ⟨_, rfl⟩
    rw [hv] at HR HC
    clear hv
    go_enter Tryd.func45, Tryd.ntmps45
    go_wp2_with fail
    go_region_with (go_at_call 54; refine HC.out.mono ?_; rintro e w1 ⟨rfl, ha⟩; have HX := Lib.hid (HS.out _ ha); clear ha)
    all_goals cases v
    all_goals go_wp2_with fail
    all_goals first
      | (go_ret
         exact ⟨by rw [HR.out]; rfl, by rw [HR.out]; exact HX.out⟩)
      | (refine (ran_nil _).mono ?_
         rintro e w2 ⟨rfl, rfl⟩
         go_wp2_with fail
         go_ret
         exact ⟨by rw [HR.out]; rfl, by rw [HR.out]; exact HX.out⟩)
end

end Go.Proofs.YtdkableaooaebaaDoor
