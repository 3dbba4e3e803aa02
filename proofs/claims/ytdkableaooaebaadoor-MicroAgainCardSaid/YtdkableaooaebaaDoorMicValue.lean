/-
  What the program's alloc, clear and value come to.
  Conditions: the step's row of frames has 1 to 16 of them; registers' numbers are below 16; the arena holds at most 4096 cells; the thread is there.
-/
import Derived.Test.YtdkableaooaebaaDoorMicEnter
namespace Go.Proofs.YtdkableaooaebaaDoor
open Go.RowKit

section
variable {L : Sp} {col : Nat → Nat} {k : Kp} {d : Nat} {s : Ms} {w : World}
theorem OnMo.of0 {w1 w' : World} {s' : Ms} (hk : Kept (fun _ => False) w w1) (h : OnMo L col d w1 s' w') : OnMo L col d w s' w' := by
  obtain ⟨col', k', h1, h2⟩ := h
  exact ⟨col', k', h1, (Goes.of0 hk).trans h2⟩
theorem OnMo.same (h : On L col k d s w) {w' : World} (hk : Kept (fun _ => False) w w') : OnMo L col d w s w' := ⟨col, k, h.kept0 hk, Goes.of0 hk⟩

/-- What a call that may move the cells' row leaves. -/
def OnAr (L : Sp) (col : Nat → Nat) (k : Kp) (d : Nat) (w : World) (s' : Ms) (w' : World) : Prop := ∃ col' og', On L col' { k with og := og' } d s' w' ∧ Goes col w col' w'
theorem OnTo.ar {w' : World} {s' : Ms} (h : OnTo L col k d w s' w') : OnAr L col k d w s' w' := ⟨col, k.og, h⟩
theorem OnAr.mo {w' : World} {s' : Ms} (h : OnAr L col k d w s' w') : OnMo L col d w s' w' := by obtain ⟨col', og', h1, h2⟩ := h; exact ⟨col', _, h1, h2⟩
theorem OnAr.of0 {w1 w' : World} {s' : Ms} (hk : Kept (fun _ => False) w w1) (h : OnAr L col k d w1 s' w') : OnAr L col k d w s' w' := by
  obtain ⟨col', og', h1, h2⟩ := h
  exact ⟨col', og', h1, (Goes.of0 hk).trans h2⟩
theorem OnAr.same (h : On L col k d s w) {w' : World} (hk : Kept (fun _ => False) w w') : OnAr L col k d w s w' := ⟨col, k.og, h.kept0 hk, Goes.of0 hk⟩

theorem mic_alloc (h : On L col k d s w) (n : Int) (h0 : 0 ≤ L.most) (h1 : L.most ≤ 4096) :
    Calls Tryd.prog 56 #[.pointer (some ⟨L.sb, 0, none⟩), .int .i64 n] w fun e w' => e = .returned (.int .i64 (allocM L.most n s).1) ∧ OnAr L col k d w (allocM L.most n s).2 w' := by
  obtain ⟨⟨_, c1, _, _, _, _, _⟩, _⟩ := h.cells
  by_cases hn : n < 1
  · have HR : Hid (allocM L.most n s = (0, s)) := Lib.hid (by unfold allocM; rw [if_pos (.inl hn)])
    have HC := Lib.hid (alloc_arg L.ab n w hn)
    have HS := Lib.hid (OnAr.same h (Kept.refl _ w))
    clear h
    go_enter Tryd.func56, Tryd.ntmps56
    go_wp2_with fail
    refine (HC.out).mono ?_
    rintro e w1 ⟨rfl, rfl⟩
    go_wp2_with fail
    go_ret
    exact ⟨by rw [HR.out]; rfl, by rw [HR.out]; exact HS.out⟩
  by_cases hf : L.most - s.zs.length < n
  · have HR : Hid (allocM L.most n s = (0, s)) := Lib.hid (by unfold allocM; rw [if_pos (.inr hf)])
    have HC := Lib.hid (alloc_full n w h.ar h0 h1 (by omega) hf)
    have HS : Hid (∀ q, OnAr L col k d w s (w.drewN q)) := Lib.hid (fun q => OnAr.same h ((Kept.refl _ w).drewN q))
    clear h
    go_enter Tryd.func56, Tryd.ntmps56
    go_wp2_with fail
    refine (HC.out).mono ?_
    rintro e w1 ⟨rfl, q, rfl⟩
    go_wp2_with fail
    go_ret
    exact ⟨by rw [HR.out]; rfl, by rw [HR.out]; exact HS.out _⟩
  · have HR : Hid (allocM L.most n s = ((s.zs.length : Int) + 1, { s with zs := s.zs ++ List.replicate n.toNat 0 })) := Lib.hid (by unfold allocM; rw [if_neg (by omega)])
    have HC := Lib.hid (alloc_in n w h.ar h0 h1 (by omega) (by omega))
    have HS : Hid (∀ w', Alloced w L.ab k.og L.most (s.zs ++ List.replicate n.toNat 0) w' → OnAr L col k d w { s with zs := s.zs ++ List.replicate n.toNat 0 } w') := Lib.hid (fun w' ha => by
      obtain ⟨col', og', h2, h3⟩ := h.toAlloced ha
      exact ⟨col', og', h2, h3⟩)
    clear h
    go_enter Tryd.func56, Tryd.ntmps56
    go_wp2_with fail
    refine (HC.out).mono ?_
    rintro e w1 ⟨rfl, ha⟩
    have HX := Lib.hid (HS.out _ ha)
    clear ha
    go_wp2_with fail
    go_ret
    exact ⟨by rw [HR.out]; rfl, by rw [HR.out]; exact HX.out⟩

theorem mic_clear (h : On L col k d s w) {p : Pk} (hp : s.ps[L.self]? = some p) :
    Calls Tryd.prog 58 #[.pointer (some ⟨L.sb, 0, none⟩)] w fun e w' => e = .returned (.int .i64 (bitI p.flag)) ∧ OnAr L col k d w (s.setThr L.self p.clear) w' := by
  obtain ⟨⟨_, _, c2, c3, _, _, _⟩, _⟩ := h.cells
  have HC := Lib.hid (clear_at h.drew.tab hp)
  have HS : Hid (∀ w', Turned w.drew L.tb L.tg L.tc L.now (s.ps.set L.self p.clear) w' → OnAr L col k d w (s.setThr L.self p.clear) w') := Lib.hid (fun w' ht => by
    have := h.drew.toTab ht
    exact OnAr.of0 (Kept.refl _ w).drew ⟨col, k.og, this⟩)
  have HB := Lib.hid (fun w' => bit_any p.flag w')
  clear h hp
  obtain ⟨v, hv⟩ : ∃ v, p.flag = v := ⟨_, rfl⟩
  rw [hv] at HC HB
  have HV := Lib.hid hv; clear hv
  go_enter Tryd.func58, Tryd.ntmps58
  go_wp2_with fail
  go_region_with (go_at_call 61; refine HC.out.mono ?_; rintro e w1 ⟨rfl, ha⟩; have HX := Lib.hid (HS.out _ ha); clear ha)
  all_goals go_wp2_with fail
  all_goals
    refine (HB.out _).mono ?_
    rintro e w2 ⟨rfl, rfl⟩
    go_wp2_with fail
    go_ret
    exact ⟨by rw [HV.out]; rfl, HX.out⟩
end

end Go.Proofs.YtdkableaooaebaaDoor
