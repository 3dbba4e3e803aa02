/-
  What the program's register, number, fits, Access and May come to.
  Conditions: the table lies as the program's text lays it; numbers of 64 bits.
-/
import Derived.Test.YtdkableaooaebaaDoorInsShape
namespace Go.Proofs.YtdkableaooaebaaDoor
open Go.RowKit

def regOk (i : Nat) (c : UInt8) (n b : Int) : Bool := if hasC i c then decide (0 ≤ n) && decide (n < 16 - b) else n == 0
def numOk (i : Nat) (n : Int) : Bool := if hasC i 78 then small n else n == 0
def fitsAt (i : Nat) (a b c n : Int) : Bool := regOk i 65 a (behindAt i) && regOk i 66 b 0 && regOk i 67 c 0 && numOk i n
def BoolTo (w : World) (b : Bool) (e : Ending) (w' : World) : Prop := e = .returned (.bool b) ∧ Kept (fun _ => False) w w'

theorem register_any (i : Nat) (c : UInt8) (n b : Int) (hb0 : 0 ≤ b) (hb : b ≤ 16) (w : World) : Calls Tryd.prog 50 #[shV i, .int .u8 c.toNat, .int .i64 n, .int .i64 b] w (BoolTo w (regOk i c n b)) := by
  have HT := Lib.hid (fun w' => tells_any i c w')
  have hw : IntKind.i64.wrap (16 - b) = 16 - b := IntWalk.i64_in _ (by omega)
  cases hc : hasC i c
  · have HR : Hid (∀ w', Kept (fun _ => False) w w' → BoolTo w (regOk i c n b) (.returned (.bool (n == 0))) w') := Lib.hid (fun w' hk => ⟨by unfold regOk; rw [hc]; rfl, hk⟩)
    rw [hc] at HT
    clear hc
    go_enter Tryd.func50, Tryd.ntmps50
    go_wp2_with fail
    refine (HT.out _).mono ?_
    rintro e w1 ⟨rfl, hk⟩
    have HK := Lib.hid (((Kept.refl (fun _ => False) w).alloc _).trans hk (fun _ _ f => f))
    clear hk
    go_wp2_with fail
    go_ret
    exact HR.out _ HK.out
  · have HR : Hid (∀ w' x, Kept (fun _ => False) w w' → x = (decide (0 ≤ n) && decide (n < 16 - b)) → BoolTo w (regOk i c n b) (.returned (.bool x)) w') := Lib.hid (fun w' x hk hx => ⟨by unfold regOk; rw [hc, hx]; rfl, hk⟩)
    rw [hc] at HT
    clear hc
    by_cases h0 : 0 ≤ n
    · by_cases h1 : n < 16 - b
      · have HX : Hid (true = (decide (0 ≤ n) && decide (n < 16 - b))) := Lib.hid (by rw [decide_eq_true h0, decide_eq_true h1]; rfl)
        go_enter Tryd.func50, Tryd.ntmps50
        go_wp2_with fail
        refine (HT.out _).mono ?_
        rintro e w1 ⟨rfl, hk⟩
        have HK := Lib.hid (((Kept.refl (fun _ => False) w).alloc _).trans hk (fun _ _ f => f))
        clear hk
        go_wp2_with fail
        go_ret
        exact HR.out _ _ HK.out HX.out
      · have HX : Hid (decide (n < 16 - b) = (decide (0 ≤ n) && decide (n < 16 - b))) := Lib.hid (by rw [decide_eq_true h0, Bool.true_and])
        go_enter Tryd.func50, Tryd.ntmps50
        go_wp2_with fail
        refine (HT.out _).mono ?_
        rintro e w1 ⟨rfl, hk⟩
        have HK := Lib.hid (((Kept.refl (fun _ => False) w).alloc _).trans hk (fun _ _ f => f))
        clear hk
        go_wp2_with fail
        go_ret
        exact HR.out _ _ HK.out HX.out
    · have HX : Hid (false = (decide (0 ≤ n) && decide (n < 16 - b))) := Lib.hid (by rw [decide_eq_false h0]; rfl)
      go_enter Tryd.func50, Tryd.ntmps50
      go_wp2_with fail
      refine (HT.out _).mono ?_
      rintro e w1 ⟨rfl, hk⟩
      have HK := Lib.hid (((Kept.refl (fun _ => False) w).alloc _).trans hk (fun _ _ f => f))
      clear hk
      go_wp2_with fail
      go_ret
      exact HR.out _ _ HK.out HX.out

theorem number_any (i : Nat) (n : Int) (w : World) : Calls Tryd.prog 51 #[shV i, .int .i64 n] w (BoolTo w (numOk i n)) := by
  have HT : Hid (∀ w', Calls Tryd.prog 49 #[shV i, .int .u8 78] w' fun e w'' => e = .returned (.bool (hasC i 78)) ∧ Kept (fun _ => False) w' w'') := Lib.hid (fun w' => tells_any i 78 w')
  cases hc : hasC i 78
  · have HR : Hid (∀ w', Kept (fun _ => False) w w' → BoolTo w (numOk i n) (.returned (.bool (n == 0))) w') := Lib.hid (fun w' hk => ⟨by unfold numOk; rw [hc]; rfl, hk⟩)
    rw [hc] at HT
    clear hc
    go_enter Tryd.func51, Tryd.ntmps51
    go_wp2_with fail
    refine (HT.out _).mono ?_
    rintro e w1 ⟨rfl, hk⟩
    have HK := Lib.hid (((Kept.refl (fun _ => False) w).alloc _).trans hk (fun _ _ f => f))
    clear hk
    go_wp2_with fail
    go_ret
    exact HR.out _ HK.out
  · have HR : Hid (∀ w' x, Kept (fun _ => False) w w' → x = (decide (-999999999999999999 ≤ n) && decide (n ≤ 999999999999999999)) → BoolTo w (numOk i n) (.returned (.bool x)) w') := Lib.hid (fun w' x hk hx => ⟨by unfold numOk small; rw [hc, hx]; rfl, hk⟩)
    rw [hc] at HT
    clear hc
    by_cases h0 : -999999999999999999 ≤ n
    · by_cases h1 : n ≤ 999999999999999999
      · have HX : Hid (true = (decide (-999999999999999999 ≤ n) && decide (n ≤ 999999999999999999))) := Lib.hid (by rw [decide_eq_true h0, decide_eq_true h1]; rfl)
        go_enter Tryd.func51, Tryd.ntmps51
        go_wp2_with fail
        refine (HT.out _).mono ?_
        rintro e w1 ⟨rfl, hk⟩
        have HK := Lib.hid (((Kept.refl (fun _ => False) w).alloc _).trans hk (fun _ _ f => f))
        clear hk
        go_wp2_with fail
        go_ret
        exact HR.out _ _ HK.out HX.out
      · have HX : Hid (decide (n ≤ 999999999999999999) = (decide (-999999999999999999 ≤ n) && decide (n ≤ 999999999999999999))) := Lib.hid (by rw [decide_eq_true h0, Bool.true_and])
        go_enter Tryd.func51, Tryd.ntmps51
        go_wp2_with fail
        refine (HT.out _).mono ?_
        rintro e w1 ⟨rfl, hk⟩
        have HK := Lib.hid (((Kept.refl (fun _ => False) w).alloc _).trans hk (fun _ _ f => f))
        clear hk
        go_wp2_with fail
        go_ret
        exact HR.out _ _ HK.out HX.out
    · have HX : Hid (false = (decide (-999999999999999999 ≤ n) && decide (n ≤ 999999999999999999))) := Lib.hid (by rw [decide_eq_false h0]; rfl)
      go_enter Tryd.func51, Tryd.ntmps51
      go_wp2_with fail
      refine (HT.out _).mono ?_
      rintro e w1 ⟨rfl, hk⟩
      have HK := Lib.hid (((Kept.refl (fun _ => False) w).alloc _).trans hk (fun _ _ f => f))
      clear hk
      go_wp2_with fail
      go_ret
      exact HR.out _ _ HK.out HX.out

theorem behind_le (i : Nat) : 0 ≤ behindAt i ∧ behindAt i ≤ 16 := by unfold behindAt; split <;> omega
theorem boxes {w w1 : World} {s0 s1 s2 a0 a1 a2 a3 a4 : Value} {T U : TypeId} (hk : Kept (fun _ => False) ((w.alloc (.cells #[s0, s1, s2] T)).alloc (.cells #[a0, a1, a2, a3, a4] U)) w1) :
    w1.cell? ⟨w.heap.size, 0, none⟩ = some s0 ∧ w1.cell? ⟨w.heap.size, 1, none⟩ = some s1 ∧ w1.cell? ⟨w.heap.size, 2, none⟩ = some s2 ∧
    w1.cell? ⟨w.heap.size + 1, 0, none⟩ = some a0 ∧ w1.cell? ⟨w.heap.size + 1, 1, none⟩ = some a1 ∧ w1.cell? ⟨w.heap.size + 1, 2, none⟩ = some a2 ∧ w1.cell? ⟨w.heap.size + 1, 3, none⟩ = some a3 ∧ w1.cell? ⟨w.heap.size + 1, 4, none⟩ = some a4 := by
  have h1 : w1.heap[w.heap.size]? = some (.cells #[s0, s1, s2] T (0, 0)) := (hk.block _ (by simp; omega) (fun f => f)).trans ((((Kept.refl (fun _ => False) (w.alloc (.cells #[s0, s1, s2] T))).alloc _).block _ (by simp) (fun f => f)).trans (heap_new1 w _))
  have h2 : w1.heap[w.heap.size + 1]? = some (.cells #[a0, a1, a2, a3, a4] U (0, 0)) := (hk.block _ (by simp) (fun f => f)).trans (by have := heap_new1 (w.alloc (.cells #[s0, s1, s2] T)) (.cells #[a0, a1, a2, a3, a4] U); rw [World.size_alloc] at this; exact this)
  exact ⟨by rw [cell_at _ _ _ _ _ h1]; rfl, by rw [cell_at _ _ _ _ _ h1]; rfl, by rw [cell_at _ _ _ _ _ h1]; rfl, by rw [cell_at _ _ _ _ _ h2]; rfl, by rw [cell_at _ _ _ _ _ h2]; rfl, by rw [cell_at _ _ _ _ _ h2]; rfl, by rw [cell_at _ _ _ _ _ h2]; rfl, by rw [cell_at _ _ _ _ _ h2]; rfl⟩
set_option maxHeartbeats 2000000 in
theorem fits_any (i : Nat) (op a b c n : Int) (w : World) : Calls Tryd.prog 41 #[shV i, .agg #[.int .i64 op, .int .i64 a, .int .i64 b, .int .i64 c, .int .i64 n]] w (BoolTo w (fitsAt i a b c n)) := by
  have HBH := Lib.hid (behind_le i)
  have H1 : Hid (∀ w', Calls Tryd.prog 50 #[shV i, .int .u8 65, .int .i64 a, .int .i64 (behindAt i)] w' (BoolTo w' (regOk i 65 a (behindAt i)))) := Lib.hid (fun w' => register_any i 65 a _ HBH.out.1 HBH.out.2 w')
  have H2 : Hid (∀ w', Calls Tryd.prog 50 #[shV i, .int .u8 66, .int .i64 b, .int .i64 0] w' (BoolTo w' (regOk i 66 b 0))) := Lib.hid (fun w' => register_any i 66 b 0 (by omega) (by omega) w')
  have H3 : Hid (∀ w', Calls Tryd.prog 50 #[shV i, .int .u8 67, .int .i64 c, .int .i64 0] w' (BoolTo w' (regOk i 67 c 0))) := Lib.hid (fun w' => register_any i 67 c 0 (by omega) (by omega) w')
  have H4 : Hid (∀ w', Calls Tryd.prog 51 #[shV i, .int .i64 n] w' (BoolTo w' (numOk i n))) := Lib.hid (fun w' => number_any i n w')
  have HF : Hid (fitsAt i a b c n = (regOk i 65 a (behindAt i) && regOk i 66 b 0 && regOk i 67 c 0 && numOk i n)) := Lib.hid rfl
  obtain ⟨r1, h1⟩ : ∃ r, regOk i 65 a (behindAt i) = r := ⟨_, rfl⟩
  obtain ⟨r2, h2⟩ : ∃ r, regOk i 66 b 0 = r := ⟨_, rfl⟩
  obtain ⟨r3, h3⟩ : ∃ r, regOk i 67 c 0 = r := ⟨_, rfl⟩
  obtain ⟨r4, h4⟩ : ∃ r, numOk i n = r := ⟨_, rfl⟩
  obtain ⟨r, hr⟩ : ∃ r, fitsAt i a b c n = r := ⟨_, rfl⟩
  rw [h1] at H1 HF
  rw [h2] at H2 HF
  rw [h3] at H3 HF
  rw [h4] at H4 HF
  rw [hr] at HF ⊢
  clear h1 h2 h3 h4 hr HBH
  have HK0 : Hid (∀ w', Kept (fun _ => False) ((w.alloc (.cells #[.string (strS (wordAt i)), .string (strS (hasAt i)), .int .i64 (behindAt i)] 91)).alloc (.cells #[.int .i64 op, .int .i64 a, .int .i64 b, .int .i64 c, .int .i64 n] 46)) w' → Kept (fun _ => False) w w') := Lib.hid (fun w' hk => (((Kept.refl _ w).alloc _).alloc _).trans hk (fun _ _ f => f))
  go_enter Tryd.func41, Tryd.ntmps41
  go_wp2_with fail
  refine (H1.out _).mono ?_
  rintro e w1 ⟨rfl, hk1⟩
  obtain ⟨c0, c1, c2, a0, a1, a2, a3, a4⟩ := boxes hk1
  have HK1 := Lib.hid hk1
  clear hk1
  cases r1
  · have HR : Hid (BoolTo w r (.returned (.bool false)) w1) := Lib.hid ⟨by rw [HF.out]; rfl, HK0.out _ HK1.out⟩
    go_wp2_with fail
    go_ret
    exact HR.out
  go_wp2_with fail
  refine (H2.out _).mono ?_
  rintro e w2 ⟨rfl, hk1⟩
  have hk2 := HK1.out.trans hk1 (fun _ _ f => f)
  clear c0 c1 c2 a0 a1 a2 a3 a4 HK1 hk1
  obtain ⟨c0, c1, c2, a0, a1, a2, a3, a4⟩ := boxes hk2
  have HK1 := Lib.hid hk2
  clear hk2
  cases r2
  · have HR : Hid (BoolTo w r (.returned (.bool false)) w2) := Lib.hid ⟨by rw [HF.out]; rfl, HK0.out _ HK1.out⟩
    go_wp2_with fail
    go_ret
    exact HR.out
  go_wp2_with fail
  refine (H3.out _).mono ?_
  rintro e w3 ⟨rfl, hk1⟩
  have hk2 := HK1.out.trans hk1 (fun _ _ f => f)
  clear c0 c1 c2 a0 a1 a2 a3 a4 HK1 hk1
  obtain ⟨c0, c1, c2, a0, a1, a2, a3, a4⟩ := boxes hk2
  have HK1 := Lib.hid hk2
  clear hk2
  cases r3
  · have HR : Hid (BoolTo w r (.returned (.bool false)) w3) := Lib.hid ⟨by rw [HF.out]; rfl, HK0.out _ HK1.out⟩
    go_wp2_with fail
    go_ret
    exact HR.out
  go_wp2_with fail
  refine (H4.out _).mono ?_
  rintro e w4 ⟨rfl, hk1⟩
  have hk2 := HK1.out.trans hk1 (fun _ _ f => f)
  have HR : Hid (BoolTo w r (.returned (.bool r4)) w4) := Lib.hid ⟨by rw [HF.out]; rfl, HK0.out _ hk2⟩
  clear hk1 hk2
  go_wp2_with fail
  go_ret
  exact HR.out

end Go.Proofs.YtdkableaooaebaaDoor
