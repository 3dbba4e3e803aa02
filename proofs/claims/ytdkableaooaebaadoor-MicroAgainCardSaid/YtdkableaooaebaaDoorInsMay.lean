/-
  What the program's May and Access come to.
  Conditions: the table lies as the program's text lays it; numbers of 64 bits.
-/
import Derived.Test.YtdkableaooaebaaDoorInsMayL
namespace Go.Proofs.YtdkableaooaebaaDoor
open Go.RowKit

theorem goes_any (i : Nat) (w : World) : Calls Tryd.prog 40 #[shV i] w fun e w' => e = .returned (.bool (hasC i 84)) ∧ Kept (fun _ => False) w w' := by
  go_enter Tryd.func40, Tryd.ntmps40
  go_wp2_with fail
  refine (tells_any i 84 _).mono ?_
  rintro e w1 ⟨rfl, hk⟩
  have hk2 := ((Kept.refl (fun _ => False) w).alloc _).trans hk (fun _ _ f => f)
  go_wp2_with fail
  go_ret
  exact ⟨rfl, hk2⟩

set_option maxHeartbeats 2000000 in
theorem may_any (op a b c n : Int) (w : World) (hL : Laid w) (h0 : -9223372036854775808 ≤ op) (h1 : op ≤ 9223372036854775807) : Calls Tryd.prog 34 #[.agg #[.int .i64 op, .int .i64 a, .int .i64 b, .int .i64 c, .int .i64 n]] w (BoolTo w (mayP op a b c n)) := by
  have HO := Lib.hid (shapeOf_any op (w.alloc (.cells #[.int .i64 op, .int .i64 a, .int .i64 b, .int .i64 c, .int .i64 n] 46)) (hL.on0 ((Kept.refl _ w).alloc _)) h0 h1)
  have hB := heap_new1 w (.cells #[.int .i64 op, .int .i64 a, .int .i64 b, .int .i64 c, .int .i64 n] 46)
  have hK := (Kept.refl (fun _ => False) w).alloc (.cells #[.int .i64 op, .int .i64 a, .int .i64 b, .int .i64 c, .int .i64 n] 46)
  clear hL
  go_enter Tryd.func34, Tryd.ntmps34
  go_wp2_with fail
  refine HO.out.mono ?_
  rintro e w1 ⟨i, ok, rfl, hi, hcase, hk1⟩
  have hB1 := hk1.at0 hB
  have hK1 := hK.trans hk1 (fun _ _ f => f)
  have HG := Lib.hid (goes_any i (w1.alloc (.cells #[.string (strS (wordAt i)), .string (strS (hasAt i)), .int .i64 (behindAt i)] 91)))
  have hS := heap_new1 w1 (.cells #[.string (strS (wordAt i)), .string (strS (hasAt i)), .int .i64 (behindAt i)] 91)
  have hB2 := ((Kept.refl (fun _ => False) w1).alloc (.cells #[.string (strS (wordAt i)), .string (strS (hasAt i)), .int .i64 (behindAt i)] 91)).at0 hB1
  have hK2 := hK1.alloc (.cells #[.string (strS (wordAt i)), .string (strS (hasAt i)), .int .i64 (behindAt i)] 91)
  have hlt : w.heap.size < w1.heap.size := (Array.getElem?_eq_some_iff.1 hB1).1
  clear hK hB hk1 hB1 hK1 HO
  go_wp2_with fail
  refine HG.out.mono ?_
  rintro e w2 ⟨rfl, hk2⟩
  have hS3 := hk2.at0 hS
  have hB3 := hk2.at0 hB2
  have hK3 := hK2.trans hk2 (fun _ _ f => f)
  have HS3 := Lib.hid hS3
  have HB3 := Lib.hid hB3
  have HK3 := Lib.hid hK3
  obtain ⟨s0, s1, s2⟩ := cells3 hS3
  obtain ⟨b0, b1, b2, b3, b4, b5⟩ := cells5 hB3
  clear hk2 hS hB2 hK2 hS3 hB3 hK3 HG
  have HC := Lib.hid hcase
  clear hcase
  obtain ⟨g, hg⟩ : ∃ g, hasC i 84 = g := ⟨_, rfl⟩
  rw [hg]
  have HGG := Lib.hid hg
  clear hg
  cases g
  · cases ok
    · have HR : Hid (BoolTo w (mayP op a b c n) (.returned (.bool false)) w2) := Lib.hid ⟨by
        have hc := HC.out
        unfold mayP
        rw [show (decide (1 ≤ op) && decide (op ≤ 22)) = false by rw [Bool.and_eq_false_iff, decide_eq_false_iff_not, decide_eq_false_iff_not]; rcases hc with ⟨_, _, _, h⟩ | ⟨h, _, _⟩; (· cases h); (· omega)]
        rfl, HK3.out⟩
      go_wp2_with fail
      go_ret
      exact HR.out
    · go_wp2_with fail
      refine (fits_any i op a b c n w2).mono ?_
      rintro e w3 ⟨rfl, hk⟩
      have HR : Hid (BoolTo w (mayP op a b c n) (.returned (.bool (fitsAt i a b c n))) w3) := Lib.hid ⟨(by
        have hc := HC.out
        rcases hc with ⟨p1, p2, rfl, _⟩ | ⟨_, _, h⟩
        · unfold mayP
          rw [decide_eq_true p1, decide_eq_true p2, Int.toNat_natCast, HGG.out]
          rfl
        · cases h), HK3.out.trans hk (fun _ _ f => f)⟩
      clear hk
      go_wp2_with fail
      go_ret
      exact HR.out
  · cases ok
    · exfalso
      rcases HC.out with ⟨_, _, _, h⟩ | ⟨_, rfl, _⟩
      · cases h
      · have := HGG.out
        revert this
        decide
    · have hne : ¬ w1.heap.size = w.heap.size := by omega
      have HS4 : Hid ((w2.setCell ⟨w.heap.size, 4, none⟩ (.int .i64 0)).heap[w1.heap.size]? = some (.cells #[.string (strS (wordAt i)), .string (strS (hasAt i)), .int .i64 (behindAt i)] 91 (0, 0))) := Lib.hid ((((Kept.refl (fun k => k = w.heap.size) w2).setCell ⟨w.heap.size, 4, none⟩ (.int .i64 0) (fun _ => rfl)).block _ (Array.getElem?_eq_some_iff.1 HS3.out).1 hne).trans HS3.out)
      have HB4 : Hid ((w2.setCell ⟨w.heap.size, 4, none⟩ (.int .i64 0)).heap[w.heap.size]? = some (.cells #[.int .i64 op, .int .i64 a, .int .i64 b, .int .i64 c, .int .i64 0] 46 (0, 0))) := Lib.hid (set_cellB HB3.out)
      have HK4 : Hid (Kept (fun _ => False) w (w2.setCell ⟨w.heap.size, 4, none⟩ (.int .i64 0))) := Lib.hid (HK3.out.setCell _ _ (fun h => absurd h (Nat.lt_irrefl _)))
      obtain ⟨s0, s1, s2⟩ := cells3 HS4.out
      obtain ⟨b0, b1, b2, b3, b4, b5⟩ := cells5 HB4.out
      go_wp2_with fail
      refine (fits_any i op a b c 0 _).mono ?_
      rintro e w3 ⟨rfl, hk⟩
      have HR : Hid (BoolTo w (mayP op a b c n) (.returned (.bool (fitsAt i a b c 0))) w3) := Lib.hid ⟨(by
        have hc := HC.out
        rcases hc with ⟨p1, p2, rfl, _⟩ | ⟨_, _, h⟩
        · unfold mayP
          rw [decide_eq_true p1, decide_eq_true p2, Int.toNat_natCast, HGG.out]
          rfl
        · cases h), HK4.out.trans hk (fun _ _ f => f)⟩
      clear hk
      go_wp2_with fail
      go_ret
      exact HR.out

def isAccess (op : Int) : Bool := decide (5 ≤ op) && decide (op ≤ 7)
theorem access_any (op a b c n : Int) (w : World) : Calls Tryd.prog 30 #[.agg #[.int .i64 op, .int .i64 a, .int .i64 b, .int .i64 c, .int .i64 n]] w (BoolTo w (isAccess op)) := by
  have HR : Hid (∀ w' x, Kept (fun _ => False) w w' → isAccess op = x → BoolTo w (isAccess op) (.returned (.bool x)) w') := Lib.hid (fun w' x hk hx => ⟨by rw [hx], hk⟩)
  have HK := Lib.hid ((Kept.refl (fun _ => False) w).alloc (.cells #[.int .i64 op, .int .i64 a, .int .i64 b, .int .i64 c, .int .i64 n] 46))
  by_cases h5 : op = 5
  · subst h5
    go_enter Tryd.func30, Tryd.ntmps30
    go_wp2_with fail
    go_ret
    exact HR.out _ _ HK.out rfl
  by_cases h6 : op = 6
  · subst h6
    go_enter Tryd.func30, Tryd.ntmps30
    go_wp2_with fail
    go_ret
    exact HR.out _ _ HK.out rfl
  by_cases h7 : op = 7
  · subst h7
    go_enter Tryd.func30, Tryd.ntmps30
    go_wp2_with fail
    go_ret
    exact HR.out _ _ HK.out rfl
  have HX : Hid (isAccess op = false) := Lib.hid (by
    unfold isAccess
    rw [Bool.and_eq_false_iff, decide_eq_false_iff_not, decide_eq_false_iff_not]
    omega)
  have e5 : (op == 5) = false := by rw [beq_eq_false_iff_ne]; exact h5
  have e6 : (op == 6) = false := by rw [beq_eq_false_iff_ne]; exact h6
  have e7 : (op == 7) = false := by rw [beq_eq_false_iff_ne]; exact h7
  clear h5 h6 h7
  go_enter Tryd.func30, Tryd.ntmps30
  go_wp2_with fail
  go_ret
  exact HR.out _ _ HK.out HX.out

end Go.Proofs.YtdkableaooaebaaDoor
