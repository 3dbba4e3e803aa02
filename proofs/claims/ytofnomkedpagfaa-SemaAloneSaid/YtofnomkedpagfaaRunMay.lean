/-
  The small calls of the document's layers 12 and 13: pick, Value, Asked, Entry.
  Conditions: numbers as they stand.
  The document's same of layer 13.
  Conditions: as many marks; the kinds are the same, and the values as they count.
  The document's Of of layer 5.
  Conditions: none.
  The document's May of layer 13, of a Sema.
  Conditions: none.
-/
import Derived.Test.YtofnomkedpagfaaRunTexts
section
namespace Go.Proofs.Ytofnomkedpagfaa
open Go.RowKit
set_option linter.unusedVariables false

set_option maxHeartbeats 2000000 in
theorem value_any (v : Int) (w : World) (h0 : -1000000 ≤ v) (h1 : v ≤ 1000000) : Calls Try.prog 28 #[.int .i64 v] w fun e w' => e = .returned (.int .i64 (if v < 0 then -v else v)) ∧ w' = w := by
  by_cases h : v < 0
  · have HI : Hid ((if v < 0 then -v else v) = -v) := Lib.hid (if_pos h)
    go_enter Try.func28, Try.ntmps28
    go_wp2_with fail
    go_ret
    exact ⟨rfl, rfl⟩
  · have HI : Hid ((if v < 0 then -v else v) = v) := Lib.hid (if_neg h)
    go_enter Try.func28, Try.ntmps28
    go_wp2_with fail
    go_ret
    exact ⟨rfl, rfl⟩

/-- Which of eight threads. -/
def pickI (T : Int) : Nat := (if T < 0 then (-(T + 1)) % 8 else T % 8).toNat
theorem pick_lt (T : Int) : pickI T < 8 := by unfold pickI; split <;> omega
set_option maxHeartbeats 2000000 in
theorem pick_any (T : Int) (w : World) (h0 : -9223372036854775808 ≤ T) (h1 : T ≤ 9223372036854775807) : Calls Try.prog 13 #[.int .i64 T, .int .i64 8] w fun e w' => e = .returned (.int .i64 (pickI T)) ∧ w' = w := by
  by_cases h : T < 0
  · have HI : Hid ((pickI T : Int) = -(T + 1).tmod 8) := Lib.hid (by
      unfold pickI; rw [if_pos h, ← Int.neg_tmod, Int.tmod_eq_emod_of_nonneg (by omega)]; omega)
    go_enter Try.func13, Try.ntmps13
    go_wp2_with fail
    go_ret
    exact ⟨by rw [HI.out]; rfl, rfl⟩
  · have HI : Hid ((pickI T : Int) = T % 8) := Lib.hid (by
      unfold pickI; rw [if_neg h]; omega)
    go_enter Try.func13, Try.ntmps13
    go_wp2_with fail
    go_ret
    exact ⟨by rw [HI.out]; rfl, rfl⟩

set_option maxHeartbeats 2000000 in
theorem entry_any (k : Int) (hk : k = 4 ∨ k = 5 ∨ k = 6 ∨ k = 7) (w : World) : Calls Try.prog 15 #[.int .i64 k] w fun e w' => e = .returned (.string (entS k)) ∧ Kept (fun _ => False) w w' := by
  have HK : Hid (∀ N, Kept (fun _ => False) w (w.alloc N)) := Lib.hid (fun N => (Kept.refl _ w).alloc N)
  rcases hk with rfl | rfl | rfl | rfl
  · go_enter Try.func15, Try.ntmps15
    go_wp2_with fail
    go_ret
    exact ⟨rfl, HK.out _⟩
  · go_enter Try.func15, Try.ntmps15
    go_wp2_with fail
    go_ret
    exact ⟨rfl, HK.out _⟩
  · go_enter Try.func15, Try.ntmps15
    go_wp2_with fail
    go_ret
    exact ⟨rfl, HK.out _⟩
  · go_enter Try.func15, Try.ntmps15
    go_wp2_with fail
    go_ret
    exact ⟨rfl, HK.out _⟩

set_option maxHeartbeats 2000000 in
theorem asked_any (k o n wt : Int) (br : Bool) (w : World) (h0 : 0 ≤ n) (h1 : n ≤ 1000) : Calls Try.prog 16 #[.agg #[.int .i64 k, .int .i64 o, .int .i64 n, .int .i64 wt, .bool br]] w fun e w' => e = .returned (.int .i64 (askI k n)) ∧ Kept (fun _ => False) w w' := by
  have HK : Hid (∀ N, Kept (fun _ => False) w (w.alloc N)) := Lib.hid (fun N => (Kept.refl _ w).alloc N)
  by_cases h4 : k = 4
  · subst h4
    go_enter Try.func16, Try.ntmps16
    go_wp2_with fail
    go_ret
    exact ⟨rfl, HK.out _⟩
  by_cases h5 : k = 5
  · subst h5
    go_enter Try.func16, Try.ntmps16
    go_wp2_with fail
    go_ret
    exact ⟨rfl, HK.out _⟩
  have HE : Hid (askI k n = n) := Lib.hid (by unfold askI; rw [if_neg (by omega)])
  have e4 : (k == 4) = false := beq_eq_false_iff_ne.2 h4
  have e5 : (k == 5) = false := beq_eq_false_iff_ne.2 h5
  clear h4 h5
  go_enter Try.func16, Try.ntmps16
  go_wp2_with fail
  go_ret
  exact ⟨by rw [HE.out]; rfl, HK.out _⟩

end Go.Proofs.Ytofnomkedpagfaa
end
section
namespace Go.Proofs.Ytofnomkedpagfaa
open Go.RowKit
set_option linter.unusedVariables false

theorem kept_drewN (w : World) : ∀ q, Kept (fun _ => False) w (w.drewN q) := fun q => ⟨rfl, rfl, rfl, Nat.le_refl _, fun _ _ _ => rfl⟩
/-- A mark is another, as values count. -/
def SameNt (x y : Nt) : Prop := x.kind = y.kind ∧ (if x.value < 0 then -x.value else x.value) = y.value ∧ -1000000 ≤ x.value ∧ x.value ≤ 1000000
def SameL (xs ys : List Nt) : Prop := xs.length = ys.length ∧ ∀ (i : Nat) (x y : Nt), xs[i]? = some x → ys[i]? = some y → SameNt x y
theorem nt_at {w : World} {B : Nat} {s : Option Addr} {xs : List Nt} (h : Elems w B s 2 Nt.cells xs) {k : Nat} {x : Nt} (hx : xs[k]? = some x) :
    ∃ g off, s = some ⟨g, off, none⟩ ∧ g < B ∧ w.cell? ⟨g, off + k * 2, none⟩ = some (.int .i64 x.kind) ∧ w.cell? ⟨g, off + k * 2 + 1, none⟩ = some (.int .i64 x.value) := by
  obtain ⟨g, off, e, hb, hc⟩ := h.2 k x hx
  exact ⟨g, off, e, hb, hc 0 _ rfl, hc 1 _ rfl⟩

set_option maxHeartbeats 4000000 in
set_option maxRecDepth 100000 in
theorem same13_any (xs ys : List Nt) (sa sb : Option Addr) (ca cb m : Nat) (w : World) (hm : ys.length = m) (hm1 : m ≤ 100) (hS : SameL xs ys) (hA : Elems w w.heap.size sa 2 Nt.cells xs) (hB : Elems w w.heap.size sb 2 Nt.cells ys) :
    Calls Try.prog 18 #[.slice sa m ca, .slice sb m cb] w fun e w' => e = .returned (.bool true) ∧ Kept (fun _ => False) w w' := by
  obtain ⟨hS1, hS2⟩ := hS
  rw [hm] at hS1
  have HS1 := Lib.hid hS1
  have HS2 := Lib.hid hS2
  have HA := Lib.hid hA
  have HB := Lib.hid hB
  have HM := Lib.hid hm
  clear hS1 hS2 hA hB hm
  go_enter Try.func18, Try.ntmps18
  go_wp2_with fail
  go_loopw [5] (fun i wr => ∃ k : Nat, i = .int .i64 k ∧ k ≤ m ∧ Kept (fun _ => False) w wr) (fun i _ => m - (intOf i).toNat)
  case atStart => exact ⟨0, rfl, by omega, Kept.refl _ w⟩
  case round =>
    obtain ⟨k, rfl, hk, hkk⟩ := hrel
    have HK := Lib.hid hkk
    clear hkk
    by_cases hk1 : k = m
    · have hk2 : ¬ ((k : Int) < (m : Int)) := by omega
      clear hk1 hk hm1
      go_wp2_with fail
      go_ret
      exact ⟨rfl, HK.out⟩
    have hkm : (k : Int) < (m : Int) := by omega
    have HKM : Hid (k < m) := Lib.hid (by omega)
    obtain ⟨y, hy⟩ : ∃ y, ys[k]? = some y := ⟨_, List.getElem?_eq_getElem (by rw [HM.out]; exact HKM.out)⟩
    obtain ⟨x, hx⟩ : ∃ x, xs[k]? = some x := ⟨_, List.getElem?_eq_getElem (by rw [HS1.out]; exact HKM.out)⟩
    obtain ⟨h1, h2, h3, h4⟩ := HS2.out k x y hx hy
    obtain ⟨ga, oa, rfl, hga, a0, a1⟩ := nt_at HA.out hx
    obtain ⟨gb, ob, rfl, hgb, b0, b1⟩ := nt_at HB.out hy
    replace a0 := (HK.out.cell (p := ⟨ga, oa + k * 2, none⟩) hga (fun f => f)).trans a0
    replace a1 := (HK.out.cell (p := ⟨ga, oa + k * 2 + 1, none⟩) hga (fun f => f)).trans a1
    replace b0 := (HK.out.cell (p := ⟨gb, ob + k * 2, none⟩) hgb (fun f => f)).trans b0
    replace b1 := (HK.out.cell (p := ⟨gb, ob + k * 2 + 1, none⟩) hgb (fun f => f)).trans b1
    rw [← h1] at b0
    have hnow : ∀ q, Calls Try.prog 28 #[.int .i64 x.value] (wr.drewN q) fun e w' => e = .returned (.int .i64 y.value) ∧ w' = wr.drewN q := fun q => by
      rw [← h2]; exact value_any x.value _ (by omega) (by omega)
    have HQ : Hid (∀ q, Kept (fun _ => False) w (wr.drewN q)) := Lib.hid (fun q => HK.out.tr0 (kept_drewN wr q))
    obtain ⟨xk, hxk⟩ : ∃ q, x.kind = q := ⟨_, rfl⟩
    obtain ⟨xv, hxv⟩ : ∃ q, x.value = q := ⟨_, rfl⟩
    obtain ⟨yv, hyv⟩ : ∃ q, y.value = q := ⟨_, rfl⟩
    rw [hxk] at a0 b0
    rw [hxv] at a1 hnow
    rw [hyv] at b1 hnow
    clear hx hy hk1 h1 h2 h3 h4 hga hgb hxk hxv hyv
    go_wp2_with fail
    go_quiet ((go_at_call 28; exact Calls.quiet_of_same (hnow _)))
    go_wp2_with fail
    go_roundw
    case rel => exact ⟨k + 1, by go_num, by have := HKM.out; omega, HQ.out _⟩
    case measure => have := HKM.out; simp [intOf]; omega

end Go.Proofs.Ytofnomkedpagfaa
end
section
namespace Go.Proofs.Ytofnomkedpagfaa
open Go.RowKit
set_option linter.unusedVariables false

/-- What a kind of calls is of. -/
def ofI (k : Int) : Int := if k < 1 ∨ 20 ≤ k then 0 else if k ≤ 3 then 1 else if k ≤ 7 then 2 else if k ≤ 9 then 3 else if k ≤ 15 then 4 else if k ≤ 18 then 1 else 5
set_option maxHeartbeats 2000000 in
theorem of13_any (k : Int) (w : World) : Calls Try.prog 12 #[.int .i64 k] w fun e w' => e = .returned (.int .i64 (ofI k)) ∧ Kept (fun _ => False) w w' := by
  by_cases h1 : k < 0
  · have HF : Hid (ofI k = 0) := Lib.hid (by unfold ofI; rw [if_pos (by omega)])
    go_enter Try.func12, Try.ntmps12
    go_wp2_with fail
    go_ret
    exact ⟨by rw [HF.out]; rfl, (Kept.refl _ w).alloc _⟩
  by_cases h2 : 20 ≤ k
  · have HF : Hid (ofI k = 0) := Lib.hid (by unfold ofI; rw [if_pos (by omega)])
    go_enter Try.func12, Try.ntmps12
    go_wp2_with fail
    go_ret
    exact ⟨by rw [HF.out]; rfl, (Kept.refl _ w).alloc _⟩
  have hc : k = 0 ∨ k = 1 ∨ k = 2 ∨ k = 3 ∨ k = 4 ∨ k = 5 ∨ k = 6 ∨ k = 7 ∨ k = 8 ∨ k = 9 ∨ k = 10 ∨ k = 11 ∨ k = 12 ∨ k = 13 ∨ k = 14 ∨ k = 15 ∨ k = 16 ∨ k = 17 ∨ k = 18 ∨ k = 19 := by omega
  clear h1 h2
  rcases hc with rfl | rfl | rfl | rfl | rfl | rfl | rfl | rfl | rfl | rfl | rfl | rfl | rfl | rfl | rfl | rfl | rfl | rfl | rfl | rfl
  all_goals
    go_enter Try.func12, Try.ntmps12
    go_wp2_with fail
    go_ret
    exact ⟨rfl, (Kept.refl _ w).alloc _⟩

end Go.Proofs.Ytofnomkedpagfaa
end
section
namespace Go.Proofs.Ytofnomkedpagfaa
open Go.RowKit
set_option linter.unusedVariables false

set_option maxHeartbeats 4000000 in
set_option maxRecDepth 100000 in
theorem may2_any (k n : Int) (fair : Bool) (w : World) : Calls Try.prog 5 #[.agg #[.int .i64 k, .bool fair, .int .i64 n], .int .i64 2] w fun e w' => e = .returned (.bool (decide (k = 2 ∧ 0 ≤ n ∧ n ≤ 1000))) ∧ Kept (fun _ => False) w w' := by
  have HK : Hid (∀ o, Kept (fun _ => False) w (w.alloc o)) := Lib.hid (fun o => (Kept.refl (fun _ => False) w).alloc o)
  by_cases hk : k = 2
  · by_cases h0 : 0 ≤ n
    · by_cases h1 : n ≤ 1000
      · have HR : Hid (decide (k = 2 ∧ 0 ≤ n ∧ n ≤ 1000) = true) := Lib.hid (decide_eq_true ⟨hk, h0, h1⟩)
        rw [HR.out]
        subst hk
        cases fair
        all_goals
          go_enter Try.func5, Try.ntmps5
          go_wp2_with fail
          all_goals go_ret
          all_goals exact ⟨rfl, HK.out _⟩
      · have HR : Hid (decide (k = 2 ∧ 0 ≤ n ∧ n ≤ 1000) = false) := Lib.hid (decide_eq_false (by omega))
        rw [HR.out]
        subst hk
        cases fair
        all_goals
          go_enter Try.func5, Try.ntmps5
          go_wp2_with fail
          all_goals go_ret
          all_goals exact ⟨rfl, HK.out _⟩
    · have HR : Hid (decide (k = 2 ∧ 0 ≤ n ∧ n ≤ 1000) = false) := Lib.hid (decide_eq_false (by omega))
      rw [HR.out]
      subst hk
      cases fair
      all_goals
        go_enter Try.func5, Try.ntmps5
        go_wp2_with fail
        all_goals go_ret
        all_goals exact ⟨rfl, HK.out _⟩
  · have HR : Hid (decide (k = 2 ∧ 0 ≤ n ∧ n ≤ 1000) = false) := Lib.hid (decide_eq_false (by omega))
    rw [HR.out]
    have hkb : (k == 2) = false := beq_eq_false_iff_ne.2 hk
    cases fair
    all_goals
      go_enter Try.func5, Try.ntmps5
      go_wp2_with fail
      all_goals go_ret
      all_goals exact ⟨rfl, HK.out _⟩

end Go.Proofs.Ytofnomkedpagfaa
end
