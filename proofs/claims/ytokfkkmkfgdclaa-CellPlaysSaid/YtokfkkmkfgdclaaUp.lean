/-
  The statements' own helpers of layer 1: pick, and up, the document's example.
  Conditions: pick's second argument is at least 1.
-/
import Derived.Test.YtokfkkmkfgdclaaOne
import Derived.LaidEql
namespace Go.Proofs.Ytokfkkmkfgdclaa
open Go.RowKit

section
variable {P : Program} (w : World)
theorem run_equalIn_iface_int (d : Nat) {ti tn : TypeId} {ms : Array (String × TypeId)} {i : TypeInfo} {k : IntKind} (a b : Int)
    (hi : P.underlying ti = some (.interface ms)) (hn : P.underlying tn = some (.int k)) (hinfo : P.info? tn = some i) (hcomp : i.comparable = true) :
    (Op.equalIn (d + 2) ti (.iface tn (.int k a)) (.iface tn (.int k b))).run P w = .ok (a == b) w := by
  simp [Op.equalIn, run_underlying hi, run_underlying hn, typeInfo, hinfo, hcomp]
theorem run_eql_iface_int {ti tn : TypeId} {ms : Array (String × TypeId)} {i : TypeInfo} {k : IntKind} (a b : Int)
    (hi : P.underlying ti = some (.interface ms)) (hn : P.underlying tn = some (.int k)) (hinfo : P.info? tn = some i) (hcomp : i.comparable = true) :
    (binOp .eql ti (.iface tn (.int k a)) (.iface tn (.int k b))).run P w = .ok (.bool (a == b)) w := by
  simp only [binOp]
  simp [Op.equal, Op.maxDepth, run_equalIn_iface_int w 9998 a b hi hn hinfo hcomp]
end

/-- Two errors of package api are equal as their numbers are. -/
theorem eql_codes (w : World) (a b : Int) : (binOp .eql 25 (.iface 28 (.int .i64 a)) (.iface 28 (.int .i64 b))).run Try.prog w = .ok (.bool (a == b)) w := by
  have hi : Try.prog.underlying 25 = some (.interface (Try.prog.methodsAt 25)) := by kernel_rfl
  have hn : Try.prog.underlying 28 = some (.int .i64) := by kernel_rfl
  have hc : (Try.prog.info? 28).map (fun i => i.comparable) = some true := by kernel_rfl
  obtain ⟨i, hinfo, hcomp⟩ : ∃ i, Try.prog.info? 28 = some i ∧ i.comparable = true := by
    cases h : Try.prog.info? 28 with
    | none => rw [h] at hc; cases hc
    | some i => rw [h] at hc; exact ⟨i, rfl, by simpa using hc⟩
  exact run_eql_iface_int w a b hi hn hinfo hcomp

def pickF (c n : Int) : Int := (if c < 0 then -(c + 1) else c) % n

theorem pickF_in (c n : Int) (hn : 1 ≤ n) : 0 ≤ pickF c n ∧ pickF c n < n := by
  unfold pickF; exact ⟨Int.emod_nonneg _ (by omega), Int.emod_lt_of_pos _ (by omega)⟩

theorem pick_any (c n : Int) (w : World) (h1 : -9223372036854775808 ≤ c) (h2 : c ≤ 9223372036854775807) (hn : 1 ≤ n) (hn2 : n ≤ 9223372036854775807) :
    Calls Try.prog 11 #[.int .i64 c, .int .i64 n] w fun e w' => e = .returned (.int .i64 (pickF c n)) ∧ w = w' := by
  by_cases h : c < 0
  · have h3 : 0 ≤ -(c + 1) := by omega
    have hh : pickF c n = -((c + 1).tmod n) := by unfold pickF; rw [if_pos h, ← Int.tmod_eq_emod_of_nonneg h3, Int.neg_tmod]
    have HH := Lib.hid hh; clear hh
    go_enter Try.func11, Try.ntmps11
    go_wp2
    go_ret
    exact ⟨by rw [HH.out]; try rfl, rfl⟩
  · have h3 : 0 ≤ c := by omega
    have hh : pickF c n = c % n := by unfold pickF; rw [if_neg h]
    have HH := Lib.hid hh; clear hh
    go_enter Try.func11, Try.ntmps11
    go_wp2
    go_ret
    exact ⟨by rw [HH.out]; try rfl, rfl⟩

set_option maxHeartbeats 400000 in
theorem up_any (w : World) : Calls Try.prog 8 #[] w fun e w' => e = .returned (.bool true) ∧ Kept (fun k => w.heap.size ≤ k) w w' := by
  have hq : ∀ (w : World) (a b : Int), (binOp .eql 25 (.iface 28 (.int .i64 a)) (.iface 28 (.int .i64 b))).run Try.prog w = .ok (.bool (a == b)) w := eql_codes
  go_enter Try.func8, Try.ntmps8
  go_wp2_with fail
  refine (one_new 3 w _ (Kept.refl _ _) (by omega) (by omega)).mono ?_
  rintro e w1 ⟨rfl, h1⟩
  generalize w.heap.size = b at *
  go_wp2_with fail
  refine (one_alloc_in 2 h1 (by omega) (by omega) (by omega) (by simp)).mono ?_
  rintro e w2 ⟨rfl, h2⟩
  replace h2 : One w w2 b 3 [0, 0] := h2
  clear h1
  go_wp2_with fail
  refine (one_swap_yes 2 0 7 h2 (by omega) (by simp) rfl).mono ?_
  rintro e w3 ⟨rfl, h3⟩
  replace h3 : One w w3 b 3 [0, 7] := h3
  clear h2
  go_wp2_with fail
  refine (one_load_in 2 h3 (by omega) (by simp)).mono ?_
  rintro e w4 ⟨rfl, rfl⟩
  go_wp2_with fail
  refine (one_alloc_full 2 h3 (by omega) (by omega) (by omega) (by simp)).mono ?_
  rintro e w4 ⟨rfl, h4⟩
  clear h3
  go_wp2_with fail
  go_ret
  exact ⟨rfl, h4.kept⟩

end Go.Proofs.Ytokfkkmkfgdclaa
