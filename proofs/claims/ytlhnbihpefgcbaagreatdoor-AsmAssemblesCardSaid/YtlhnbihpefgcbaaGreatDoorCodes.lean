/-
  Two errors of package api are compared by their numbers.
  Conditions: none.
  What the statements' own Code comes to: an error's number.
  Conditions: none, or one of api's errors.
-/
import Derived.Test.YtlhnbihpefgcbaaGreatDoorRows
import Derived.WalkKit
import Derived.LaidEql
import Derived.Test.YtlhnbihpefgcbaaGreatDoorKept
import Derived.LoopTactic
section
namespace Go.Proofs.YtlhnbihpefgcbaaGreatDoor
open Go.RowKit

section
variable {P : Program} (w : World)
theorem run_equalIn_iface_int (d : Nat) {ti tn : TypeId} {ms : Array (String × TypeId)} {i : TypeInfo} {k : IntKind} (a b : Int)
    (hi : P.underlying ti = some (.interface ms)) (hn : P.underlying tn = some (.int k)) (hinfo : P.info? tn = some i) (hcomp : i.comparable = true) :
    (Op.equalIn (d + 2) ti (.iface tn (.int k a)) (.iface tn (.int k b))).run P w = .ok (a == b) w := by
  simp [Op.equalIn, run_underlying hi, run_underlying hn, typeInfo, hinfo, hcomp]
theorem run_eql_iface_int {ti tn : TypeId} {ms : Array (String × TypeId)} {i : TypeInfo} {k : IntKind} (a b : Int)
    (hi : P.underlying ti = some (.interface ms)) (hn : P.underlying tn = some (.int k)) (hinfo : P.info? tn = some i) (hcomp : i.comparable = true) :
    (binOp .eql ti (.iface tn (.int k a)) (.iface tn (.int k b))).run P w = .ok (.bool (a == b)) w := by
  simp only [binOp]
  simp [Op.equal, Op.maxDepth, run_equalIn_iface_int w 9998 a b hi hn hinfo hcomp]
end

theorem eql_codes (w : World) (a b : Int) : (binOp .eql 28 (.iface 47 (.int .i64 a)) (.iface 47 (.int .i64 b))).run Tryz.prog w = .ok (.bool (a == b)) w := by
  have hi : Tryz.prog.underlying 28 = some (.interface (Tryz.prog.methodsAt 28)) := by kernel_rfl
  have hn : Tryz.prog.underlying 47 = some (.int .i64) := by kernel_rfl
  have hc : (Tryz.prog.info? 47).map (fun i => i.comparable) = some true := by kernel_rfl
  obtain ⟨i, hinfo, hcomp⟩ : ∃ i, Tryz.prog.info? 47 = some i ∧ i.comparable = true := by
    cases h : Tryz.prog.info? 47 with
    | none => rw [h] at hc; cases hc
    | some i => rw [h] at hc; exact ⟨i, rfl, by simpa using hc⟩
  exact run_eql_iface_int w a b hi hn hinfo hcomp

theorem neq_codes (w : World) (a b : Int) : (binOp .neq 28 (.iface 47 (.int .i64 a)) (.iface 47 (.int .i64 b))).run Tryz.prog w = .ok (.bool (!(a == b))) w := by
  have h := eql_codes w a b
  simp only [binOp] at h ⊢
  simp only [Sem.run_bind, Sem.run_pure] at h ⊢
  cases hr : (Op.equal 28 (.iface 47 (.int .i64 a)) (.iface 47 (.int .i64 b))).run Tryz.prog w with
  | ok b w' => rw [hr] at h; simp [Result.andThen] at h ⊢; exact ⟨h.1, h.2⟩
  | halt x w' => rw [hr] at h; simp [Result.andThen] at h

end Go.Proofs.YtlhnbihpefgcbaaGreatDoor
end
section
namespace Go.Proofs.YtlhnbihpefgcbaaGreatDoor
open Go.RowKit

theorem code_nil (w : World) : Calls Tryz.prog 23 #[.nilIface] w fun e w' => e = .returned (.int .i64 0) ∧ w = w' := by
  go_enter Tryz.func23, Tryz.ntmps23
  go_wp2_with fail
  go_ret
  exact ⟨rfl, rfl⟩

theorem code_of (c : Nat) (h1 : 1 ≤ c) (h2 : c ≤ 8) (w : World) : Calls Tryz.prog 23 #[.iface 47 (.int .i64 c)] w fun e w' => e = .returned (.int .i64 c) ∧ w = w' := by
  have hq : ∀ (w : World) (a b : Int), (binOp .eql 28 (.iface 47 (.int .i64 a)) (.iface 47 (.int .i64 b))).run Tryz.prog w = .ok (.bool (a == b)) w := eql_codes
  go_enter Tryz.func23, Tryz.ntmps23
  go_wp2_with fail
  go_loopw [3] (fun i wr => ∃ k : Nat, i = .int .i64 k ∧ 1 ≤ k ∧ k ≤ c ∧ wr = w) (fun i _ => 9 - (intOf i).toNat)
  case atStart => exact ⟨1, rfl, by omega, by omega, rfl⟩
  case round =>
    obtain ⟨k, rfl, hk1, hk2, rfl⟩ := hrel
    have hk8 : (k : Int) ≤ 8 := by omega
    by_cases hkc : k = c
    · subst hkc
      go_wp2_with fail
      go_ret
      exact ⟨rfl, rfl⟩
    · have hne : ((c : Int) == (k : Int)) = false := by rw [beq_eq_false_iff_ne]; omega
      go_wp2_with fail
      go_roundw
      case rel => exact ⟨k + 1, by go_num, by omega, by omega, by first | rfl | trivial⟩
      case measure => simp [intOf]; omega

end Go.Proofs.YtlhnbihpefgcbaaGreatDoor
end
