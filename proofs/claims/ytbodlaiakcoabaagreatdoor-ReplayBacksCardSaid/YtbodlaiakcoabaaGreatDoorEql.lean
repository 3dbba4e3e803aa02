/-
  Two errors of package api are compared by their numbers.
  Conditions: none.
-/
import Derived.Test.YtbodlaiakcoabaaGreatDoorRows
import Derived.WalkKit
import Derived.LaidEql
namespace Go.Proofs.YtbodlaiakcoabaaGreatDoor
open Go.RowKit

section
variable {P : Program} (w : World)
theorem run_equalIn_iface_int (d : Nat) {ti tn : TypeId} {ms : Array (String × TypeId)} {i : TypeInfo} {k : IntKind} (a b : Int)
    (hi : P.underlying ti = some (.interface ms)) (hn : P.underlying tn = some (.int k)) (hinfo : P.info? tn = some i) (hcomp : i.comparable = true) :
    (Op.equalIn (d + 2) ti (.iface tn (.int k a)) (.iface tn (.int k b))).run P w = .ok (a == b) w := by
  simp [Op.equalIn, run_underlying hi, run_underlying hn, typeInfo, hinfo, hcomp]
theorem run_eql_iface_int {ti tn : TypeId} {ms : Array (String × TypeId)} {i : TypeInfo} {k : IntKind} (a b : Int)
    (hi : P.underlying ti = some (.interface ms)) (hn : P.underlying tn = some (.int k)) (hinfo : P.info? tn = some i) (hcomp : i.comparable = true) :
    (binOp .eql ti (.iface tn (.int k a)) (.iface tn (.int k b))).run P w = .ok (.bool (a == b)) w := by
  simp only [binOp]
  simp [Op.equal, Op.maxDepth, run_equalIn_iface_int w 9998 a b hi hn hinfo hcomp]
end

theorem eql_codes (w : World) (a b : Int) : (binOp .eql 32 (.iface 48 (.int .i64 a)) (.iface 48 (.int .i64 b))).run Tryz.prog w = .ok (.bool (a == b)) w := by
  have hi : Tryz.prog.underlying 32 = some (.interface (Tryz.prog.methodsAt 32)) := by kernel_rfl
  have hn : Tryz.prog.underlying 48 = some (.int .i64) := by kernel_rfl
  have hc : (Tryz.prog.info? 48).map (fun i => i.comparable) = some true := by kernel_rfl
  obtain ⟨i, hinfo, hcomp⟩ : ∃ i, Tryz.prog.info? 48 = some i ∧ i.comparable = true := by
    cases h : Tryz.prog.info? 48 with
    | none => rw [h] at hc; cases hc
    | some i => rw [h] at hc; exact ⟨i, rfl, by simpa using hc⟩
  exact run_eql_iface_int w a b hi hn hinfo hcomp

theorem neq_codes (w : World) (a b : Int) : (binOp .neq 32 (.iface 48 (.int .i64 a)) (.iface 48 (.int .i64 b))).run Tryz.prog w = .ok (.bool (!(a == b))) w := by
  have h := eql_codes w a b
  simp only [binOp] at h ⊢
  simp only [Sem.run_bind, Sem.run_pure] at h ⊢
  cases hr : (Op.equal 32 (.iface 48 (.int .i64 a)) (.iface 48 (.int .i64 b))).run Tryz.prog w with
  | ok b w' => rw [hr] at h; simp [Result.andThen] at h ⊢; exact ⟨h.1, h.2⟩
  | halt x w' => rw [hr] at h; simp [Result.andThen] at h

end Go.Proofs.YtbodlaiakcoabaaGreatDoor
