/-
  Two lines, or two instructions, by value are compared.
  Conditions: none.
-/
import Derived.Test.YtlhnbihpefgcbaaGreatDoorLineMem
import Derived.Test.YtlhnbihpefgcbaaGreatDoorCodes
import Derived.Laws.StructEq
namespace Go.Proofs.YtlhnbihpefgcbaaGreatDoor
open Go.RowKit

/-- The cells of an instruction by value. -/
@[reducible] def insV (op a b c n : Int) : Value := .agg #[.int .i64 op, .int .i64 a, .int .i64 b, .int .i64 c, .int .i64 n]
theorem eq_ins (op a b c n op' a' b' c' n' : Int) (d : Nat) (hd : 5 ≤ d) (w : World) : (Op.equalIn (d + 1) 43 (insV op a b c n) (insV op' a' b' c' n')).run Tryz.prog w = .ok (decide (op = op' ∧ a = a' ∧ b = b' ∧ c = c' ∧ n = n')) w := by
  obtain ⟨d, rfl⟩ : ∃ e, d = e + 5 := ⟨d - 5, by omega⟩
  have u2 := Tryz.underlying2
  have u3 := Tryz.underlying3
  have a2 := Tryz.isAgg2
  have z2 := Tryz.sizeOf2
  have a3 := Tryz.isAgg3
  have z3 := Tryz.sizeOf3
  have hS : Tryz.prog.underlying 43 = some (.struct (Tryz.prog.fieldsOf 43)) := by kernel_rfl
  have hp : Tryz.prog.stoodInHeld 43 = false := by kernel_rfl
  rw [run_equalIn_agg w (d + 5) 43 _ _ hS hp]
  simp only [Program.fieldsOf, Tryz.underlying43]
  go_simp
  by_cases h0 : op = op' <;> by_cases h1 : a = a' <;> by_cases h2 : b = b' <;> by_cases h3 : c = c' <;> by_cases h4 : n = n' <;> simp [h0, h1, h2, h3, h4]

/-- A line by value. -/
@[reducible] def lineV (x : Ln) : Value := .agg #[.string (strS x.label), .int .i64 x.op, .int .i64 x.a, .int .i64 x.b, .int .i64 x.c, .int .i64 x.n, .string (strS x.target)]
theorem str_eq2 (a b : Str) : ((strS a).toList == (strS b).toList) = decide (a = b) := by rw [str_eq, bytesS_str]
theorem eq_line (x y : Ln) (w : World) : (Op.equalIn 10000 59 (lineV x) (lineV y)).run Tryz.prog w = .ok (decide (x = y)) w := by
  have u9 := Tryz.underlying9
  have a9 := Tryz.isAgg9
  have z9 := Tryz.sizeOf9
  have uI := Tryz.underlying43
  have aI := Tryz.isAgg43
  have zI := Tryz.sizeOf43
  have hS : Tryz.prog.underlying 59 = some (.struct (Tryz.prog.fieldsOf 59)) := by kernel_rfl
  have hp : Tryz.prog.stoodInHeld 59 = false := by kernel_rfl
  obtain ⟨l, op, a, b, c, n, t⟩ := x
  obtain ⟨l', op', a', b', c', n', t'⟩ := y
  have h1 := str_eq2 l l'
  have h2 := str_eq2 t t'
  rw [show (10000 : Nat) = 9999 + 1 from rfl, run_equalIn_agg w 9999 59 _ _ hS hp]
  simp only [Program.fieldsOf, Tryz.underlying59]
  go_simp
  by_cases e0 : l = l'
  case neg => simp [e0]
  by_cases e1 : op = op'
  case neg => simp [e0, e1]
  by_cases e2 : a = a'
  case neg => simp [e0, e1, e2]
  by_cases e3 : b = b'
  case neg => simp [e0, e1, e2, e3]
  by_cases e4 : c = c'
  case neg => simp [e0, e1, e2, e3, e4]
  by_cases e5 : n = n'
  case neg => simp [e0, e1, e2, e3, e4, e5]
  by_cases e6 : t = t' <;> simp [e0, e1, e2, e3, e4, e5, e6]
theorem run_eql_line (x y : Ln) (w : World) : (binOp .eql 59 (lineV x) (lineV y)).run Tryz.prog w = .ok (.bool (decide (x = y))) w := by
  rw [run_eql_struct, eq_line]
  rfl
theorem run_eql_ins (op a b c n op' a' b' c' n' : Int) (w : World) : (binOp .eql 43 (insV op a b c n) (insV op' a' b' c' n')).run Tryz.prog w = .ok (.bool (decide (op = op' ∧ a = a' ∧ b = b' ∧ c = c' ∧ n = n'))) w := by
  rw [run_eql_struct, show (10000 : Nat) = 9999 + 1 from rfl, eq_ins _ _ _ _ _ _ _ _ _ _ 9999 (by omega)]
  rfl
theorem guard_line : Tryz.prog.eqGuardType Tryz.prog.depth 59 = false := by kernel_rfl
theorem guard_ins : Tryz.prog.eqGuardType Tryz.prog.depth 43 = false := by kernel_rfl

end Go.Proofs.YtlhnbihpefgcbaaGreatDoor
