/-
  What errors.As comes to at an error at a place.
  Conditions: the library's type of errors lies as its text lays it.
-/
import Derived.Test.YtlhnbihpefgcbaaGreatDoorAsmBld
import Derived.Test.YtlhnbihpefgcbaaGreatDoorCodes
import Derived.WalkKit
import Derived.ProofKit
import Derived.LaidEql
import Derived.Stop.Asserts
import Derived.RowKitTokens
namespace Go.Proofs.YtlhnbihpefgcbaaGreatDoor
open Go.RowKit Go.Extern.Stop Go.Stop Go.Extern

/-- A type's handle. -/
@[reducible] def hnd (t : Nat) : Value := .pointer (some ⟨10, t, none⟩)
@[reducible] def rty (t : Nat) : Value := .iface 107 (.agg #[hnd t])
theorem valueOfP (t : Addr) (w : World) : (ReflectliteValue.unpack (.iface 65 (.pointer (some t)))).run Tryz.prog w
    = .ok (.agg #[hnd 65, .pointer (some ⟨w.heap.size, 0, none⟩), .int .u64 150]) (w.alloc (.cells #[.pointer (some t)] 65)) := by kernel_rfl
theorem typeP (a : Addr) (w : World) : (ReflectliteValue.methodAny (ReflectliteValue.valueError "reflectlite.Value.Type" 0) (fun t _ _ _ => ReflectliteType.toType t) #[.agg #[hnd 65, .pointer (some a), .int .u64 150]]).run Tryz.prog w
    = .ok (rty 65) w := by kernel_rfl
theorem kindP (w : World) : ((ReflectliteType.abiMethod fun t => (fun a : Nat => Value.int IntKind.u8 (a : Int)) <$> Rtype.kind t) #[hnd 65]).run Tryz.prog w = .ok (.int .u8 22) w := by kernel_rfl
theorem kindQ (w : World) : ((ReflectliteType.abiMethod fun t => (fun a : Nat => Value.int IntKind.u8 (a : Int)) <$> Rtype.kind t) #[hnd 63]).run Tryz.prog w = .ok (.int .u8 22) w := by kernel_rfl
theorem rl_method (z : Sem Value) (f : TypeId → Addr → Nat → Nat → Sem Value) (v : Value) :
    ReflectliteValue.method z f #[v] = (do match ← ReflectliteValue.parts v with | none => z | some (t, a, fl) => f t a fl (fl % 32)) := rfl
theorem partsP (a : Addr) (w : World) : (ReflectliteValue.parts (.agg #[hnd 65, .pointer (some a), .int .u64 150])).run Tryz.prog w = .ok (some (65, a, 150)) w := by kernel_rfl
theorem isNilP (a p : Addr) (W : World) (ha : W.cell? a = some (.pointer (some p))) :
    (ReflectliteValue.method (ReflectliteValue.valueError "reflectlite.Value.IsNil" 0) ReflectliteValue.isNil #[.agg #[hnd 65, .pointer (some a), .int .u64 150]]).run Tryz.prog W = .ok (.bool false) W := by
  rw [rl_method]
  simp only [Sem.run_bind, partsP, Result.andThen]
  simp [ReflectliteValue.isNil, loadVar, isAgg, underlying, Tryz.underlying65, ha, Result.andThen]
theorem elemP (w : World) : (ReflectliteType.method ReflectliteType.elem #[.agg #[hnd 65]]).run Tryz.prog w = .ok (rty 63) w := by kernel_rfl
theorem implQ (w : World) : (ReflectliteType.relation "Implements" ReflectliteType.implements_ #[.agg #[hnd 63], rty 28]).run Tryz.prog w = .ok (.bool true) w := by kernel_rfl
theorem typeOfQ (v : Value) (w : World) : (ReflectliteType.typeOf #[.iface 63 v]).run Tryz.prog w = .ok (rty 63) w := by kernel_rfl
theorem assignQ (w : World) : (ReflectliteType.relation "AssignableTo" ReflectliteType.assignableTo #[.agg #[hnd 63], rty 63]).run Tryz.prog w = .ok (.bool true) w := by kernel_rfl
theorem valueOfQ (e : Addr) (w : World) : (ReflectliteValue.unpack (.iface 63 (.pointer (some e)))).run Tryz.prog w
    = .ok (.agg #[hnd 63, .pointer (some ⟨w.heap.size, 0, none⟩), .int .u64 150]) (w.alloc (.cells #[.pointer (some e)] 63)) := by kernel_rfl
theorem elemOfP (w : World) : (Rtype.elem? 65).run Tryz.prog w = .ok (some 63) w := by kernel_rfl
theorem mkQ (p : Addr) (w : World) : (ReflectliteValue.mk 63 p ReflectliteValue.flagAddr).run Tryz.prog w = .ok (.agg #[hnd 63, .pointer (some p), .int .u64 406]) w := by kernel_rfl
theorem elemVP (a p : Addr) (W : World) (ha : W.cell? a = some (.pointer (some p))) :
    (ReflectliteValue.method (ReflectliteValue.valueError "reflectlite.Value.Elem" 0) ReflectliteValue.elem #[.agg #[hnd 65, .pointer (some a), .int .u64 150]]).run Tryz.prog W
      = .ok (.agg #[hnd 63, .pointer (some p), .int .u64 406]) W := by
  rw [rl_method]
  simp only [Sem.run_bind, partsP, Result.andThen]
  simp [ReflectliteValue.elem, loadVar, isAgg, underlying, Tryz.underlying65, ha, Result.andThen, elemOfP, mkQ]
theorem partsQa (a : Addr) (w : World) : (ReflectliteValue.parts (.agg #[hnd 63, .pointer (some a), .int .u64 406])).run Tryz.prog w = .ok (some (63, a, 406)) w := by kernel_rfl
theorem partsQ (a : Addr) (w : World) : (ReflectliteValue.parts (.agg #[hnd 63, .pointer (some a), .int .u64 150])).run Tryz.prog w = .ok (some (63, a, 150)) w := by kernel_rfl
theorem directQ (w : World) : (Rtype.directlyAssignable 63 63).run Tryz.prog w = .ok true w := by kernel_rfl
theorem setQ (ta b e : Addr) (old : Value) (W : World) (hb : W.cell? b = some (.pointer (some e))) (ht : W.cell? ta = some old) (hf : W.frozen? ta = false) :
    (ReflectliteValue.set #[.agg #[hnd 63, .pointer (some ta), .int .u64 406], .agg #[hnd 63, .pointer (some b), .int .u64 150]]).run Tryz.prog W
      = .ok (.tuple #[]) (W.setCell ta (.pointer (some e))) := by
  rw [show ReflectliteValue.set #[.agg #[hnd 63, .pointer (some ta), .int .u64 406], .agg #[hnd 63, .pointer (some b), .int .u64 150]] = bind (ReflectliteValue.parts (.agg #[hnd 63, .pointer (some ta), .int .u64 406])) _ from rfl]
  have e1 : ∀ (x y : Value) (h1 : (#[x, y] : Array Value).size = 2) (h2 : 1 < 2), Array.getLit #[x, y] 1 h1 h2 = y := fun _ _ _ _ => rfl
  simp only [Sem.run_bind, partsQa, e1, partsQ, Result.andThen]
  simp [ReflectliteValue.flagAddr, loadVar, isAgg, underlying, Tryz.underlying63, hb, Result.andThen, directQ, storeVar, Value.cells, storeCells, Addr.add]
  rw [run_store Tryz.prog W ta _ _ (by rfl)]
  simp [ht, hf]

/-- errors.As at no error. -/
theorem as_nil (t : Value) (w : World) : Calls Tryz.prog 24 #[.nilIface, t] w fun e w' => e = .returned (.bool false) ∧ w' = w := by
  go_enter Tryz.func24, Tryz.ntmps24
  go_wp2_with fail
  go_ret
  exact ⟨rfl, rfl⟩

set_option maxRecDepth 100000 in
set_option maxHeartbeats 4000000 in
theorem as_hit (e t : Addr) (old : Value) (w : World) (hg : w.cell? ⟨0, 0, none⟩ = some (rty 28)) (ht0 : w.cell? t = some old) (hf0 : w.frozen? t = false) :
    Calls Tryz.prog 24 #[.iface 63 (.pointer (some e)), .iface 65 (.pointer (some t))] w fun ev w' => ev = .returned (.bool true) ∧ ∃ w1, Kept (fun _ => False) w w1 ∧ w' = w1.setCell t (.pointer (some e)) := by
  have h6 := @run_callFunc_extern Tryz.prog 37 _ (fun args => ReflectliteValue.unpack (args.getD 0 (.tuple #[]))) Tryz.func37 (by kernel_rfl) (by kernel_rfl) (by kernel_rfl) (by kernel_rfl)
  have h7 := @run_callFunc_extern Tryz.prog 38 _ (ReflectliteValue.methodAny (ReflectliteValue.valueError "reflectlite.Value.Type" 0) (fun t _ _ _ => ReflectliteType.toType t)) Tryz.func38 (by kernel_rfl) (by kernel_rfl) (by kernel_rfl) (by kernel_rfl)
  have h8 := @run_callFunc_extern Tryz.prog 39 _ (ReflectliteValue.method (ReflectliteValue.valueError "reflectlite.Value.IsNil" 0) ReflectliteValue.isNil) Tryz.func39 (by kernel_rfl) (by kernel_rfl) (by kernel_rfl) (by kernel_rfl)
  have h27 := @run_callFunc_extern Tryz.prog 142 _ (ReflectliteType.abiMethod fun t => do pure (.int .u8 (← Rtype.kind t))) Tryz.func142 (by kernel_rfl) (by kernel_rfl) (by kernel_rfl) (by kernel_rfl)
  have h37 := @run_callFunc_extern Tryz.prog 154 _ (ReflectliteType.method ReflectliteType.elem) Tryz.func154 (by kernel_rfl) (by kernel_rfl) (by kernel_rfl) (by kernel_rfl)
  have h38 := @run_callFunc_extern Tryz.prog 155 _ (ReflectliteType.relation "Implements" ReflectliteType.implements_) Tryz.func155 (by kernel_rfl) (by kernel_rfl) (by kernel_rfl) (by kernel_rfl)
  have h10 := @run_callFunc_extern Tryz.prog 41 _ ReflectliteType.typeOf Tryz.func41 (by kernel_rfl) (by kernel_rfl) (by kernel_rfl) (by kernel_rfl)
  have h35 := @run_callFunc_extern Tryz.prog 152 _ (ReflectliteType.relation "AssignableTo" ReflectliteType.assignableTo) Tryz.func152 (by kernel_rfl) (by kernel_rfl) (by kernel_rfl) (by kernel_rfl)
  have h11 := @run_callFunc_extern Tryz.prog 51 _ (ReflectliteValue.method (ReflectliteValue.valueError "reflectlite.Value.Elem" 0) ReflectliteValue.elem) Tryz.func51 (by kernel_rfl) (by kernel_rfl) (by kernel_rfl) (by kernel_rfl)
  have h12 := @run_callFunc_extern Tryz.prog 52 _ ReflectliteValue.set Tryz.func52 (by kernel_rfl) (by kernel_rfl) (by kernel_rfl) (by kernel_rfl)
  have f6 := valueOfP
  have f7 := typeP
  have k27 := kindP
  have k25 := kindQ
  have e27 := elemP
  have i25 := implQ
  have tO := typeOfQ
  have a25 := assignQ
  have v25 := valueOfQ
  have hA : ∀ X : World, X.alloc (.cells #[hnd 65, .pointer (some ⟨w.heap.size, 0, none⟩), .int .u64 150] 89) = X.alloc (.cells #[.pointer (some ⟨10, 65, none⟩), .pointer (some ⟨w.heap.size, 0, none⟩), .int .u64 150] 89) := fun _ => rfl
  obtain ⟨W1, hW1⟩ : ∃ W, w.alloc (.cells #[.pointer (some t)] 65) = W := ⟨_, rfl⟩
  obtain ⟨W2, hW2⟩ : ∃ W, W1.alloc (.cells #[.pointer (some ⟨10, 65, none⟩), .pointer (some ⟨w.heap.size, 0, none⟩), .int .u64 150] 89) = W := ⟨_, rfl⟩
  obtain ⟨W3, hW3⟩ : ∃ W, W2.alloc (.cells #[.pointer (some ⟨10, 65, none⟩), .pointer (some ⟨w.heap.size, 0, none⟩), .int .u64 150] 89) = W := ⟨_, rfl⟩
  obtain ⟨W4, hW4⟩ : ∃ W, W3.alloc (.cells #[.pointer (some e)] 63) = W := ⟨_, rfl⟩
  have s1 : W1.heap.size = w.heap.size + 1 := by rw [← hW1]; simp
  have s2 : W2.heap.size = w.heap.size + 2 := by rw [← hW2]; simp [s1]
  have s3 : W3.heap.size = w.heap.size + 3 := by rw [← hW3]; simp [s2]
  have k1 : Kept (fun _ => False) w W1 := by rw [← hW1]; exact (Kept.refl _ w).alloc _
  have k2 : Kept (fun _ => False) W1 W2 := by rw [← hW2]; exact (Kept.refl _ W1).alloc _
  have k3 : Kept (fun _ => False) W2 W3 := by rw [← hW3]; exact (Kept.refl _ W2).alloc _
  have k4 : Kept (fun _ => False) W3 W4 := by rw [← hW4]; exact (Kept.refl _ W3).alloc _
  have hlt : ∀ (p : Addr) v, w.cell? p = some v → p.block < w.heap.size := fun p v h => by
    rcases Nat.lt_or_ge p.block w.heap.size with h1 | h1
    · exact h1
    · simp [World.cell?, Array.getElem?_eq_none h1] at h
  have b1 : W1.heap[w.heap.size]? = some (.cells #[.pointer (some t)] 65 (0, 0)) := by rw [← hW1]; exact heap_new1 w _
  have b4 : W4.heap[w.heap.size + 3]? = some (.cells #[.pointer (some e)] 63 (0, 0)) := by rw [← hW4, ← s3]; exact heap_new1 W3 _
  have n8 := isNilP ⟨w.heap.size, 0, none⟩ t W2 (by rw [cell_at W2 _ 0 _ _ (k2.at_ b1 (fun f => f))]; rfl)
  have el := elemVP ⟨w.heap.size, 0, none⟩ t W3 (by rw [cell_at W3 _ 0 _ _ (k3.at_ (k2.at_ b1 (fun f => f)) (fun f => f))]; rfl)
  have k24 := ((k1.trans k2 (fun _ _ f => f)).trans k3 (fun _ _ f => f)).trans k4 (fun _ _ f => f)
  have hg2 : W2.cell? ⟨0, 0, none⟩ = some (rty 28) := ((k1.trans k2 (fun _ _ f => f)).cell (hlt _ _ hg) (fun f => f)).trans hg
  have st := setQ t ⟨w.heap.size + 3, 0, none⟩ e old W4 (by rw [cell_at W4 _ 0 _ _ b4]; rfl) ((k24.cell (hlt _ _ ht0) (fun f => f)).trans ht0) ((k24.frozen (hlt _ _ ht0) (fun f => f)).trans hf0)
  have HF : Hid (∃ w1, Kept (fun _ => False) w w1 ∧ W4.setCell t (.pointer (some e)) = w1.setCell t (.pointer (some e))) := Lib.hid ⟨W4, k24, rfl⟩
  have b2 : W2.heap[w.heap.size + 1]? = some (.cells #[.pointer (some ⟨10, 65, none⟩), .pointer (some ⟨w.heap.size, 0, none⟩), .int .u64 150] 89 (0, 0)) := by rw [← hW2, ← s1]; exact heap_new1 W1 _
  have b3 : W3.heap[w.heap.size + 2]? = some (.cells #[.pointer (some ⟨10, 65, none⟩), .pointer (some ⟨w.heap.size, 0, none⟩), .int .u64 150] 89 (0, 0)) := by rw [← hW3, ← s2]; exact heap_new1 W2 _
  have v20 : W2.cell? ⟨w.heap.size + 1, 0, none⟩ = some (.pointer (some ⟨10, 65, none⟩)) := by rw [cell_at W2 _ 0 _ _ b2]; rfl
  have v21 : W2.cell? ⟨w.heap.size + 1, 1, none⟩ = some (.pointer (some ⟨w.heap.size, 0, none⟩)) := by rw [cell_at W2 _ 1 _ _ b2]; rfl
  have v22 : W2.cell? ⟨w.heap.size + 1, 2, none⟩ = some (.int .u64 150) := by rw [cell_at W2 _ 2 _ _ b2]; rfl
  have v30 : W3.cell? ⟨w.heap.size + 2, 0, none⟩ = some (.pointer (some ⟨10, 65, none⟩)) := by rw [cell_at W3 _ 0 _ _ b3]; rfl
  have v31 : W3.cell? ⟨w.heap.size + 2, 1, none⟩ = some (.pointer (some ⟨w.heap.size, 0, none⟩)) := by rw [cell_at W3 _ 1 _ _ b3]; rfl
  have v32 : W3.cell? ⟨w.heap.size + 2, 2, none⟩ = some (.int .u64 150) := by rw [cell_at W3 _ 2 _ _ b3]; rfl
  clear b2 b3 k1 k2 k3 k4 b1 b4 k24 ht0 hf0 hg hlt hA
  go_enter Tryz.func24, Tryz.ntmps24
  go_wp2
  refine wp_loop_rounds 1 ?_
  rw [rounds_succ]
  go_wp2
  go_ret
  exact ⟨rfl, HF.out⟩

end Go.Proofs.YtlhnbihpefgcbaaGreatDoor
