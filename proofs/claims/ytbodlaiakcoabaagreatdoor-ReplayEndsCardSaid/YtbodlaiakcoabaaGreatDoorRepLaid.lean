/-
  What errors.As, errors.Is and the statements' own Is come to at an error at a place.
  Conditions: the library's type of errors lies as its text lays it.
  From what the rows of layer 11 list to what the walks read: the library's type of errors; a world that meets it.
  Conditions: none.
-/
import Derived.Test.YtbodlaiakcoabaaGreatDoorModMem
import Derived.Test.YtbodlaiakcoabaaGreatDoorEql
import Derived.WalkKit
import Derived.ProofKit
import Derived.LaidEql
import Derived.Stop.Asserts
import Derived.RowKitTokens
import Derived.Deep.RegionWith
import Derived.Test.YtbodlaiakcoabaaGreatDoorCards
import Derived.Test.YtbodlaiakcoabaaGreatDoorTie
import Derived.Lay
import Derived.LaidOnce
import Derived.SevenTiedAt
import Derived.OpenShut
import Derived.LaidHandle
section
namespace Go.Proofs.YtbodlaiakcoabaaGreatDoor
namespace Er
open Go.RowKit Go.Extern.Stop Go.Stop Go.Extern

@[reducible] def spotV (g : Nat) : Value := .iface 63 (.pointer (some ⟨g, 0, none⟩))
@[reducible] def spotC (p : Nat × Nat) : Array Value := #[.int .i64 p.2, .iface 48 (.int .i64 p.1)]
def SpotAt (w : World) (g : Nat) (p : Nat × Nat) : Prop := w.heap[g]? = some (.cells (spotC p) 68 (0, 0))
theorem SpotAt.kept {w w' : World} {g : Nat} {p : Nat × Nat} {S : Nat → Prop} (h : SpotAt w g p) (hk : Kept S w w') (hg : ¬ S g) : SpotAt w' g p := (hk.block g (Array.getElem?_eq_some_iff.1 h).1 hg).trans h
theorem set_cellB {w : World} {b o : Nat} {cur : Array Value} {t : TypeId} {v : Value} (h : w.heap[b]? = some (.cells cur t (0, 0))) : (w.setCell ⟨b, o, none⟩ v).heap[b]? = some (.cells (cur.setIfInBounds o v) t (0, 0)) := by
  simp [World.setCell, h, Array.getElem?_modify]
@[reducible] def set7 (w : World) (g : Nat) (x0 x1 x2 x3 x4 x5 x6 : Value) : World := ((((((w.setCell ⟨g, 0, none⟩ x0).setCell ⟨g, 1, none⟩ x1).setCell ⟨g, 2, none⟩ x2).setCell ⟨g, 3, none⟩ x3).setCell ⟨g, 4, none⟩ x4).setCell ⟨g, 5, none⟩ x5).setCell ⟨g, 6, none⟩ x6

/-- A type's handle. -/
@[reducible] def hnd (t : Nat) : Value := .pointer (some ⟨1, t, none⟩)
@[reducible] def rty (t : Nat) : Value := .iface 101 (.agg #[hnd t])
theorem valueOfP (t : Addr) (w : World) : (ReflectliteValue.unpack (.iface 65 (.pointer (some t)))).run Tryz.prog w
    = .ok (.agg #[hnd 65, .pointer (some ⟨w.heap.size, 0, none⟩), .int .u64 150]) (w.alloc (.cells #[.pointer (some t)] 65)) := by kernel_rfl
theorem typeP (a : Addr) (w : World) : (ReflectliteValue.methodAny (ReflectliteValue.valueError "reflectlite.Value.Type" 0) (fun t _ _ _ => ReflectliteType.toType t) #[.agg #[hnd 65, .pointer (some a), .int .u64 150]]).run Tryz.prog w
    = .ok (rty 65) w := by kernel_rfl
theorem kindP (w : World) : ((ReflectliteType.abiMethod fun t => (fun a : Nat => Value.int IntKind.u8 (a : Int)) <$> Rtype.kind t) #[hnd 65]).run Tryz.prog w = .ok (.int .u8 22) w := by kernel_rfl
theorem kindQ (w : World) : ((ReflectliteType.abiMethod fun t => (fun a : Nat => Value.int IntKind.u8 (a : Int)) <$> Rtype.kind t) #[hnd 63]).run Tryz.prog w = .ok (.int .u8 22) w := by kernel_rfl
theorem rl_method (z : Sem Value) (f : TypeId → Addr → Nat → Nat → Sem Value) (v : Value) :
    ReflectliteValue.method z f #[v] = (do match ← ReflectliteValue.parts v with | none => z | some (t, a, fl) => f t a fl (fl % 32)) := rfl
theorem partsP (a : Addr) (w : World) : (ReflectliteValue.parts (.agg #[hnd 65, .pointer (some a), .int .u64 150])).run Tryz.prog w = .ok (some (65, a, 150)) w := by kernel_rfl
theorem isNilP (a p : Addr) (W : World) (ha : W.cell? a = some (.pointer (some p))) :
    (ReflectliteValue.method (ReflectliteValue.valueError "reflectlite.Value.IsNil" 0) ReflectliteValue.isNil #[.agg #[hnd 65, .pointer (some a), .int .u64 150]]).run Tryz.prog W = .ok (.bool false) W := by
  rw [rl_method]
  simp only [Sem.run_bind, partsP, Result.andThen]
  simp [ReflectliteValue.isNil, loadVar, isAgg, underlying, Tryz.underlying65, ha, Result.andThen]
theorem elemP (w : World) : (ReflectliteType.method ReflectliteType.elem #[.agg #[hnd 65]]).run Tryz.prog w = .ok (rty 63) w := by kernel_rfl
theorem implQ (w : World) : (ReflectliteType.relation "Implements" ReflectliteType.implements_ #[.agg #[hnd 63], rty 32]).run Tryz.prog w = .ok (.bool true) w := by kernel_rfl
theorem typeOfQ (v : Value) (w : World) : (ReflectliteType.typeOf #[.iface 63 v]).run Tryz.prog w = .ok (rty 63) w := by kernel_rfl
theorem assignQ (w : World) : (ReflectliteType.relation "AssignableTo" ReflectliteType.assignableTo #[.agg #[hnd 63], rty 63]).run Tryz.prog w = .ok (.bool true) w := by kernel_rfl
theorem valueOfQ (e : Addr) (w : World) : (ReflectliteValue.unpack (.iface 63 (.pointer (some e)))).run Tryz.prog w
    = .ok (.agg #[hnd 63, .pointer (some ⟨w.heap.size, 0, none⟩), .int .u64 150]) (w.alloc (.cells #[.pointer (some e)] 63)) := by kernel_rfl
theorem elemOfP (w : World) : (Rtype.elem? 65).run Tryz.prog w = .ok (some 63) w := by kernel_rfl
theorem mkQ (p : Addr) (w : World) : (ReflectliteValue.mk 63 p ReflectliteValue.flagAddr).run Tryz.prog w = .ok (.agg #[hnd 63, .pointer (some p), .int .u64 406]) w := by kernel_rfl
theorem elemVP (a p : Addr) (W : World) (ha : W.cell? a = some (.pointer (some p))) :
    (ReflectliteValue.method (ReflectliteValue.valueError "reflectlite.Value.Elem" 0) ReflectliteValue.elem #[.agg #[hnd 65, .pointer (some a), .int .u64 150]]).run Tryz.prog W
      = .ok (.agg #[hnd 63, .pointer (some p), .int .u64 406]) W := by
  rw [rl_method]
  simp only [Sem.run_bind, partsP, Result.andThen]
  simp [ReflectliteValue.elem, loadVar, isAgg, underlying, Tryz.underlying65, ha, Result.andThen, elemOfP, mkQ]
theorem partsQa (a : Addr) (w : World) : (ReflectliteValue.parts (.agg #[hnd 63, .pointer (some a), .int .u64 406])).run Tryz.prog w = .ok (some (63, a, 406)) w := by kernel_rfl
theorem partsQ (a : Addr) (w : World) : (ReflectliteValue.parts (.agg #[hnd 63, .pointer (some a), .int .u64 150])).run Tryz.prog w = .ok (some (63, a, 150)) w := by kernel_rfl
theorem directQ (w : World) : (Rtype.directlyAssignable 63 63).run Tryz.prog w = .ok true w := by kernel_rfl
theorem setQ (ta b e : Addr) (old : Value) (W : World) (hb : W.cell? b = some (.pointer (some e))) (ht : W.cell? ta = some old) (hf : W.frozen? ta = false) :
    (ReflectliteValue.set #[.agg #[hnd 63, .pointer (some ta), .int .u64 406], .agg #[hnd 63, .pointer (some b), .int .u64 150]]).run Tryz.prog W
      = .ok (.tuple #[]) (W.setCell ta (.pointer (some e))) := by
  rw [show ReflectliteValue.set #[.agg #[hnd 63, .pointer (some ta), .int .u64 406], .agg #[hnd 63, .pointer (some b), .int .u64 150]] = bind (ReflectliteValue.parts (.agg #[hnd 63, .pointer (some ta), .int .u64 406])) _ from rfl]
  have e1 : ∀ (x y : Value) (h1 : (#[x, y] : Array Value).size = 2) (h2 : 1 < 2), Array.getLit #[x, y] 1 h1 h2 = y := fun _ _ _ _ => rfl
  simp only [Sem.run_bind, partsQa, e1, partsQ, Result.andThen]
  simp [ReflectliteValue.flagAddr, loadVar, isAgg, underlying, Tryz.underlying63, hb, Result.andThen, directQ, storeVar, Value.cells, storeCells, Addr.add]
  rw [run_store Tryz.prog W ta _ _ (by rfl)]
  simp [ht, hf]

/-- errors.As at no error. -/
theorem as_nil (t : Value) (w : World) : Calls Tryz.prog 19 #[.nilIface, t] w fun e w' => e = .returned (.bool false) ∧ w' = w := by
  go_enter Tryz.func19, Tryz.ntmps19
  go_wp2_with fail
  go_ret
  exact ⟨rfl, rfl⟩

set_option maxRecDepth 100000 in
set_option maxHeartbeats 4000000 in
theorem as_hit (e t : Addr) (old : Value) (w : World) (hg : w.cell? ⟨0, 0, none⟩ = some (rty 32)) (ht0 : w.cell? t = some old) (hf0 : w.frozen? t = false) :
    Calls Tryz.prog 19 #[.iface 63 (.pointer (some e)), .iface 65 (.pointer (some t))] w fun ev w' => ev = .returned (.bool true) ∧ ∃ w1, Kept (fun _ => False) w w1 ∧ w' = w1.setCell t (.pointer (some e)) := by
  have h6 := @run_callFunc_extern Tryz.prog 24 _ (fun args => ReflectliteValue.unpack (args.getD 0 (.tuple #[]))) Tryz.func24 (by kernel_rfl) (by kernel_rfl) (by kernel_rfl) (by kernel_rfl)
  have h7 := @run_callFunc_extern Tryz.prog 25 _ (ReflectliteValue.methodAny (ReflectliteValue.valueError "reflectlite.Value.Type" 0) (fun t _ _ _ => ReflectliteType.toType t)) Tryz.func25 (by kernel_rfl) (by kernel_rfl) (by kernel_rfl) (by kernel_rfl)
  have h8 := @run_callFunc_extern Tryz.prog 26 _ (ReflectliteValue.method (ReflectliteValue.valueError "reflectlite.Value.IsNil" 0) ReflectliteValue.isNil) Tryz.func26 (by kernel_rfl) (by kernel_rfl) (by kernel_rfl) (by kernel_rfl)
  have h27 := @run_callFunc_extern Tryz.prog 123 _ (ReflectliteType.abiMethod fun t => do pure (.int .u8 (← Rtype.kind t))) Tryz.func123 (by kernel_rfl) (by kernel_rfl) (by kernel_rfl) (by kernel_rfl)
  have h37 := @run_callFunc_extern Tryz.prog 135 _ (ReflectliteType.method ReflectliteType.elem) Tryz.func135 (by kernel_rfl) (by kernel_rfl) (by kernel_rfl) (by kernel_rfl)
  have h38 := @run_callFunc_extern Tryz.prog 136 _ (ReflectliteType.relation "Implements" ReflectliteType.implements_) Tryz.func136 (by kernel_rfl) (by kernel_rfl) (by kernel_rfl) (by kernel_rfl)
  have h10 := @run_callFunc_extern Tryz.prog 28 _ ReflectliteType.typeOf Tryz.func28 (by kernel_rfl) (by kernel_rfl) (by kernel_rfl) (by kernel_rfl)
  have h35 := @run_callFunc_extern Tryz.prog 133 _ (ReflectliteType.relation "AssignableTo" ReflectliteType.assignableTo) Tryz.func133 (by kernel_rfl) (by kernel_rfl) (by kernel_rfl) (by kernel_rfl)
  have h11 := @run_callFunc_extern Tryz.prog 39 _ (ReflectliteValue.method (ReflectliteValue.valueError "reflectlite.Value.Elem" 0) ReflectliteValue.elem) Tryz.func39 (by kernel_rfl) (by kernel_rfl) (by kernel_rfl) (by kernel_rfl)
  have h12 := @run_callFunc_extern Tryz.prog 40 _ ReflectliteValue.set Tryz.func40 (by kernel_rfl) (by kernel_rfl) (by kernel_rfl) (by kernel_rfl)
  have f6 := valueOfP
  have f7 := typeP
  have k27 := kindP
  have k25 := kindQ
  have e27 := elemP
  have i25 := implQ
  have tO := typeOfQ
  have a25 := assignQ
  have v25 := valueOfQ
  have hA : ∀ X : World, X.alloc (.cells #[hnd 65, .pointer (some ⟨w.heap.size, 0, none⟩), .int .u64 150] 82) = X.alloc (.cells #[.pointer (some ⟨1, 65, none⟩), .pointer (some ⟨w.heap.size, 0, none⟩), .int .u64 150] 82) := fun _ => rfl
  obtain ⟨W1, hW1⟩ : ∃ W, w.alloc (.cells #[.pointer (some t)] 65) = W := ⟨_, rfl⟩
  obtain ⟨W2, hW2⟩ : ∃ W, W1.alloc (.cells #[.pointer (some ⟨1, 65, none⟩), .pointer (some ⟨w.heap.size, 0, none⟩), .int .u64 150] 82) = W := ⟨_, rfl⟩
  obtain ⟨W3, hW3⟩ : ∃ W, W2.alloc (.cells #[.pointer (some ⟨1, 65, none⟩), .pointer (some ⟨w.heap.size, 0, none⟩), .int .u64 150] 82) = W := ⟨_, rfl⟩
  obtain ⟨W4, hW4⟩ : ∃ W, W3.alloc (.cells #[.pointer (some e)] 63) = W := ⟨_, rfl⟩
  have s1 : W1.heap.size = w.heap.size + 1 := by rw [← hW1]; simp
  have s2 : W2.heap.size = w.heap.size + 2 := by rw [← hW2]; simp [s1]
  have s3 : W3.heap.size = w.heap.size + 3 := by rw [← hW3]; simp [s2]
  have k1 : Kept (fun _ => False) w W1 := by rw [← hW1]; exact (Kept.refl _ w).alloc _
  have k2 : Kept (fun _ => False) W1 W2 := by rw [← hW2]; exact (Kept.refl _ W1).alloc _
  have k3 : Kept (fun _ => False) W2 W3 := by rw [← hW3]; exact (Kept.refl _ W2).alloc _
  have k4 : Kept (fun _ => False) W3 W4 := by rw [← hW4]; exact (Kept.refl _ W3).alloc _
  have hlt : ∀ (p : Addr) v, w.cell? p = some v → p.block < w.heap.size := fun p v h => by
    rcases Nat.lt_or_ge p.block w.heap.size with h1 | h1
    · exact h1
    · simp [World.cell?, Array.getElem?_eq_none h1] at h
  have b1 : W1.heap[w.heap.size]? = some (.cells #[.pointer (some t)] 65 (0, 0)) := by rw [← hW1]; exact heap_new1 w _
  have b4 : W4.heap[w.heap.size + 3]? = some (.cells #[.pointer (some e)] 63 (0, 0)) := by rw [← hW4, ← s3]; exact heap_new1 W3 _
  have n8 := isNilP ⟨w.heap.size, 0, none⟩ t W2 (by rw [cell_at W2 _ 0 _ _ (k2.at_ b1 (fun f => f))]; rfl)
  have el := elemVP ⟨w.heap.size, 0, none⟩ t W3 (by rw [cell_at W3 _ 0 _ _ (k3.at_ (k2.at_ b1 (fun f => f)) (fun f => f))]; rfl)
  have k24 := ((k1.trans k2 (fun _ _ f => f)).trans k3 (fun _ _ f => f)).trans k4 (fun _ _ f => f)
  have hg2 : W2.cell? ⟨0, 0, none⟩ = some (rty 32) := ((k1.trans k2 (fun _ _ f => f)).cell (hlt _ _ hg) (fun f => f)).trans hg
  have st := setQ t ⟨w.heap.size + 3, 0, none⟩ e old W4 (by rw [cell_at W4 _ 0 _ _ b4]; rfl) ((k24.cell (hlt _ _ ht0) (fun f => f)).trans ht0) ((k24.frozen (hlt _ _ ht0) (fun f => f)).trans hf0)
  have HF : Hid (∃ w1, Kept (fun _ => False) w w1 ∧ W4.setCell t (.pointer (some e)) = w1.setCell t (.pointer (some e))) := Lib.hid ⟨W4, k24, rfl⟩
  have b2 : W2.heap[w.heap.size + 1]? = some (.cells #[.pointer (some ⟨1, 65, none⟩), .pointer (some ⟨w.heap.size, 0, none⟩), .int .u64 150] 82 (0, 0)) := by rw [← hW2, ← s1]; exact heap_new1 W1 _
  have b3 : W3.heap[w.heap.size + 2]? = some (.cells #[.pointer (some ⟨1, 65, none⟩), .pointer (some ⟨w.heap.size, 0, none⟩), .int .u64 150] 82 (0, 0)) := by rw [← hW3, ← s2]; exact heap_new1 W2 _
  have v20 : W2.cell? ⟨w.heap.size + 1, 0, none⟩ = some (.pointer (some ⟨1, 65, none⟩)) := by rw [cell_at W2 _ 0 _ _ b2]; rfl
  have v21 : W2.cell? ⟨w.heap.size + 1, 1, none⟩ = some (.pointer (some ⟨w.heap.size, 0, none⟩)) := by rw [cell_at W2 _ 1 _ _ b2]; rfl
  have v22 : W2.cell? ⟨w.heap.size + 1, 2, none⟩ = some (.int .u64 150) := by rw [cell_at W2 _ 2 _ _ b2]; rfl
  have v30 : W3.cell? ⟨w.heap.size + 2, 0, none⟩ = some (.pointer (some ⟨1, 65, none⟩)) := by rw [cell_at W3 _ 0 _ _ b3]; rfl
  have v31 : W3.cell? ⟨w.heap.size + 2, 1, none⟩ = some (.pointer (some ⟨w.heap.size, 0, none⟩)) := by rw [cell_at W3 _ 1 _ _ b3]; rfl
  have v32 : W3.cell? ⟨w.heap.size + 2, 2, none⟩ = some (.int .u64 150) := by rw [cell_at W3 _ 2 _ _ b3]; rfl
  clear b2 b3 k1 k2 k3 k4 b1 b4 k24 ht0 hf0 hg hlt hA
  go_enter Tryz.func19, Tryz.ntmps19
  go_wp2
  refine wp_loop_rounds 1 ?_
  rw [rounds_succ]
  go_wp2
  go_ret
  exact ⟨rfl, HF.out⟩


theorem noIs (v : Value) (xT : TypeId) (w : World) : (Instr.typeAssert (.iface 63 v) xT 113 true).run Tryz.prog w = .ok (.tuple #[.nilIface, .bool false]) w := run_typeAssert_lacksB Tryz.underlying113 (by kernel_rfl) (by kernel_rfl) v xT w
theorem hasUnwrap (v : Value) (xT : TypeId) (w : World) : (Instr.typeAssert (.iface 63 v) xT 108 true).run Tryz.prog w = .ok (.tuple #[.iface 63 v, .bool true]) w := run_typeAssert_hasB Tryz.underlying108 (by kernel_rfl) v xT w
theorem typeOfC (v : Value) (w : World) : (ReflectliteType.typeOf #[.iface 48 v]).run Tryz.prog w = .ok (rty 48) w := by kernel_rfl
theorem compC (w : World) : ((ReflectliteType.method fun t => (do Rtype.noPackHeld "Comparable" t; (fun a => Value.bool a.comparable) <$> typeInfo t)) #[.agg #[hnd 48]]).run Tryz.prog w = .ok (.bool true) w := by kernel_rfl

set_option maxRecDepth 100000 in
set_option maxHeartbeats 4000000 in
theorem is_spot {w : World} {g : Nat} {p : Nat × Nat} (h : SpotAt w g p) : Calls Tryz.prog 20 #[spotV g, .iface 48 (.int .i64 p.1)] w fun e w' => e = .returned (.bool true) ∧ w' = w := by
  have h8 := @run_callFunc_extern Tryz.prog 28 _ ReflectliteType.typeOf Tryz.func28 (by kernel_rfl) (by kernel_rfl) (by kernel_rfl) (by kernel_rfl)
  have h32 := @run_callFunc_extern Tryz.prog 134 _ (ReflectliteType.method fun t => do Rtype.noPackHeld "Comparable" t; pure (.bool (← typeInfo t).comparable)) Tryz.func134 (by kernel_rfl) (by kernel_rfl) (by kernel_rfl) (by kernel_rfl)
  have tT := typeOfC
  have cT := compC
  have nI := noIs
  have hU := hasUnwrap
  have hty := run_eql_iface_types (P := Tryz.prog) 63 48 (.pointer (some ⟨g, 0, none⟩)) (.int .i64 p.1) Tryz.underlying32 (by decide) w
  have heq := eql_codes
  have c1 : w.cell? ⟨g, 1, none⟩ = some (.iface 48 (.int .i64 p.1)) := by rw [cell_at w _ 1 _ _ h]; rfl
  go_enter Tryz.func20, Tryz.ntmps20
  go_wp2
  refine wp_loop_rounds 2 ?_
  rw [rounds_succ]
  go_wp2
  rw [rounds_succ]
  go_wp2
  go_ret
  exact ⟨rfl, rfl⟩


/-- The library's type of errors lies as its text lays it. -/
def HndAt (w : World) : Prop := w.cell? ⟨0, 0, none⟩ = some (rty 32)
theorem HndAt.lt {w : World} (h : HndAt w) : 0 < w.heap.size := by
  rcases Nat.lt_or_ge 0 w.heap.size with h1 | h1
  · exact h1
  · have h' : w.cell? ⟨0, 0, none⟩ = some (rty 32) := h
    simp [World.cell?, Array.getElem?_eq_none h1] at h'
theorem HndAt.on0 {w w' : World} (h : HndAt w) (hk : Kept (fun _ => False) w w') : HndAt w' := (hk.cell (p := ⟨0, 0, none⟩) h.lt (fun f => f)).trans h

theorem neq_self (w : World) (g : Nat) : (binOp .neq 32 (spotV g) (spotV g)).run Tryz.prog w = .ok (.bool false) w := by
  have hc : (Tryz.prog.info? 63).map (·.comparable) = some true := by kernel_rfl
  have hs : (Tryz.prog.info? 68).map (·.size) = some 2 := by kernel_rfl
  obtain ⟨i, hi, hcmp⟩ := Option.map_eq_some_iff.1 hc
  obtain ⟨j, hj, _⟩ := Option.map_eq_some_iff.1 hs
  have h := run_eql_iface_ptr_same (P := Tryz.prog) w ⟨g, 0, none⟩ Tryz.underlying32 Tryz.underlying63 hi hcmp hj
  simp only [binOp] at h ⊢
  simp only [Sem.run_bind, Sem.run_pure] at h ⊢
  cases hr : (Op.equal 32 (spotV g) (spotV g)).run Tryz.prog w with
  | ok b w' => rw [hr] at h; simp [Result.andThen] at h ⊢; exact ⟨h.1, h.2⟩
  | halt x w' => rw [hr] at h; simp [Result.andThen] at h

set_option maxRecDepth 100000 in
set_option maxHeartbeats 4000000 in
theorem lawIs_any {w : World} {g c a : Nat} (h : SpotAt w g (c, a)) (hH : HndAt w) : Calls Tryz.prog 14 #[spotV g, .int .i64 a, .int .i64 c] w fun e w' => e = .returned (.bool true) ∧ Kept (fun _ => False) w w' := by
  have hgw := (Array.getElem?_eq_some_iff.1 h).1
  have hk0 : Kept (fun _ => False) w (w.alloc (.cells #[.pointer none] 63)) := (Kept.refl _ w).alloc _
  have hb0 := heap_new1 w (.cells #[.pointer none] 63)
  have HA := Lib.hid (as_hit ⟨g, 0, none⟩ ⟨w.heap.size, 0, none⟩ (.pointer none) (w.alloc (.cells #[.pointer none] 63)) (hH.on0 hk0) (by rw [cell_at _ _ 0 _ _ hb0]; rfl) (frozen_at _ _ 0 _ _ hb0))
  have HS := Lib.hid h
  have HK0 := Lib.hid hk0
  have HB0 := Lib.hid hb0
  have q := eql_codes
  clear h hH hk0 hb0
  go_enter Tryz.func14, Tryz.ntmps14
  go_wp2_with fail
  refine HA.out.mono ?_
  rintro e W2 ⟨rfl, w1, hk1, rfl⟩
  obtain ⟨W3, hW3⟩ : ∃ W, w1.setCell ⟨w.heap.size, 0, none⟩ (.pointer (some ⟨g, 0, none⟩)) = W := ⟨_, rfl⟩
  have hk3 : Kept (fun _ => False) w W3 := by rw [← hW3]; exact (HK0.out.trans hk1 (fun _ _ f => f)).setCell _ _ (fun hl => by have hl' : w.heap.size < w.heap.size := hl; omega)
  have hb3 : W3.heap[w.heap.size]? = some (.cells #[.pointer (some ⟨g, 0, none⟩)] 63 (0, 0)) := by rw [← hW3]; exact set_cellB (hk1.at_ HB0.out (fun f => f))
  have hs3 := HS.out.kept hk3 (fun f => f)
  have c0 : W3.cell? ⟨w.heap.size, 0, none⟩ = some (.pointer (some ⟨g, 0, none⟩)) := by rw [cell_at W3 _ 0 _ _ hb3]; rfl
  have d0 : W3.cell? ⟨g, 0, none⟩ = some (.int .i64 a) := by rw [cell_at W3 _ 0 _ _ hs3]; rfl
  have d1 : W3.cell? ⟨g, 1, none⟩ = some (.iface 48 (.int .i64 c)) := by rw [cell_at W3 _ 1 _ _ hs3]; rfl
  have hnq := neq_self W3 g
  have HI := Lib.hid (is_spot hs3)
  have HK3 := Lib.hid hk3
  rw [hW3]
  clear hk1 hk3 hb3 hs3 HA
  go_wp2_with fail
  refine HI.out.mono ?_
  rintro e W4 ⟨rfl, hw4⟩
  subst W4
  go_wp2_with fail
  go_ret
  exact ⟨by simp, HK3.out⟩


end Er
end Go.Proofs.YtbodlaiakcoabaaGreatDoor
end
section
namespace Go.Proofs.YtbodlaiakcoabaaGreatDoor
namespace Er
open Go.RowKit

def rowE : List (String × DataW Unit) := [("errors.errorType", Rows.laid_errors_errorType)]
/-- A row that lists variables: the walk is handed them, and the world's shape. -/
theorem handed_laid {H : Type} {enc : TypeId × Value → H} {a : Assume} {C : Checked} {os : Os} {f : FuncId} {fn : Func} {s : ChangeSpec} {conds : List PathCond} {apart fresh handsOn again : Bool} {X : World → Array Value → Prop}
    (hX : ∀ (w w' : World) (args : Array Value), w.heap = w'.heap → X w args → X w' args)
    (own : ownKnob C.prog.godebug = none) (started : os.Started) (noInit : C.prog.inits.idxOf? f = none) (hfn : C.prog.funcs[f]? = some fn)
    (witness : ∃ (w : World) (tape : Tape) (i : Input), w.os = os ∧ (w.forCall tape i).Shaped C.prog ∧ i.vars = [] ∧ Input.okWide C.prog (w.forCall tape i) .any w.heap.size f i ∧
      ((s.pre enc C.prog fn conds apart (w.forCall tape i).memory i.args ∧ X (w.forCall tape i).memory i.args) ∧ sizedMet enc C.prog fn (OpenSpec.ofChange s) apart (w.forCall tape i).memory i.args) ∧ a.holds C.prog (lone (Frame.enter C.prog f i.args .normal) [] (w.forCall tape i)))
    (contract : ∀ (W : World) (base : Nat) (args : Array Value) (ds gs : List (DataW H)) (before : List MemPlace),
      (∀ (j : Nat) t v, fn.params[j]? = some t → args[j]? = some v → Value.okWide C.prog W .any base t v) →
      DataW.Whole enc C.prog fn.params.toList s.vars apart W args.toList ds gs before → X W args → W.ShapedOpen C.prog →
      Calls C.prog f args W fun e W' => ∃ v, e = .returned v ∧ s.post enc C.prog fn apart fresh handsOn again W args v W') :
    ReturnsInHanded a C os f .any (fun w args => (s.pre enc C.prog fn conds apart w args ∧ X w args) ∧ sizedMet enc C.prog fn (OpenSpec.ofChange s) apart w args) (s.post enc C.prog fn apart fresh handsOn again) := by
  refine returnsInHanded_of_calls own started noInit witness ?_
  intro w tape i _ hsh _ hok hpre hholds
  obtain ⟨_, _, _, fn', hfn', _, _, _, _, hval⟩ := hok
  obtain rfl : fn' = fn := Option.some.inj (hfn'.symm.trans hfn)
  obtain ⟨⟨⟨ds, gs, before, hw, hc⟩, hx⟩, hz⟩ := hpre
  refine (contract (w.forCall tape i) w.heap.size i.args ds gs before hval (DataW.Whole.of_heap (w' := w.forCall tape i) (by rfl) hw) (hX _ _ _ (by rfl) hx) hsh).mono fun e W' ⟨v, he, hp⟩ => ?_
  subst he
  exact ChangeSpec.post_blind hp

theorem gHnd : Tryz.prog.globalNamed "errors.errorType" = some 0 := by kernel_rfl
theorem rtHnd : (Tryz.prog.cutTypes.find? (·.1 == "internal/reflectlite.rtype")).map (·.2) = some 101 := by kernel_rfl
theorem oneHnd : ((List.range Tryz.prog.types.size).filter fun t => Tryz.prog.rowNamed t [101, 114, 114, 111, 114]) = [32] := by kernel_rfl

theorem hnd_of {W : World} (h : laidMetH Tryz.prog rowE W) : HndAt W := by
  have h' : laidMet Tryz.prog [] W ∧ handlesMet Tryz.prog [("errors.errorType", Rows.laid_errors_errorType)] W := h
  obtain ⟨name, u, ty, e1, e2, e3, e4, e5⟩ := h'.2 _ (List.mem_singleton.2 rfl)
  have en : name = [101, 114, 114, 111, 114] := (Option.some.inj e1).symm
  subst en
  obtain rfl := Option.some.inj (rtHnd.symm.trans e2)
  have hm : ty ∈ (List.range Tryz.prog.types.size).filter fun t => Tryz.prog.rowNamed t [101, 114, 114, 111, 114] := List.mem_filter.2 ⟨List.mem_range.2 e3, e4⟩
  rw [oneHnd] at hm
  obtain rfl := List.mem_singleton.1 hm
  have hh : typeHandle Tryz.prog 32 = hnd 32 := by kernel_rfl
  rw [hh] at e5
  unfold HndAt
  rw [World.var?_cell gHnd e5 0]
  rfl

/-- A world that meets it. -/
noncomputable def baseH (os : Os) : World :=
  let w0 := World.holding Tryz.prog os ⟨#[], #[], []⟩
  { w0 with heap := w0.heap.modify 0 fun
      | .cells _ t frozen => .cells #[rty 32] t frozen
      | o => o }
theorem baseH_os (os : Os) : (baseH os).os = os := by unfold baseH World.holding; rfl
theorem baseH_met (os : Os) (args : Array Value) : laidMetH Tryz.prog rowE ((baseH os).forCall (fun _ _ => 0) ⟨#[], args, []⟩).memory := laidMetH_of_parts (show laidMet Tryz.prog [] _ from ⟨[], rfl, List.nodup_nil, fun _ _ h => by cases h⟩) (by kernel_rfl)
theorem baseH_shaped (os : Os) : (baseH os).Shaped Tryz.prog := World.shaped_of_ZipB (by kernel_rfl) (by kernel_rfl)

end Er
end Go.Proofs.YtbodlaiakcoabaaGreatDoor
end
