/-
  What errors.Is, and the statements' own calls on errors, come to at an error at a place.
  Conditions: the library's type of errors lies as its text lays it.
  What the statements' own calls on errors (Is, Told, Of) come to at an error at a place, or none.
  Conditions: the library's type of errors lies as its text lays it.
-/
import Derived.Test.YtlhnbihpefgcbaaGreatDoorAsmAs
import Derived.Test.YtlhnbihpefgcbaaGreatDoorLineMem
import Derived.Deep.RegionWith
section
namespace Go.Proofs.YtlhnbihpefgcbaaGreatDoor
open Go.RowKit Go.Extern.Stop Go.Stop Go.Extern

theorem noIs (v : Value) (xT : TypeId) (w : World) : (Instr.typeAssert (.iface 63 v) xT 118 true).run Tryz.prog w = .ok (.tuple #[.nilIface, .bool false]) w := run_typeAssert_lacksB Tryz.underlying118 (by kernel_rfl) (by kernel_rfl) v xT w
theorem hasUnwrap (v : Value) (xT : TypeId) (w : World) : (Instr.typeAssert (.iface 63 v) xT 114 true).run Tryz.prog w = .ok (.tuple #[.iface 63 v, .bool true]) w := run_typeAssert_hasB Tryz.underlying114 (by kernel_rfl) v xT w
theorem typeOfC (v : Value) (w : World) : (ReflectliteType.typeOf #[.iface 47 v]).run Tryz.prog w = .ok (rty 47) w := by kernel_rfl
theorem compC (w : World) : ((ReflectliteType.method fun t => (do Rtype.noPackHeld "Comparable" t; (fun a => Value.bool a.comparable) <$> typeInfo t)) #[.agg #[hnd 47]]).run Tryz.prog w = .ok (.bool true) w := by kernel_rfl

set_option maxRecDepth 100000 in
set_option maxHeartbeats 4000000 in
theorem is_spot {w : World} {g : Nat} {p : Nat × Nat} (h : SpotAt w g p) : Calls Tryz.prog 25 #[spotV g, .iface 47 (.int .i64 p.1)] w fun e w' => e = .returned (.bool true) ∧ w' = w := by
  have h8 := @run_callFunc_extern Tryz.prog 41 _ ReflectliteType.typeOf Tryz.func41 (by kernel_rfl) (by kernel_rfl) (by kernel_rfl) (by kernel_rfl)
  have h32 := @run_callFunc_extern Tryz.prog 153 _ (ReflectliteType.method fun t => do Rtype.noPackHeld "Comparable" t; pure (.bool (← typeInfo t).comparable)) Tryz.func153 (by kernel_rfl) (by kernel_rfl) (by kernel_rfl) (by kernel_rfl)
  have tT := typeOfC
  have cT := compC
  have nI := noIs
  have hU := hasUnwrap
  have hty := run_eql_iface_types (P := Tryz.prog) 63 47 (.pointer (some ⟨g, 0, none⟩)) (.int .i64 p.1) Tryz.underlying28 (by decide) w
  have heq := eql_codes
  have c1 : w.cell? ⟨g, 1, none⟩ = some (.iface 47 (.int .i64 p.1)) := by rw [cell_at w _ 1 _ _ h]; rfl
  go_enter Tryz.func25, Tryz.ntmps25
  go_wp2
  refine wp_loop_rounds 2 ?_
  rw [rounds_succ]
  go_wp2
  rw [rounds_succ]
  go_wp2
  go_ret
  exact ⟨rfl, rfl⟩

end Go.Proofs.YtlhnbihpefgcbaaGreatDoor
end
section
namespace Go.Proofs.YtlhnbihpefgcbaaGreatDoor
open Go.RowKit

/-- The library's type of errors lies as its text lays it. -/
def HndAt (w : World) : Prop := w.cell? ⟨0, 0, none⟩ = some (rty 28)
theorem HndAt.lt {w : World} (h : HndAt w) : 0 < w.heap.size := by
  rcases Nat.lt_or_ge 0 w.heap.size with h1 | h1
  · exact h1
  · have h' : w.cell? ⟨0, 0, none⟩ = some (rty 28) := h
    simp [World.cell?, Array.getElem?_eq_none h1] at h'
theorem HndAt.on0 {w w' : World} (h : HndAt w) (hk : Kept (fun _ => False) w w') : HndAt w' := (hk.cell (p := ⟨0, 0, none⟩) h.lt (fun f => f)).trans h

theorem neq_self (w : World) (g : Nat) : (binOp .neq 28 (spotV g) (spotV g)).run Tryz.prog w = .ok (.bool false) w := by
  have hc : (Tryz.prog.info? 63).map (·.comparable) = some true := by kernel_rfl
  have hs : (Tryz.prog.info? 67).map (·.size) = some 2 := by kernel_rfl
  obtain ⟨i, hi, hcmp⟩ := Option.map_eq_some_iff.1 hc
  obtain ⟨j, hj, _⟩ := Option.map_eq_some_iff.1 hs
  have h := run_eql_iface_ptr_same (P := Tryz.prog) w ⟨g, 0, none⟩ Tryz.underlying28 Tryz.underlying63 hi hcmp hj
  simp only [binOp] at h ⊢
  simp only [Sem.run_bind, Sem.run_pure] at h ⊢
  cases hr : (Op.equal 28 (spotV g) (spotV g)).run Tryz.prog w with
  | ok b w' => rw [hr] at h; simp [Result.andThen] at h ⊢; exact ⟨h.1, h.2⟩
  | halt x w' => rw [hr] at h; simp [Result.andThen] at h

set_option maxRecDepth 100000 in
set_option maxHeartbeats 4000000 in
theorem lawIs_any {w : World} {g c a : Nat} (h : SpotAt w g (c, a)) (hH : HndAt w) : Calls Tryz.prog 16 #[spotV g, .int .i64 a, .int .i64 c] w fun e w' => e = .returned (.bool true) ∧ Kept (fun _ => False) w w' := by
  have hgw := (Array.getElem?_eq_some_iff.1 h).1
  have hk0 : Kept (fun _ => False) w (w.alloc (.cells #[.pointer none] 63)) := (Kept.refl _ w).alloc _
  have hb0 := heap_new1 w (.cells #[.pointer none] 63)
  have HA := Lib.hid (as_hit ⟨g, 0, none⟩ ⟨w.heap.size, 0, none⟩ (.pointer none) (w.alloc (.cells #[.pointer none] 63)) (hH.on0 hk0) (by rw [cell_at _ _ 0 _ _ hb0]; rfl) (frozen_at _ _ 0 _ _ hb0))
  have HS := Lib.hid h
  have HK0 := Lib.hid hk0
  have HB0 := Lib.hid hb0
  have q := eql_codes
  clear h hH hk0 hb0
  go_enter Tryz.func16, Tryz.ntmps16
  go_wp2_with fail
  refine HA.out.mono ?_
  rintro e W2 ⟨rfl, w1, hk1, rfl⟩
  obtain ⟨W3, hW3⟩ : ∃ W, w1.setCell ⟨w.heap.size, 0, none⟩ (.pointer (some ⟨g, 0, none⟩)) = W := ⟨_, rfl⟩
  have hk3 : Kept (fun _ => False) w W3 := by rw [← hW3]; exact (HK0.out.trans hk1 (fun _ _ f => f)).setCell _ _ (fun hl => by have hl' : w.heap.size < w.heap.size := hl; omega)
  have hb3 : W3.heap[w.heap.size]? = some (.cells #[.pointer (some ⟨g, 0, none⟩)] 63 (0, 0)) := by rw [← hW3]; exact set_cellB (hk1.at_ HB0.out (fun f => f))
  have hs3 := HS.out.kept hk3 (fun f => f)
  have c0 : W3.cell? ⟨w.heap.size, 0, none⟩ = some (.pointer (some ⟨g, 0, none⟩)) := by rw [cell_at W3 _ 0 _ _ hb3]; rfl
  have d0 : W3.cell? ⟨g, 0, none⟩ = some (.int .i64 a) := by rw [cell_at W3 _ 0 _ _ hs3]; rfl
  have d1 : W3.cell? ⟨g, 1, none⟩ = some (.iface 47 (.int .i64 c)) := by rw [cell_at W3 _ 1 _ _ hs3]; rfl
  have hnq := neq_self W3 g
  have HI := Lib.hid (is_spot hs3)
  have HK3 := Lib.hid hk3
  rw [hW3]
  clear hk1 hk3 hb3 hs3 HA
  go_wp2_with fail
  refine HI.out.mono ?_
  rintro e W4 ⟨rfl, hw4⟩
  subst W4
  go_wp2_with fail
  go_ret
  exact ⟨by simp, HK3.out⟩

set_option maxRecDepth 100000 in
theorem told_any {w : World} {g c a : Nat} (h : SpotAt w g (c, a)) (hH : HndAt w) : Calls Tryz.prog 11 #[spotV g, .int .i64 c, .int .i64 a] w fun e w' => e = .returned (.bool true) ∧ Kept (fun _ => False) w w' := by
  have HI := Lib.hid (lawIs_any h hH)
  have ha : ¬ ((a : Int) < 0) := by omega
  go_enter Tryz.func11, Tryz.ntmps11
  go_wp2_with fail
  refine (HI.out).mono ?_
  rintro e w' ⟨rfl, hk⟩
  go_wp2_with fail
  go_ret
  exact ⟨rfl, hk⟩

theorem of_nil (w : World) : Calls Tryz.prog 15 #[.nilIface] w fun e w' => e = .returned (.tuple #[.int .i64 0, .int .i64 (-1)]) ∧ Kept (fun _ => False) w w' := by
  have HA := Lib.hid (fun t w' => as_nil t w')
  have HC := Lib.hid (fun w' => code_nil w')
  have HK := Lib.hid ((Kept.refl (fun _ => False) w).alloc (.cells #[.pointer none] 63))
  go_enter Tryz.func15, Tryz.ntmps15
  go_wp2_with fail
  refine (HA.out _ _).mono ?_
  rintro e w' ⟨rfl, rfl⟩
  go_wp2_with fail
  refine (HC.out _).mono ?_
  rintro e w' ⟨rfl, hw'⟩
  subst w'
  go_wp2_with fail
  go_ret2
  exact ⟨rfl, HK.out⟩

set_option maxRecDepth 100000 in
set_option maxHeartbeats 4000000 in
theorem of_spot {w : World} {g c a : Nat} (h : SpotAt w g (c, a)) (hH : HndAt w) (h1 : 1 ≤ c) (h8 : c ≤ 8) : Calls Tryz.prog 15 #[spotV g] w fun e w' => e = .returned (.tuple #[.int .i64 c, .int .i64 a]) ∧ Kept (fun _ => False) w w' := by
  have hgw := (Array.getElem?_eq_some_iff.1 h).1
  have hk0 : Kept (fun _ => False) w (w.alloc (.cells #[.pointer none] 63)) := (Kept.refl _ w).alloc _
  have hb0 := heap_new1 w (.cells #[.pointer none] 63)
  have HA := Lib.hid (as_hit ⟨g, 0, none⟩ ⟨w.heap.size, 0, none⟩ (.pointer none) (w.alloc (.cells #[.pointer none] 63)) (hH.on0 hk0) (by rw [cell_at _ _ 0 _ _ hb0]; rfl) (frozen_at _ _ 0 _ _ hb0))
  have HS := Lib.hid h
  have HK0 := Lib.hid hk0
  have HB0 := Lib.hid hb0
  have HC := Lib.hid (fun w' => code_of c h1 h8 w')
  clear h hH hk0 hb0
  go_enter Tryz.func15, Tryz.ntmps15
  go_wp2_with fail
  refine HA.out.mono ?_
  rintro e W2 ⟨rfl, w1, hk1, rfl⟩
  obtain ⟨W3, hW3⟩ : ∃ W, w1.setCell ⟨w.heap.size, 0, none⟩ (.pointer (some ⟨g, 0, none⟩)) = W := ⟨_, rfl⟩
  have hk3 : Kept (fun _ => False) w W3 := by rw [← hW3]; exact (HK0.out.trans hk1 (fun _ _ f => f)).setCell _ _ (fun hl => by have hl' : w.heap.size < w.heap.size := hl; omega)
  have hb3 : W3.heap[w.heap.size]? = some (.cells #[.pointer (some ⟨g, 0, none⟩)] 63 (0, 0)) := by rw [← hW3]; exact set_cellB (hk1.at_ HB0.out (fun f => f))
  have hs3 := HS.out.kept hk3 (fun f => f)
  have c0 : W3.cell? ⟨w.heap.size, 0, none⟩ = some (.pointer (some ⟨g, 0, none⟩)) := by rw [cell_at W3 _ 0 _ _ hb3]; rfl
  have d0 : W3.cell? ⟨g, 0, none⟩ = some (.int .i64 a) := by rw [cell_at W3 _ 0 _ _ hs3]; rfl
  have d1 : W3.cell? ⟨g, 1, none⟩ = some (.iface 47 (.int .i64 c)) := by rw [cell_at W3 _ 1 _ _ hs3]; rfl
  have HK3 := Lib.hid hk3
  rw [hW3]
  clear hk1 hk3 hb3 hs3 HA
  go_wp2_with fail
  go_region_with (go_at_call 23; refine (HC.out _).mono ?_; rintro e w4 ⟨rfl, hw4⟩; subst w4)
  all_goals go_wp2_with fail
  all_goals go_ret2
  all_goals exact ⟨rfl, (HK3.out.drew)⟩

end Go.Proofs.YtlhnbihpefgcbaaGreatDoor
end
