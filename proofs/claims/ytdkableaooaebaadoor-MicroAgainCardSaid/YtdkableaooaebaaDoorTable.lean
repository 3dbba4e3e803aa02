/-
  What the calls New, At and Clone of package permit come to; slices.Clone at its threads; two threads compared.
  Conditions: At's and Clone's blocks hold a table.
-/
import Derived.Test.YtdkableaooaebaaDoorPermit
import Derived.Maps.AppendAt
import Derived.Deep.RegionHeld3
import Derived.WalkSpells
import Derived.Laws.StructEq
namespace Go.Proofs.YtdkableaooaebaaDoor
open Go.RowKit

def Pk.agg (p : Pk) : Value := .agg #[.bool p.permit, .bool p.flag, .bool p.blocked, .int .i64 p.deadline]
def Pk.zero : Pk := ⟨false, false, false, 0⟩

theorem Tryd.infoPark : (Tryd.prog.info? 76).map (fun i => (i.zero, i.size, i.bytes)) = some (some (.agg #[.bool false, .bool false, .bool false, .int .i64 0]), 4, 16) := by kernel_rfl

theorem made_parks (n : Nat) : (madeCells #[.bool false, .bool false, .bool false, .int .i64 0] (n * 4)).toList = flat Pk.cells (List.replicate n Pk.zero) := by
  apply List.ext_getElem?
  intro k
  have hl := flat_len Pk.four (List.replicate n Pk.zero)
  rw [List.length_replicate] at hl
  by_cases hk : k < n * 4
  · have h1 : (List.replicate n Pk.zero)[k / 4]? = some Pk.zero := by rw [List.getElem?_replicate]; rw [if_pos (by omega)]
    have h2 := flat_at Pk.four (List.replicate n Pk.zero) (k / 4) (k % 4) Pk.zero h1 (by omega)
    rw [show k / 4 * 4 + k % 4 = k from by omega] at h2
    rw [h2]
    have h3 : k % 4 < 4 := by omega
    simp only [madeCells]
    simp [hk]
    generalize k % 4 = j at *
    match j, h3 with
    | 0, _ => rfl
    | 1, _ => rfl
    | 2, _ => rfl
    | 3, _ => rfl
  · rw [List.getElem?_eq_none (by simp [size_madeCells]; omega), List.getElem?_eq_none (by omega)]

/-- A new table. -/
def NewTab (w : World) (n : Nat) (e : Ending) (w' : World) : Prop :=
  ∃ b g, e = .returned (.tuple #[.pointer (some ⟨b, 0, none⟩), .nilIface]) ∧ w.heap.size ≤ b ∧ w.heap.size ≤ g ∧ Tab w' b g n 0 (List.replicate n Pk.zero) ∧ Kept (fun _ => False) w w'

theorem tab_not (n : Int) (w : World) (h : n < 1 ∨ 8 < n) :
    Calls Tryd.prog 19 #[.int .i64 n] w fun e w' => e = .returned (.tuple #[.pointer none, .iface 42 (.int .i64 1)]) ∧ w = w' := by
  by_cases h1 : n < 1
  · clear h
    go_enter Tryd.func19, Tryd.ntmps19
    go_wp2_with fail
    go_ret2
    exact ⟨rfl, rfl⟩
  · have h2 : 8 < n := by omega
    clear h
    go_enter Tryd.func19, Tryd.ntmps19
    go_wp2_with fail
    go_ret2
    exact ⟨rfl, rfl⟩

theorem tab_new (n : Nat) (w : World) (h1 : 1 ≤ n) (h2 : n ≤ 8) :
    Calls Tryd.prog 19 #[.int .i64 n] w (NewTab w n) := by
  have h3 : ¬ (n : Int) < 1 := by omega
  have h4 : ¬ 8 < (n : Int) := by omega
  obtain ⟨i0, hi, hz0, hz1, hz2⟩ := info_parts Tryd.infoPark
  have HI := Lib.hid hi; clear hi
  have HZ0 := Lib.hid hz0; clear hz0
  have HZ1 := Lib.hid hz1; clear hz1
  have HZ2 := Lib.hid hz2; clear hz2
  go_enter Tryd.func19, Tryd.ntmps19
  go_wp2_with (at_make; refine wpList_make_full _ rfl (.tmp 11) (.tmp 11) 71 rfl 0 76 i0 (.agg #[.bool false, .bool false, .bool false, .int .i64 0]) 4 Tryd.underlying71 HI.out HZ0.out HZ1.out .i64 .i64 n n n rfl rfl rfl rfl ?c1 ?c2 (Nat.zero_le _) ?_)
  case c1 => rw [HZ2.out]; omega
  case c2 => unfold maxLen; omega
  intro w1 hown hgrow
  rw [made_parks] at hown
  have hR : Row w1 w.heap.size n 76 4 Pk.cells (List.replicate n Pk.zero) := Row.made (by simp) hown
  have hk : Kept (fun _ => False) w w1 := (Kept.refl _ w).grown hgrow (fun _ _ e => by simp at e)
  have hs := hR.lt
  have hfin : NewTab w n (.returned (.tuple #[.pointer (some ⟨w1.heap.size, 0, none⟩), .nilIface])) (w1.alloc (.cells #[.int .i64 0, .slice (some ⟨w.heap.size, 0, none⟩) n n] 73)) := by
    refine ⟨_, _, rfl, hk.size, Nat.le_refl _, ⟨?_, hR.kept ((Kept.refl (fun _ => False) w1).alloc _) (fun f => f), by omega, by simp; omega⟩, hk.alloc _⟩
    rw [heap_alloc_new, List.length_replicate]
  have HF := Lib.hid hfin; clear hfin hk hR hown hgrow
  go_wp2_with fail
  go_ret2
  exact HF.out

section
variable {w : World} {b g c : Nat} {now : Int} {ps : List Pk}

theorem at_in {i : Nat} {p : Pk} (h : Tab w b g c now ps) (hp : ps[i]? = some p) :
    Calls Tryd.prog 28 #[.pointer (some ⟨b, 0, none⟩), .int .i64 i] w fun e w' => e = .returned (.tuple #[p.agg, .nilIface]) ∧ Kept (fun _ => False) w w' := by
  have ho := Pk.zero
  have h1 := h.kept ((Kept.refl (fun _ => False) w).alloc (.cells #[.bool false, .bool false, .bool false, .int .i64 0] 76)) (fun f => f) (fun f => f)
  have hc := thread_in h1 (at_lt hp)
  have d0 := h.p0 hp
  have d1 := h.p1 hp
  have d2 := h.p2 hp
  have d3 := h.p3 hp
  have hg := h.lt.2
  clear h h1 hp ho
  unfold Pk.agg
  obtain ⟨pm, fl, bl, dl⟩ := p
  go_enter Tryd.func28, Tryd.ntmps28
  go_wp2_with fail
  refine hc.mono ?_
  rintro e w1 ⟨rfl, rfl⟩
  go_wp2_with fail
  exact bodyPost_ret (v := .tuple #[.agg #[.bool pm, .bool fl, .bool bl, .int .i64 dl], .nilIface]) (by simp [results, Tryd.results28, go_sem]) rfl ⟨rfl, (Kept.refl _ _).alloc _⟩

theorem at_out {i : Int} (h : Tab w b g c now ps) (hi : ¬ (0 ≤ i ∧ i < (ps.length : Int))) :
    Calls Tryd.prog 28 #[.pointer (some ⟨b, 0, none⟩), .int .i64 i] w fun e w' => e = .returned (.tuple #[Pk.zero.agg, .iface 42 (.int .i64 4)]) ∧ Kept (fun _ => False) w w' := by
  have h1 := h.kept ((Kept.refl (fun _ => False) w).alloc (.cells #[.bool false, .bool false, .bool false, .int .i64 0] 76)) (fun f => f) (fun f => f)
  have hc := thread_out h1 hi
  clear h h1 hi
  unfold Pk.agg Pk.zero
  go_enter Tryd.func28, Tryd.ntmps28
  go_wp2_with fail
  refine hc.mono ?_
  rintro e w1 ⟨rfl, rfl⟩
  go_wp2_with fail
  exact bodyPost_ret (v := .tuple #[.agg #[.bool false, .bool false, .bool false, .int .i64 0], .iface 42 (.int .i64 4)]) (by simp [results, Tryd.results28, go_sem]) rfl ⟨rfl, (Kept.refl _ _).alloc _⟩

end

theorem eq_park (p q : Pk) (w : World) : (Op.equalIn 10000 76 p.agg q.agg).run Tryd.prog w = .ok (decide (p = q)) w := by
  have u4 := Tryd.underlying4
  have u2 := Tryd.underlying2
  have a4 := Tryd.isAgg4
  have z4 := Tryd.sizeOf4
  have a2 := Tryd.isAgg2
  have z2 := Tryd.sizeOf2
  have hS : Tryd.prog.underlying 76 = some (.struct (Tryd.prog.fieldsOf 76)) := by kernel_rfl
  have hp : Tryd.prog.stoodInHeld 76 = false := by kernel_rfl
  obtain ⟨p0, p1, p2, p3⟩ := p
  obtain ⟨q0, q1, q2, q3⟩ := q
  unfold Pk.agg
  rw [show (10000 : Nat) = 9999 + 1 from rfl, run_equalIn_agg w 9999 76 _ _ hS hp]
  simp only [Program.fieldsOf, Tryd.underlying76]
  go_simp
  by_cases h0 : p0 = q0 <;> by_cases h1 : p1 = q1 <;> by_cases h2 : p2 = q2 <;> by_cases h3 : p3 = q3 <;> simp [h0, h1, h2, h3]

theorem run_neq_park (p q : Pk) (w : World) : (binOp .neq 76 p.agg q.agg).run Tryd.prog w = .ok (.bool (!decide (p = q))) w := by
  rw [show p.agg = .agg #[.bool p.permit, .bool p.flag, .bool p.blocked, .int .i64 p.deadline] from rfl, show q.agg = .agg #[.bool q.permit, .bool q.flag, .bool q.blocked, .int .i64 q.deadline] from rfl, run_neq_struct]
  rw [show Value.agg #[.bool p.permit, .bool p.flag, .bool p.blocked, .int .i64 p.deadline] = p.agg from rfl, show Value.agg #[.bool q.permit, .bool q.flag, .bool q.blocked, .int .i64 q.deadline] = q.agg from rfl, eq_park]
  rfl

theorem run_eql_park (p q : Pk) (w : World) : (binOp .eql 76 p.agg q.agg).run Tryd.prog w = .ok (.bool (decide (p = q))) w := by
  rw [show p.agg = .agg #[.bool p.permit, .bool p.flag, .bool p.blocked, .int .i64 p.deadline] from rfl, show q.agg = .agg #[.bool q.permit, .bool q.flag, .bool q.blocked, .int .i64 q.deadline] from rfl, run_eql_struct]
  rw [show Value.agg #[.bool p.permit, .bool p.flag, .bool p.blocked, .int .i64 p.deadline] = p.agg from rfl, show Value.agg #[.bool q.permit, .bool q.flag, .bool q.blocked, .int .i64 q.deadline] = q.agg from rfl, eq_park]
  rfl

theorem eq_parks (w : World) (a b c : Bool) (d : Int) (a' b' c' : Bool) (d' : Int) : (Op.equalIn 10000 76 (.agg #[.bool a, .bool b, .bool c, .int .i64 d]) (.agg #[.bool a', .bool b', .bool c', .int .i64 d'])).run Tryd.prog w = .ok (decide ((⟨a, b, c, d⟩ : Pk) = ⟨a', b', c', d'⟩)) w := eq_park ⟨a, b, c, d⟩ ⟨a', b', c', d'⟩ w

theorem guard_park : Tryd.prog.eqGuardType Tryd.prog.depth 76 = false := by kernel_rfl

end Go.Proofs.YtdkableaooaebaaDoor
