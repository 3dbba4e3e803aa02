/-
  What each instruction does, plainly, one by one.
  Conditions: none; plain mathematics.
-/
import Derived.Test.YtofnomkedpagfaaMach
namespace Go.Proofs.Ytofnomkedpagfaa
open Go.RowKit
set_option linter.unusedSimpArgs false

section
variable {most now : Int} {self : Nat} {a b c : Nat} {n : Int} {s : Ms}
theorem put_nat (s : Ms) (k : Nat) (v : Int) : s.put (k : Int) v = { s with f := s.f.put k v } := by simp [Ms.put]
theorem reg_nat (s : Ms) (k : Nat) : s.reg (k : Int) = s.f.r k := by simp [Ms.reg]
theorem do_set : doM most now self ⟨1, a, b, c, n⟩ s = (0, Ms.next { s with f := s.f.put a n }) := by simp [doM, actM, valM, put_nat, reg_nat]
theorem do_mov : doM most now self ⟨2, a, b, c, n⟩ s = (0, Ms.next { s with f := s.f.put a (s.f.r b) }) := by simp [doM, actM, valM, put_nat, reg_nat]
theorem do_add : doM most now self ⟨3, a, b, c, n⟩ s = (0, Ms.next { s with f := s.f.put a (IntKind.i64.wrap (s.f.r b + s.f.r c)) }) := by simp [doM, actM, valM, put_nat, reg_nat]
theorem do_addi : doM most now self ⟨4, a, b, c, n⟩ s = (0, Ms.next { s with f := s.f.put a (IntKind.i64.wrap (s.f.r b + n)) }) := by simp [doM, actM, valM, put_nat, reg_nat]
theorem do_acc {op : Int} (h5 : 5 ≤ op) (h7 : op ≤ 7) (x : Ix) (hx : x.op = op) : doM most now self x s = if (accM x s).1 = 3 then accM x s else ((accM x s).1, (accM x s).2.next) := by
  have e : actM most now self x s = accM x s := by unfold actM; rw [hx, if_pos ⟨h5, h7⟩]
  unfold doM
  rw [hx, if_neg (by omega), if_neg (by omega), if_neg (by omega), e]
theorem do_jump {op : Int} (h5 : 8 ≤ op) (h7 : op ≤ 11) (x : Ix) (hx : x.op = op) : doM most now self x s = (0, jumpM x s) := by
  unfold doM
  rw [hx, if_pos ⟨h5, h7⟩]
theorem do_park : doM most now self ⟨14, a, b, c, n⟩ s = if (parkM now self (s.f.r a) s).1 = 3 then parkM now self (s.f.r a) s else ((parkM now self (s.f.r a) s).1, (parkM now self (s.f.r a) s).2.next) := by
  unfold doM actM
  simp [reg_nat]
theorem do_unpark : doM most now self ⟨15, a, b, c, n⟩ s = if (unparkM (s.f.r a) s).1 = 3 then unparkM (s.f.r a) s else ((unparkM (s.f.r a) s).1, (unparkM (s.f.r a) s).2.next) := by
  unfold doM actM
  simp [reg_nat]
theorem do_alloc : doM most now self ⟨16, a, b, c, n⟩ s = (0, ((allocM most n s).2.put a (allocM most n s).1).next) := by simp [doM, actM, valM]
theorem do_self : doM most now self ⟨17, a, b, c, n⟩ s = (0, Ms.next { s with f := s.f.put a self }) := by simp [doM, actM, valM, put_nat, reg_nat]
theorem do_now : doM most now self ⟨18, a, b, c, n⟩ s = (0, Ms.next { s with f := s.f.put a now }) := by simp [doM, actM, valM, put_nat, reg_nat]
theorem do_intr : doM most now self ⟨19, a, b, c, n⟩ s = (0, (((s.setThr self (s.thr self).clear).put a (bitI (s.thr self).flag)).next)) := by simp [doM, actM, valM, put_nat, reg_nat]
theorem do_setint : doM most now self ⟨20, a, b, c, n⟩ s = (0, (s.setThr self (s.thr self).broken).next) := by simp [doM, actM, valM, put_nat, reg_nat]
theorem do_mark : doM most now self ⟨21, a, b, c, n⟩ s = (0, (s.note n (s.f.r a)).next) := by simp [doM, actM, valM, put_nat, reg_nat]
theorem do_done : doM most now self ⟨22, a, b, c, n⟩ s = (2, s.next) := by simp [doM, actM, valM, put_nat, reg_nat]
theorem do_enter : doM most now self ⟨12, a, b, c, n⟩ s = enterM ⟨12, a, b, c, n⟩ s := by simp [doM]
theorem do_leave : doM most now self ⟨13, a, b, c, n⟩ s = leaveM s := by simp [doM]
/-- There are as many threads as before. -/
theorem do_ps (x : Ix) (s : Ms) : (doM most now self x s).2.ps.length = s.ps.length := by
  have hput : ∀ (t : Ms) k v, (t.put k v).ps = t.ps := fun _ _ _ => rfl
  have hnext : ∀ (t : Ms), t.next.ps = t.ps := fun _ => rfl
  have hset : ∀ (t : Ms) i p, (t.setThr i p).ps.length = t.ps.length := fun t i p => by unfold Ms.setThr; simp
  have hacc : (accM x s).2.ps = s.ps := by
    unfold accM
    repeat' split
    all_goals rfl
  have hval : (valM most now self x s).2.ps.length = s.ps.length := by
    unfold valM allocM
    repeat' split
    all_goals first | rfl | exact hset _ _ _
  have hact : (actM most now self x s).2.ps.length = s.ps.length := by
    unfold actM parkM unparkM
    repeat' split
    all_goals first | rfl | (rw [hacc]) | exact hset _ _ _ | (rw [hput]; exact hval)
  unfold doM jumpM enterM leaveM
  repeat' split
  all_goals first | rfl | exact hact | (dsimp only; rw [hnext]; exact hact)
theorem act_keep (x : Ix) (s : Ms) : (actM most now self x s).2.bs = s.bs ∧ (actM most now self x s).2.ns.length ≤ s.ns.length + 1 := by
  have hacc : (accM x s).2.bs = s.bs ∧ (accM x s).2.ns = s.ns := by
    unfold accM
    repeat' split
    all_goals exact ⟨rfl, rfl⟩
  have hval : (valM most now self x s).2.bs = s.bs ∧ (valM most now self x s).2.ns = s.ns := by
    unfold valM allocM
    repeat' split
    all_goals exact ⟨rfl, rfl⟩
  unfold actM parkM unparkM
  repeat' split
  all_goals first
    | exact ⟨rfl, Nat.le_succ _⟩
    | exact ⟨hacc.1, by rw [hacc.2]; exact Nat.le_succ _⟩
    | exact ⟨hval.1, by show (valM most now self x s).2.ns.length ≤ _; rw [hval.2]; exact Nat.le_succ _⟩
    | exact ⟨rfl, by show (s.ns ++ [_]).length ≤ _; rw [List.length_append]; exact Nat.le_refl _⟩
theorem do_keep (x : Ix) (s : Ms) (hb : s.bs.length ≤ 15) : (doM most now self x s).2.bs.length ≤ 15 ∧ (doM most now self x s).2.ns.length ≤ s.ns.length + 1 := by
  obtain ⟨h1, h2⟩ := act_keep (most := most) (now := now) (self := self) x s
  unfold doM jumpM enterM leaveM
  repeat' split
  all_goals first
    | exact ⟨hb, Nat.le_succ _⟩
    | exact ⟨by show (s.bs ++ [_]).length ≤ 15; rw [List.length_append]; simp; omega, Nat.le_succ _⟩
    | exact ⟨by show s.bs.dropLast.length ≤ 15; rw [List.length_dropLast]; omega, Nat.le_succ _⟩
    | exact ⟨by rw [h1]; exact hb, h2⟩
    | exact ⟨by show (actM most now self x s).2.bs.length ≤ 15; rw [h1]; exact hb, h2⟩
theorem run_keeps {code : List Ix} : ∀ (m : Nat) (b : Bool) (s : Ms) (r : Int × Int × Ms), runR code most now self m b s = some r → s.bs.length ≤ 15 → r.2.2.bs.length ≤ 15 ∧ r.2.2.ps.length = s.ps.length ∧ r.2.2.ns.length ≤ s.ns.length + m
  | 0, _, _, _, h, _ => by cases h
  | m + 1, b, s, r, h, hb => by
    rw [runR] at h
    split at h
    · cases h
    rename_i x _
    obtain ⟨k1, k2⟩ := do_keep (most := most) (now := now) (self := self) x s hb
    have k3 := do_ps (most := most) (now := now) (self := self) x s
    split at h
    · obtain rfl := Option.some.inj h
      exact ⟨hb, rfl, by show s.ns.length ≤ _; omega⟩
    split at h
    · cases h
    split at h
    · cases h
    split at h
    · obtain rfl := Option.some.inj h
      exact ⟨k1, k3, by show (doM most now self x s).2.ns.length ≤ _; omega⟩
    split at h
    · obtain rfl := Option.some.inj h
      exact ⟨k1, k3, by show (doM most now self x s).2.ns.length ≤ _; omega⟩
    obtain ⟨j1, j2, j3⟩ := run_keeps m true _ r h k1
    exact ⟨j1, j2.trans k3, by omega⟩
end

end Go.Proofs.Ytofnomkedpagfaa
