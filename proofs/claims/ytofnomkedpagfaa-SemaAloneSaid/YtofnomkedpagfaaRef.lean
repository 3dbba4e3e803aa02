/-
  The document's answer of layer 3 in memory: a model's table, and what each of its calls comes to.
  Conditions: the two blocks given hold a model's table.
-/
import Derived.Test.YtofnomkedpagfaaRowOwn
import Derived.Test.YtofnomkedpagfaaPk
import Derived.WalkKit
import Derived.RegionTactic
namespace Go.Proofs.Ytofnomkedpagfaa
open Go.RowKit

/-- Block b holds a model's table: threads that lie in block g, and the time. -/
def Ref (w : World) (b g c : Nat) (now : Int) (ps : List Pk) : Prop :=
  w.heap[b]? = some (.cells #[.slice (some ⟨g, 0, none⟩) ps.length c, .int .i64 now] 64 (0, 0)) ∧ Row w g c 112 4 Pk.cells ps ∧ g ≠ b ∧ ps.length ≤ 8

section
variable {w : World} {b g c : Nat} {now : Int} {ps : List Pk}
theorem Ref.lt (h : Ref w b g c now ps) : b < w.heap.size ∧ g < w.heap.size := ⟨(Array.getElem?_eq_some_iff.1 h.1).1, h.2.1.lt⟩
theorem Ref.kept {S : Nat → Prop} {w' : World} (h : Ref w b g c now ps) (hk : Kept S w w') (h0 : ¬ S b) (h1 : ¬ S g) : Ref w' b g c now ps :=
  ⟨(hk.block b h.lt.1 h0).trans h.1, h.2.1.kept hk h1, h.2.2⟩
theorem Ref.c0 (h : Ref w b g c now ps) : w.cell? ⟨b, 0, none⟩ = some (.slice (some ⟨g, 0, none⟩) ps.length c) := by rw [cell_at w b 0 _ _ h.1]; rfl
theorem Ref.c1 (h : Ref w b g c now ps) : w.cell? ⟨b, 1, none⟩ = some (.int .i64 now) := by rw [cell_at w b 1 _ _ h.1]; rfl
theorem Ref.f1 (h : Ref w b g c now ps) : w.frozen? ⟨b, 1, none⟩ = false := frozen_at w b 1 _ _ h.1
theorem Ref.p0 (h : Ref w b g c now ps) {i : Nat} {p : Pk} (hp : ps[i]? = some p) : w.cell? ⟨g, i * 4, none⟩ = some (.bool p.permit) := h.2.1.cell Pk.four hp (j := 0) rfl
theorem Ref.p1 (h : Ref w b g c now ps) {i : Nat} {p : Pk} (hp : ps[i]? = some p) : w.cell? ⟨g, i * 4 + 1, none⟩ = some (.bool p.flag) := h.2.1.cell Pk.four hp (j := 1) rfl
theorem Ref.p2 (h : Ref w b g c now ps) {i : Nat} {p : Pk} (hp : ps[i]? = some p) : w.cell? ⟨g, i * 4 + 2, none⟩ = some (.bool p.blocked) := h.2.1.cell Pk.four hp (j := 2) rfl
theorem Ref.p3 (h : Ref w b g c now ps) {i : Nat} {p : Pk} (hp : ps[i]? = some p) : w.cell? ⟨g, i * 4 + 3, none⟩ = some (.int .i64 p.deadline) := h.2.1.cell Pk.four hp (j := 3) rfl
theorem Ref.free (h : Ref w b g c now ps) (o : Nat) : w.frozen? ⟨g, o, none⟩ = false := h.2.1.free o
theorem Ref.set (h : Ref w b g c now ps) {i : Nat} (j : Nat) {p : Pk} (p' : Pk) {v : Value} (hp : ps[i]? = some p) (hj : j < 4) (hp' : p'.cells = p.cells.set j v) :
    Ref (w.setCell ⟨g, i * 4 + j, none⟩ v) b g c now (ps.set i p') := by
  have hk : Kept (fun k => k = g) w (w.setCell ⟨g, i * 4 + j, none⟩ v) := (Kept.refl _ _).setCell _ _ (fun _ => rfl)
  refine ⟨?_, h.2.1.set Pk.four hp hj hp', h.2.2.1, by simpa using h.2.2.2⟩
  rw [hk.block b h.lt.1 (Ne.symm h.2.2.1), h.1, List.length_set]

/-- A model with one thread turned: what else there was stays. -/
def TurnedRef (w : World) (b g c : Nat) (now : Int) (ps : List Pk) (w' : World) : Prop := Ref w' b g c now ps ∧ Kept (fun k => k = g) w w'
theorem TurnedRef.refl (h : Ref w b g c now ps) : TurnedRef w b g c now ps w := ⟨h, Kept.refl _ _⟩
theorem TurnedRef.set {w' : World} (h : TurnedRef w b g c now ps w') {i : Nat} (j : Nat) {p : Pk} (p' : Pk) {v : Value} (hp : ps[i]? = some p) (hj : j < 4) (hp' : p'.cells = p.cells.set j v) :
    TurnedRef w b g c now (ps.set i p') (w'.setCell ⟨g, i * 4 + j, none⟩ v) := ⟨h.1.set j p' hp hj hp', h.2.setCell _ _ (fun _ => rfl)⟩

theorem ref_due (d : Int) (r : Bool) (h : Ref w b g c now ps) (hr : dueF now d = r) :
    Calls Try.prog 54 #[.pointer (some ⟨b, 0, none⟩), .int .i64 d] w fun e w' => e = .returned (.bool r) ∧ w = w' := by
  have c1 := h.c1
  clear h
  subst hr
  by_cases h : 0 ≤ d
  · by_cases h1 : d ≤ now
    · have hd : dueF now d = true := by simp [dueF, h, h1]
      rw [hd]
      clear hd
      go_enter Try.func54, Try.ntmps54
      go_wp2_with fail
      go_ret
      exact ⟨rfl, rfl⟩
    · have hd : dueF now d = false := by simp [dueF, h, h1]
      rw [hd]
      clear hd
      have h2 : decide (d ≤ now) = false := by simpa using h1
      go_enter Try.func54, Try.ntmps54
      go_wp2_with fail
      go_ret
      exact ⟨rfl, rfl⟩
  · have hd : dueF now d = false := by simp [dueF, h]
    rw [hd]
    clear hd
    have h2 : decide (0 ≤ d) = false := by simpa using h
    go_enter Try.func54, Try.ntmps54
    go_wp2_with fail
    go_ret
    exact ⟨rfl, rfl⟩

variable {i : Nat} {p : Pk}

theorem ref_on (h : Ref w b g c now ps) (hp : ps[i]? = some p) :
    Calls Try.prog 55 #[.pointer (some ⟨b, 0, none⟩), .int .i64 i] w fun e w' => e = .returned (.tuple #[]) ∧ TurnedRef w b g c now (ps.set i p.on) w' := by
  have hl := h.2.2.2
  have hi := at_lt hp
  have hgb := h.2.2.1
  have r0 := h.c0
  have c2 := h.p2 hp
  have c3 := h.p3 hp
  have f2 := h.free (i * 4 + 2)
  have f3 := h.free (i * 4 + 3)
  have h1 := ((TurnedRef.refl h).set 2 { p with blocked := false } hp (by omega) rfl).set 3 p.on (set_at hp _) (by omega) rfl
  rw [List.set_set] at h1
  have H1 := Lib.hid h1
  have i2 : (i : Int) < (ps.length : Int) := by omega
  clear h hp h1
  go_enter Try.func55, Try.ntmps55
  go_wp2_with fail
  go_end0
  exact ⟨rfl, H1.out⟩

theorem ref_unpark (h : Ref w b g c now ps) (hp : ps[i]? = some p) :
    Calls Try.prog 47 #[.pointer (some ⟨b, 0, none⟩), .int .i64 i] w fun e w' => e = .returned (.tuple #[]) ∧ TurnedRef w b g c now (ps.set i p.unpark) w' := by
  have hl := h.2.2.2
  have hi := at_lt hp
  have r0 := h.c0
  have c0 := h.p0 hp
  have c2 := h.p2 hp
  have f0 := h.free (i * 4)
  obtain ⟨pm, fl, bl, dl⟩ := p
  cases bl
  · have h1 : TurnedRef w b g c now (ps.set i (Pk.unpark ⟨pm, fl, false, dl⟩)) (w.setCell ⟨g, i * 4, none⟩ (.bool true)) := (TurnedRef.refl h).set 0 ⟨true, fl, false, dl⟩ hp (by omega) rfl
    have H1 := Lib.hid h1
    clear h hp h1
    go_enter Try.func47, Try.ntmps47
    go_wp2_with fail
    go_end0
    exact ⟨rfl, H1.out⟩
  · have hu := ref_on h hp
    clear h hp
    go_enter Try.func47, Try.ntmps47
    go_wp2_with fail
    refine (hu).mono ?_
    rintro e w1 ⟨rfl, ht⟩
    go_wp2_with fail
    go_end0
    exact ⟨rfl, ht⟩

theorem ref_park (d : Int) (h : Ref w b g c now ps) (hp : ps[i]? = some p) (hb : p.blocked = false) :
    Calls Try.prog 46 #[.pointer (some ⟨b, 0, none⟩), .int .i64 i, .int .i64 d] w fun e w' => e = .returned (.bool (p.parks now d)) ∧ TurnedRef w b g c now (ps.set i (p.park now d)) w' := by
  have hl := h.2.2.2
  have hi := at_lt hp
  have hgb := h.2.2.1
  have r0 := h.c0
  have c0 := h.p0 hp
  have c1 := h.p1 hp
  have c2 := h.p2 hp
  have c3 := h.p3 hp
  have f0 := h.free (i * 4)
  have f2 := h.free (i * 4 + 2)
  have f3 := h.free (i * 4 + 3)
  obtain ⟨pm, fl, bl, dl⟩ := p
  obtain rfl : bl = false := hb
  cases pm
  · cases fl
    · have hq : ∀ r, dueF now d = r → Pk.parks now ⟨false, false, false, dl⟩ d = !r := by rintro r rfl; rfl
      cases hdue : dueF now d
      · have e1 := hq _ hdue
        have e2 : Pk.park now ⟨false, false, false, dl⟩ d = ⟨false, false, true, d⟩ := by simp [Pk.park, hdue]
        have h1 := ((TurnedRef.refl h).set 2 ⟨false, false, true, dl⟩ hp (by omega) rfl).set 3 ⟨false, false, true, d⟩ (set_at hp _) (by omega) rfl
        rw [List.set_set] at h1
        rw [e1, e2]
        have H1 := Lib.hid h1
        have hr := ref_due d false h hdue
        clear h hp hdue e1 e2 hq h1
        go_enter Try.func46, Try.ntmps46
        go_wp2_with fail
        refine (hr).mono ?_
        rintro e w1 ⟨rfl, rfl⟩
        go_wp2_with fail
        go_ret
        exact ⟨rfl, H1.out⟩
      · have e1 := hq _ hdue
        have e2 : Pk.park now ⟨false, false, false, dl⟩ d = ⟨false, false, false, dl⟩ := by simp [Pk.park, hdue]
        rw [e1, e2, set_self hp]
        have H1 := Lib.hid (TurnedRef.refl h)
        have hr := ref_due d true h hdue
        clear h hp hdue e1 e2 hq
        go_enter Try.func46, Try.ntmps46
        go_wp2_with fail
        refine (hr).mono ?_
        rintro e w1 ⟨rfl, rfl⟩
        go_wp2_with fail
        go_ret
        exact ⟨rfl, H1.out⟩
    · have e1 : Pk.parks now ⟨false, true, false, dl⟩ d = false := rfl
      have e2 : Pk.park now ⟨false, true, false, dl⟩ d = ⟨false, true, false, dl⟩ := rfl
      rw [e1, e2, set_self hp]
      have H1 := Lib.hid (TurnedRef.refl h)
      have hr := ref_due d _ h rfl
      generalize dueF now d = r at *
      clear h hp e1 e2
      go_enter Try.func46, Try.ntmps46
      go_wp2_with fail
      refine (hr).mono ?_
      rintro e w1 ⟨rfl, rfl⟩
      go_wp2_with fail
      go_ret
      exact ⟨rfl, H1.out⟩
  · have e1 : Pk.parks now ⟨true, fl, false, dl⟩ d = false := rfl
    have h1 : TurnedRef w b g c now (ps.set i (Pk.park now ⟨true, fl, false, dl⟩ d)) (w.setCell ⟨g, i * 4, none⟩ (.bool false)) := (TurnedRef.refl h).set 0 ⟨false, fl, false, dl⟩ hp (by omega) rfl
    rw [e1]
    have H1 := Lib.hid h1
    clear h hp e1 h1
    go_enter Try.func46, Try.ntmps46
    go_wp2_with fail
    go_ret
    exact ⟨rfl, H1.out⟩
end

end Go.Proofs.Ytofnomkedpagfaa
