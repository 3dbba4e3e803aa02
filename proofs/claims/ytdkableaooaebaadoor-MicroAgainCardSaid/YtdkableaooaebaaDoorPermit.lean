/-
  What the calls Park, Unpark, Interrupt, Clear, Wake and Now of package permit come to.
  Conditions: the two blocks given hold a table.
-/
import Derived.Test.YtdkableaooaebaaDoorPark
import Derived.LoopTactic
namespace Go.Proofs.YtdkableaooaebaaDoor
open Go.RowKit

/-- What a thread is that parks, and whether it is blocked then. -/
def Pk.park (now : Int) (p : Pk) (d : Int) : Pk := if p.permit then { p with permit := false } else if p.flag || dueF now d then p else { p with blocked := true, deadline := d }
def Pk.parks (now : Int) (p : Pk) (d : Int) : Bool := !(p.permit || p.flag || dueF now d)
def Pk.unpark (p : Pk) : Pk := if p.blocked then p.on else { p with permit := true }
def Pk.broken (p : Pk) : Pk := { p with flag := true, blocked := false, deadline := 0 }
def Pk.clear (p : Pk) : Pk := { p with flag := false }

section
variable {w : World} {b g c : Nat} {now : Int} {ps : List Pk}

theorem now_at (h : Tab w b g c now ps) :
    Calls Tryd.prog 57 #[.pointer (some ⟨b, 0, none⟩)] w fun e w' => e = .returned (.int .i64 now) ∧ w = w' := by
  have c0 := h.c0
  clear h
  go_enter Tryd.func57, Tryd.ntmps57
  go_wp2_with fail
  go_ret
  exact ⟨rfl, rfl⟩

theorem unpark_out {i : Int} (h : Tab w b g c now ps) (hi : ¬ (0 ≤ i ∧ i < (ps.length : Int))) :
    Calls Tryd.prog 46 #[.pointer (some ⟨b, 0, none⟩), .int .i64 i] w fun e w' => e = .returned (.iface 42 (.int .i64 4)) ∧ w = w' := by
  have hc := thread_out h hi
  clear h hi
  go_enter Tryd.func46, Tryd.ntmps46
  go_wp2_with fail
  refine (hc).mono ?_
  rintro e w1 ⟨rfl, rfl⟩
  go_wp2_with fail
  go_ret
  exact ⟨rfl, rfl⟩

theorem interrupt_out {i : Int} (h : Tab w b g c now ps) (hi : ¬ (0 ≤ i ∧ i < (ps.length : Int))) :
    Calls Tryd.prog 47 #[.pointer (some ⟨b, 0, none⟩), .int .i64 i] w fun e w' => e = .returned (.iface 42 (.int .i64 4)) ∧ w = w' := by
  have hc := thread_out h hi
  clear h hi
  go_enter Tryd.func47, Tryd.ntmps47
  go_wp2_with fail
  refine (hc).mono ?_
  rintro e w1 ⟨rfl, rfl⟩
  go_wp2_with fail
  go_ret
  exact ⟨rfl, rfl⟩

theorem clear_out {i : Int} (h : Tab w b g c now ps) (hi : ¬ (0 ≤ i ∧ i < (ps.length : Int))) :
    Calls Tryd.prog 61 #[.pointer (some ⟨b, 0, none⟩), .int .i64 i] w fun e w' => e = .returned (.tuple #[.bool false, .iface 42 (.int .i64 4)]) ∧ w = w' := by
  have hc := thread_out h hi
  clear h hi
  go_enter Tryd.func61, Tryd.ntmps61
  go_wp2_with fail
  refine (hc).mono ?_
  rintro e w1 ⟨rfl, rfl⟩
  go_wp2_with fail
  go_ret2
  exact ⟨rfl, rfl⟩

theorem park_out {i : Int} (d : Int) (h : Tab w b g c now ps) (hi : ¬ (0 ≤ i ∧ i < (ps.length : Int))) :
    Calls Tryd.prog 54 #[.pointer (some ⟨b, 0, none⟩), .int .i64 i, .int .i64 d] w fun e w' => e = .returned (.tuple #[.bool false, .iface 42 (.int .i64 4)]) ∧ w = w' := by
  have hc := thread_out h hi
  clear h hi
  go_enter Tryd.func54, Tryd.ntmps54
  go_wp2_with fail
  refine (hc).mono ?_
  rintro e w1 ⟨rfl, rfl⟩
  go_wp2_with fail
  go_ret2
  exact ⟨rfl, rfl⟩

variable {i : Nat} {p : Pk}

theorem at_lt {α : Type} {ps : List α} {i : Nat} {p : α} (hp : ps[i]? = some p) : i < ps.length := (List.getElem?_eq_some_iff.1 hp).1
theorem set_self {α : Type} {ps : List α} {i : Nat} {p : α} (hp : ps[i]? = some p) : ps.set i p = ps := by
  obtain ⟨h, e⟩ := List.getElem?_eq_some_iff.1 hp
  rw [← e, List.set_getElem_self]

theorem interrupt_at (h : Tab w b g c now ps) (hp : ps[i]? = some p) :
    Calls Tryd.prog 47 #[.pointer (some ⟨b, 0, none⟩), .int .i64 i] w fun e w' => e = .returned .nilIface ∧ Turned w b g c now (ps.set i p.broken) w' := by
  have hc := thread_in h (at_lt hp)
  have c1 := h.p1 hp
  have f1 := h.free (i * 4 + 1)
  have h1 := (Turned.refl h).set 1 { p with flag := true } hp (by omega) rfl
  have hu := unblock_at h1.1 (set_at hp _)
  have H1 := Lib.hid h1
  clear h hp h1
  go_enter Tryd.func47, Tryd.ntmps47
  go_wp2_with fail
  refine (hc).mono ?_
  rintro e w1 ⟨rfl, rfl⟩
  go_wp2_with fail
  refine (hu).mono ?_
  rintro e w1 ⟨rfl, ht⟩
  rw [List.set_set] at ht
  go_wp2_with fail
  go_ret
  exact ⟨rfl, ht.1, H1.out.2.trans ht.2 (fun _ _ e => e)⟩

theorem clear_at (h : Tab w b g c now ps) (hp : ps[i]? = some p) :
    Calls Tryd.prog 61 #[.pointer (some ⟨b, 0, none⟩), .int .i64 i] w fun e w' => e = .returned (.tuple #[.bool p.flag, .nilIface]) ∧ Turned w b g c now (ps.set i p.clear) w' := by
  have hc := thread_in h (at_lt hp)
  have c1 := h.p1 hp
  have f1 := h.free (i * 4 + 1)
  have h1 := (Turned.refl h).set 1 p.clear hp (by omega) rfl
  have H1 := Lib.hid h1
  clear h hp h1
  generalize p.flag = fl at *
  go_enter Tryd.func61, Tryd.ntmps61
  go_wp2_with fail
  refine (hc).mono ?_
  rintro e w1 ⟨rfl, rfl⟩
  go_wp2_with fail
  go_ret2
  exact ⟨rfl, H1.out⟩

theorem unpark_at (h : Tab w b g c now ps) (hp : ps[i]? = some p) :
    Calls Tryd.prog 46 #[.pointer (some ⟨b, 0, none⟩), .int .i64 i] w fun e w' => e = .returned .nilIface ∧ Turned w b g c now (ps.set i p.unpark) w' := by
  have hc := thread_in h (at_lt hp)
  have c0 := h.p0 hp
  have c2 := h.p2 hp
  have f0 := h.free (i * 4)
  obtain ⟨pm, fl, bl, dl⟩ := p
  cases bl
  · have h1 : Turned w b g c now (ps.set i (Pk.unpark ⟨pm, fl, false, dl⟩)) (w.setCell ⟨g, i * 4, none⟩ (.bool true)) := (Turned.refl h).set 0 ⟨true, fl, false, dl⟩ hp (by omega) rfl
    have H1 := Lib.hid h1
    clear h hp h1
    go_enter Tryd.func46, Tryd.ntmps46
    go_wp2_with fail
    refine (hc).mono ?_
    rintro e w1 ⟨rfl, rfl⟩
    go_wp2_with fail
    go_ret
    exact ⟨rfl, H1.out⟩
  · have hu := unblock_at h hp
    clear h hp
    go_enter Tryd.func46, Tryd.ntmps46
    go_wp2_with fail
    refine (hc).mono ?_
    rintro e w1 ⟨rfl, rfl⟩
    go_wp2_with fail
    refine (hu).mono ?_
    rintro e w1 ⟨rfl, ht⟩
    go_wp2_with fail
    go_ret
    exact ⟨rfl, ht⟩

theorem park_arg (d : Int) (h : Tab w b g c now ps) (hp : ps[i]? = some p) (ha : p.blocked = true ∨ d < -1) :
    Calls Tryd.prog 54 #[.pointer (some ⟨b, 0, none⟩), .int .i64 i, .int .i64 d] w fun e w' => e = .returned (.tuple #[.bool false, .iface 42 (.int .i64 1)]) ∧ w = w' := by
  have hc := thread_in h (at_lt hp)
  have c2 := h.p2 hp
  clear h hp
  obtain ⟨pm, fl, bl, dl⟩ := p
  cases bl
  · have h2 : d < -1 := by simpa using ha
    clear ha
    go_enter Tryd.func54, Tryd.ntmps54
    go_wp2_with fail
    refine (hc).mono ?_
    rintro e w1 ⟨rfl, rfl⟩
    go_wp2_with fail
    go_ret2
    exact ⟨rfl, rfl⟩
  · clear ha
    go_enter Tryd.func54, Tryd.ntmps54
    go_wp2_with fail
    refine (hc).mono ?_
    rintro e w1 ⟨rfl, rfl⟩
    go_wp2_with fail
    go_ret2
    exact ⟨rfl, rfl⟩

theorem park_at (d : Int) (h : Tab w b g c now ps) (hp : ps[i]? = some p) (hb : p.blocked = false) (hd : -1 ≤ d) :
    Calls Tryd.prog 54 #[.pointer (some ⟨b, 0, none⟩), .int .i64 i, .int .i64 d] w fun e w' => e = .returned (.tuple #[.bool (p.parks now d), .nilIface]) ∧ Turned w b g c now (ps.set i (p.park now d)) w' := by
  have hc := thread_in h (at_lt hp)
  have c0 := h.p0 hp
  have c1 := h.p1 hp
  have c2 := h.p2 hp
  have c3 := h.p3 hp
  have f0 := h.free (i * 4)
  have f2 := h.free (i * 4 + 2)
  have f3 := h.free (i * 4 + 3)
  have t0 := h.c0
  have h2 : ¬ d < -1 := by omega
  obtain ⟨pm, fl, bl, dl⟩ := p
  obtain rfl : bl = false := hb
  clear hd
  cases pm
  · cases fl
    · have hq : ∀ r, dueF now d = r → Pk.parks now ⟨false, false, false, dl⟩ d = !r := by rintro r rfl; rfl
      cases hdue : dueF now d
      · have e1 := hq _ hdue
        have e2 : Pk.park now ⟨false, false, false, dl⟩ d = ⟨false, false, true, d⟩ := by simp [Pk.park, hdue]
        have h1 := ((Turned.refl h).set 2 ⟨false, false, true, dl⟩ hp (by omega) rfl).set 3 ⟨false, false, true, d⟩ (set_at hp _) (by omega) rfl
        rw [List.set_set] at h1
        rw [e1, e2]
        have H1 := Lib.hid h1
        have HD := Lib.hid hdue
        clear h hp hdue e1 e2 hq h1
        go_enter Tryd.func54, Tryd.ntmps54
        go_wp2_with fail
        refine (hc).mono ?_
        rintro e w1 ⟨rfl, rfl⟩
        go_wp2_with fail
        refine (due_any now d w false HD.out).mono ?_
        rintro e w1 ⟨rfl, rfl⟩
        go_wp2_with fail
        go_ret2
        exact ⟨rfl, H1.out⟩
      · have e1 := hq _ hdue
        have e2 : Pk.park now ⟨false, false, false, dl⟩ d = ⟨false, false, false, dl⟩ := by simp [Pk.park, hdue]
        rw [e1, e2, set_self hp]
        have H1 := Lib.hid (Turned.refl h)
        have HD := Lib.hid hdue
        clear h hp hdue e1 e2 hq
        go_enter Tryd.func54, Tryd.ntmps54
        go_wp2_with fail
        refine (hc).mono ?_
        rintro e w1 ⟨rfl, rfl⟩
        go_wp2_with fail
        refine (due_any now d w true HD.out).mono ?_
        rintro e w1 ⟨rfl, rfl⟩
        go_wp2_with fail
        go_ret2
        exact ⟨rfl, H1.out⟩
    · have e1 : Pk.parks now ⟨false, true, false, dl⟩ d = false := rfl
      have e2 : Pk.park now ⟨false, true, false, dl⟩ d = ⟨false, true, false, dl⟩ := rfl
      rw [e1, e2, set_self hp]
      have H1 := Lib.hid (Turned.refl h)
      clear h hp e1 e2
      go_enter Tryd.func54, Tryd.ntmps54
      go_wp2_with fail
      refine (hc).mono ?_
      rintro e w1 ⟨rfl, rfl⟩
      go_wp2_with fail
      go_ret2
      exact ⟨rfl, H1.out⟩
  · have e1 : Pk.parks now ⟨true, fl, false, dl⟩ d = false := rfl
    have h1 : Turned w b g c now (ps.set i (Pk.park now ⟨true, fl, false, dl⟩ d)) (w.setCell ⟨g, i * 4, none⟩ (.bool false)) := (Turned.refl h).set 0 ⟨false, fl, false, dl⟩ hp (by omega) rfl
    rw [e1]
    have H1 := Lib.hid h1
    clear h hp e1 h1
    go_enter Tryd.func54, Tryd.ntmps54
    go_wp2_with fail
    refine (hc).mono ?_
    rintro e w1 ⟨rfl, rfl⟩
    go_wp2_with fail
    go_ret2
    exact ⟨rfl, H1.out⟩
end

end Go.Proofs.YtdkableaooaebaaDoor
