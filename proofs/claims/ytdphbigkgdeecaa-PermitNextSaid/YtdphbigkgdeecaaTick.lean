/-
  What the call Tick comes to, of package permit's table and of the model's.
  Conditions: the blocks given hold a table whose time is 0 to 2^63 - 1.
-/
import Derived.Test.YtdphbigkgdeecaaRef
import Derived.LoopTactic
namespace Go.Proofs.Ytdphbigkgdeecaa
open Go.RowKit

/-- What a thread is when time has passed. -/
def Pk.tick (now : Int) (p : Pk) : Pk := if p.blocked && dueF now p.deadline then p.on else p
/-- The first k threads have seen the time. -/
def ticked (now : Int) (ps : List Pk) (k : Nat) : List Pk := (ps.take k).map (Pk.tick now) ++ ps.drop k

theorem ticked_zero (now : Int) (ps : List Pk) : ticked now ps 0 = ps := by simp [ticked]
theorem ticked_all (now : Int) (ps : List Pk) (k : Nat) (h : ps.length ≤ k) : ticked now ps k = ps.map (Pk.tick now) := by simp [ticked, List.take_of_length_le h, List.drop_of_length_le h]
theorem ticked_len (now : Int) (ps : List Pk) (k : Nat) : (ticked now ps k).length = ps.length := by simp [ticked]; omega
theorem ticked_at (now : Int) (ps : List Pk) (k : Nat) (p : Pk) (h : ps[k]? = some p) : (ticked now ps k)[k]? = some p := by
  have hk := at_lt h
  rw [ticked, List.getElem?_append_right (by simp; omega)]
  simp [Nat.min_eq_left (Nat.le_of_lt hk), h]
theorem ticked_set (now : Int) (ps : List Pk) (k : Nat) (p : Pk) (h : ps[k]? = some p) : (ticked now ps k).set k (p.tick now) = ticked now ps (k + 1) := by
  obtain ⟨hk, e⟩ := List.getElem?_eq_some_iff.1 h
  have h1 : ((ps.take k).map (Pk.tick now)).length = k := by simp; omega
  rw [ticked, List.set_append_right _ _ (by omega), h1, Nat.sub_self, List.drop_eq_getElem_cons hk, List.set_cons_zero, ticked, List.take_succ_eq_append_getElem hk, e]
  simp

section
variable {w : World} {b g c : Nat} {now : Int} {ps : List Pk}

theorem Tab.setNow (h : Tab w b g c now ps) (n : Int) : Tab (w.setCell ⟨b, 0, none⟩ (.int .i64 n)) b g c n ps := by
  have hk : Kept (fun k => k = b) w (w.setCell ⟨b, 0, none⟩ (.int .i64 n)) := (Kept.refl _ _).setCell _ _ (fun _ => rfl)
  refine ⟨?_, h.2.1.kept hk h.2.2.1, h.2.2⟩
  simp only [World.setCell, Array.getElem?_modify]
  simp [h.1]

theorem Ref.setNow (h : Ref w b g c now ps) (n : Int) : Ref (w.setCell ⟨b, 1, none⟩ (.int .i64 n)) b g c n ps := by
  have hk : Kept (fun k => k = b) w (w.setCell ⟨b, 1, none⟩ (.int .i64 n)) := (Kept.refl _ _).setCell _ _ (fun _ => rfl)
  refine ⟨?_, h.2.1.kept hk h.2.2.1, h.2.2⟩
  simp only [World.setCell, Array.getElem?_modify]
  simp [h.1]

theorem tick_arg (n : Int) (h : Tab w b g c now ps) (hn : n < 0) :
    Calls Try.prog 16 #[.pointer (some ⟨b, 0, none⟩), .int .i64 n] w fun e w' => e = .returned (.iface 29 (.int .i64 1)) ∧ w = w' := by
  have c0 := h.c0
  clear h
  go_enter Try.func16, Try.ntmps16
  go_wp2_with fail
  refine (add_bad now n w (.inr hn)).mono ?_
  rintro e w1 ⟨rfl, rfl⟩
  go_wp2_with fail
  go_ret
  exact ⟨rfl, rfl⟩

/-- What Tick leaves. -/
def Ticked (w : World) (b g c : Nat) (now : Int) (ps : List Pk) (w' : World) : Prop := Tab w' b g c now ps ∧ Kept (fun k => k = b ∨ k = g) w w'
def TickedRef (w : World) (b g c : Nat) (now : Int) (ps : List Pk) (w' : World) : Prop := Ref w' b g c now ps ∧ Kept (fun k => k = b ∨ k = g) w w'

theorem Ticked.turn {w' w2 : World} {ps' : List Pk} (h : Ticked w b g c now ps w') (ht : Turned w' b g c now ps' w2) : Ticked w b g c now ps' w2 := ⟨ht.1, h.2.trans ht.2 (fun _ _ e => .inr e)⟩
theorem TickedRef.turn {w' w2 : World} {ps' : List Pk} (h : TickedRef w b g c now ps w') (ht : TurnedRef w' b g c now ps' w2) : TickedRef w b g c now ps' w2 := ⟨ht.1, h.2.trans ht.2 (fun _ _ e => .inr e)⟩

theorem tick_at (n : Int) (h : Tab w b g c now ps) (hn0 : 0 ≤ now) (hn1 : now ≤ 9223372036854775807) (hn : 0 ≤ n) (hm : n ≤ 9223372036854775807) (r : Int) (hr : laterF now n = r) :
    Calls Try.prog 16 #[.pointer (some ⟨b, 0, none⟩), .int .i64 n] w fun e w' => e = .returned .nilIface ∧ Ticked w b g c r (ps.map (Pk.tick r)) w' := by
  have c0 := h.c0
  have f0 := h.f0
  have h1 := h.setNow r
  have hq : Ticked w b g c r (ticked r ps 0) (w.setCell ⟨b, 0, none⟩ (.int .i64 r)) := by
    rw [ticked_zero]
    exact ⟨h1, (Kept.refl _ _).setCell _ _ (fun _ => .inl rfl)⟩
  have c1 := h1.c1
  have hl := h.2.2.2
  have HR := Lib.hid hr
  clear h h1 hr
  go_enter Try.func16, Try.ntmps16
  go_wp2_with fail
  refine (add_ok now n w hn0 hn1 hn hm r HR.out).mono ?_
  rintro e w1 ⟨rfl, rfl⟩
  go_wp2_with fail
  have HQ := Lib.hid hq
  clear hq c0 c1 f0
  go_loopw [30] (fun i wr => ∃ k : Nat, i = .int .i64 k ∧ k ≤ ps.length ∧ Ticked w b g c r (ticked r ps k) wr) (fun i _ => ps.length - (intOf i).toNat)
  case atStart => exact ⟨0, rfl, by omega, HQ.out⟩
  case round =>
    clear HQ
    obtain ⟨k, rfl, hk, hT⟩ := hrel
    by_cases hk1 : k < ps.length
    · obtain ⟨p, hp⟩ : ∃ p, ps[k]? = some p := ⟨_, List.getElem?_eq_getElem hk1⟩
      have hp' := ticked_at r ps k p hp
      have hst := ticked_set r ps k p hp
      have hlen := ticked_len r ps k
      have d1 := hT.1.c1
      rw [hlen] at d1
      have d2 := hT.1.p2 hp'
      have d3 := hT.1.p3 hp'
      have hon := unblock_at hT.1 hp'
      have HON := Lib.hid hon
      have HT := Lib.hid hT
      have HP := Lib.hid hp'
      have HST := Lib.hid hst
      clear hon hT hp' hst hp hlen
      obtain ⟨pm, fl, bl, dl⟩ := p
      cases bl
      · go_wp2_with fail
        go_roundw
        case rel => exact ⟨k + 1, by go_num, by omega, by rw [← HST.out, show Pk.tick r ⟨pm, fl, false, dl⟩ = ⟨pm, fl, false, dl⟩ from rfl, set_self HP.out]; exact HT.out⟩
        case measure => simp [intOf]; omega
      · cases hdue : dueF r dl
        · have HD := Lib.hid hdue
          have hz : Pk.tick r ⟨pm, fl, true, dl⟩ = ⟨pm, fl, true, dl⟩ := by simp [Pk.tick, hdue]
          have HZ := Lib.hid hz
          clear hdue hz
          go_wp2_with fail
          refine (due_any r dl _ false HD.out).mono ?_
          rintro e w2 ⟨rfl, rfl⟩
          go_wp2_with fail
          go_roundw
          case rel => exact ⟨k + 1, by go_num, by omega, by rw [← HST.out, HZ.out, set_self HP.out]; exact HT.out⟩
          case measure => simp [intOf]; omega
        · have HD := Lib.hid hdue
          have hz : Pk.tick r ⟨pm, fl, true, dl⟩ = Pk.on ⟨pm, fl, true, dl⟩ := by simp [Pk.tick, hdue]
          have HZ := Lib.hid hz
          clear hdue hz
          go_wp2_with fail
          refine (due_any r dl _ true HD.out).mono ?_
          rintro e w2 ⟨rfl, rfl⟩
          go_wp2_with fail
          refine HON.out.mono ?_
          rintro e w2 ⟨rfl, ht⟩
          have HT2 := Lib.hid ht
          clear ht d1 d2 d3
          go_wp2_with fail
          go_roundw
          case rel => exact ⟨k + 1, by go_num, by omega, by rw [← HST.out, HZ.out]; exact HT.out.turn HT2.out⟩
          case measure => simp [intOf]; omega
    · rw [ticked_all r ps k (by omega)] at hT
      go_wp2_with fail
      go_ret
      exact ⟨rfl, hT⟩

theorem ref_tick (n : Int) (h : Ref w b g c now ps) (hn0 : 0 ≤ now) (hn1 : now ≤ 9223372036854775807) (hn : 0 ≤ n) (hm : n ≤ 9223372036854775807) (r : Int) (hr : laterF now n = r) :
    Calls Try.prog 24 #[.pointer (some ⟨b, 0, none⟩), .int .i64 n] w fun e w' => e = .returned (.tuple #[]) ∧ TickedRef w b g c r (ps.map (Pk.tick r)) w' := by
  have c1 := h.c1
  have f1 := h.f1
  have h1 := h.setNow r
  have hq : TickedRef w b g c r (ticked r ps 0) (w.setCell ⟨b, 1, none⟩ (.int .i64 r)) := by
    rw [ticked_zero]
    exact ⟨h1, (Kept.refl _ _).setCell _ _ (fun _ => .inl rfl)⟩
  have hl := h.2.2.2
  have HR := Lib.hid hr
  have HQ := Lib.hid hq
  clear h h1 hr hq
  by_cases hc : 9223372036854775807 - now < n
  · obtain rfl : r = 9223372036854775807 := HR.out.symm.trans (if_pos hc)
    clear HR
    go_enter Try.func24, Try.ntmps24
    go_wp2_with fail
    clear c1 f1
    go_loopw [4] (fun i wr => ∃ k : Nat, i = .int .i64 k ∧ k ≤ ps.length ∧ TickedRef w b g c (9223372036854775807) (ticked (9223372036854775807) ps k) wr) (fun i _ => ps.length - (intOf i).toNat)
    case atStart => exact ⟨0, rfl, by omega, HQ.out⟩
    case round =>
      clear HQ
      obtain ⟨k, rfl, hk, hT⟩ := hrel
      by_cases hk1 : k < ps.length
      · obtain ⟨p, hp⟩ : ∃ p, ps[k]? = some p := ⟨_, List.getElem?_eq_getElem hk1⟩
        have hp' := ticked_at 9223372036854775807 ps k p hp
        have hst := ticked_set 9223372036854775807 ps k p hp
        have hlen := ticked_len 9223372036854775807 ps k
        have d1 := hT.1.c0
        rw [hlen] at d1
        have d2 := hT.1.p2 hp'
        have d3 := hT.1.p3 hp'
        have HON := Lib.hid (ref_on hT.1 hp')
        have HDU := Lib.hid (fun q => ref_due (w := wr) p.deadline q hT.1)
        have HT := Lib.hid hT
        have HP := Lib.hid hp'
        have HST := Lib.hid hst
        clear hT hp' hst hp hlen
        obtain ⟨pm, fl, bl, dl⟩ := p
        cases hdue : dueF 9223372036854775807 dl
        · have HD := Lib.hid hdue
          have hz : Pk.tick 9223372036854775807 ⟨pm, fl, bl, dl⟩ = ⟨pm, fl, bl, dl⟩ := by simp [Pk.tick, hdue]
          have HZ := Lib.hid hz
          clear hdue hz
          cases bl
          all_goals
            go_wp2_with fail
            refine (HDU.out _ HD.out).mono ?_
            rintro e w2 ⟨rfl, rfl⟩
            go_wp2_with fail
            go_roundw
            case rel => exact ⟨k + 1, by go_num, by omega, by rw [← HST.out, HZ.out, set_self HP.out]; exact HT.out⟩
            case measure => simp [intOf]; omega
        · have HD := Lib.hid hdue
          cases bl
          · clear hdue
            go_wp2_with fail
            refine (HDU.out _ HD.out).mono ?_
            rintro e w2 ⟨rfl, rfl⟩
            go_wp2_with fail
            go_roundw
            case rel => exact ⟨k + 1, by go_num, by omega, by rw [← HST.out, show Pk.tick 9223372036854775807 ⟨pm, fl, false, dl⟩ = ⟨pm, fl, false, dl⟩ from rfl, set_self HP.out]; exact HT.out⟩
            case measure => simp [intOf]; omega
          · have hz : Pk.tick 9223372036854775807 ⟨pm, fl, true, dl⟩ = Pk.on ⟨pm, fl, true, dl⟩ := by simp [Pk.tick, hdue]
            have HZ := Lib.hid hz
            clear hdue hz
            go_wp2_with fail
            refine (HDU.out _ HD.out).mono ?_
            rintro e w2 ⟨rfl, rfl⟩
            go_wp2_with fail
            refine HON.out.mono ?_
            rintro e w2 ⟨rfl, ht⟩
            have HT2 := Lib.hid ht
            clear ht d1 d2 d3
            go_wp2_with fail
            go_roundw
            case rel => exact ⟨k + 1, by go_num, by omega, by rw [← HST.out, HZ.out]; exact HT.out.turn HT2.out⟩
            case measure => simp [intOf]; omega
      · rw [ticked_all _ ps k (by omega)] at hT
        have d1 := hT.1.c0
        rw [List.length_map] at d1
        have HT := Lib.hid hT
        clear hT
        go_wp2_with fail
        go_end0
        exact ⟨rfl, HT.out⟩
  · obtain rfl : r = (now + n) := HR.out.symm.trans (if_neg hc)
    clear HR
    go_enter Try.func24, Try.ntmps24
    go_wp2_with fail
    clear c1 f1
    go_loopw [4] (fun i wr => ∃ k : Nat, i = .int .i64 k ∧ k ≤ ps.length ∧ TickedRef w b g c ((now + n)) (ticked ((now + n)) ps k) wr) (fun i _ => ps.length - (intOf i).toNat)
    case atStart => exact ⟨0, rfl, by omega, HQ.out⟩
    case round =>
      clear HQ
      obtain ⟨k, rfl, hk, hT⟩ := hrel
      by_cases hk1 : k < ps.length
      · obtain ⟨p, hp⟩ : ∃ p, ps[k]? = some p := ⟨_, List.getElem?_eq_getElem hk1⟩
        have hp' := ticked_at (now + n) ps k p hp
        have hst := ticked_set (now + n) ps k p hp
        have hlen := ticked_len (now + n) ps k
        have d1 := hT.1.c0
        rw [hlen] at d1
        have d2 := hT.1.p2 hp'
        have d3 := hT.1.p3 hp'
        have HON := Lib.hid (ref_on hT.1 hp')
        have HDU := Lib.hid (fun q => ref_due (w := wr) p.deadline q hT.1)
        have HT := Lib.hid hT
        have HP := Lib.hid hp'
        have HST := Lib.hid hst
        clear hT hp' hst hp hlen
        obtain ⟨pm, fl, bl, dl⟩ := p
        cases hdue : dueF (now + n) dl
        · have HD := Lib.hid hdue
          have hz : Pk.tick (now + n) ⟨pm, fl, bl, dl⟩ = ⟨pm, fl, bl, dl⟩ := by simp [Pk.tick, hdue]
          have HZ := Lib.hid hz
          clear hdue hz
          cases bl
          all_goals
            go_wp2_with fail
            refine (HDU.out _ HD.out).mono ?_
            rintro e w2 ⟨rfl, rfl⟩
            go_wp2_with fail
            go_roundw
            case rel => exact ⟨k + 1, by go_num, by omega, by rw [← HST.out, HZ.out, set_self HP.out]; exact HT.out⟩
            case measure => simp [intOf]; omega
        · have HD := Lib.hid hdue
          cases bl
          · clear hdue
            go_wp2_with fail
            refine (HDU.out _ HD.out).mono ?_
            rintro e w2 ⟨rfl, rfl⟩
            go_wp2_with fail
            go_roundw
            case rel => exact ⟨k + 1, by go_num, by omega, by rw [← HST.out, show Pk.tick (now + n) ⟨pm, fl, false, dl⟩ = ⟨pm, fl, false, dl⟩ from rfl, set_self HP.out]; exact HT.out⟩
            case measure => simp [intOf]; omega
          · have hz : Pk.tick (now + n) ⟨pm, fl, true, dl⟩ = Pk.on ⟨pm, fl, true, dl⟩ := by simp [Pk.tick, hdue]
            have HZ := Lib.hid hz
            clear hdue hz
            go_wp2_with fail
            refine (HDU.out _ HD.out).mono ?_
            rintro e w2 ⟨rfl, rfl⟩
            go_wp2_with fail
            refine HON.out.mono ?_
            rintro e w2 ⟨rfl, ht⟩
            have HT2 := Lib.hid ht
            clear ht d1 d2 d3
            go_wp2_with fail
            go_roundw
            case rel => exact ⟨k + 1, by go_num, by omega, by rw [← HST.out, HZ.out]; exact HT.out.turn HT2.out⟩
            case measure => simp [intOf]; omega
      · rw [ticked_all _ ps k (by omega)] at hT
        have d1 := hT.1.c0
        rw [List.length_map] at d1
        have HT := Lib.hid hT
        clear hT
        go_wp2_with fail
        go_end0
        exact ⟨rfl, HT.out⟩

end

end Go.Proofs.Ytdphbigkgdeecaa
