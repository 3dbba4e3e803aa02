/-
  The statements' own test of layer 3: a table that stands as its model does is found alike.
  Conditions: the blocks given hold a table and a model that stand alike.
-/
import Derived.Test.YtdphbigkgdeecaaBoth
import Derived.LoopTactic
import Derived.Deep.QuietTactic
import Derived.BigQuiet
import Derived.Outline
namespace Go.Proofs.Ytdphbigkgdeecaa
open Go.RowKit
set_option linter.unusedVariables false

section
variable {w : World} {b g c mb mg mc : Nat} {now : Int} {ps : List Pk} {t n : Int}

set_option maxHeartbeats 2000000 in
set_option maxRecDepth 100000 in
theorem alike_any (hB : Both w b g c mb mg mc now ps) :
    Calls Try.prog 10 #[.pointer (some ⟨b, 0, none⟩), .pointer (some ⟨mb, 0, none⟩)] w fun e w' => e = .returned (.bool true) ∧ Kept (fun _ => False) w w' := by
  have hl := hB.tab.2.2.2
  have HB := Lib.hid hB; clear hB
  have he := codes_eq
  have hep := eq_parks
  have hne4 : ∀ w : World, (binOp .neq 26 (.iface 29 (.int .i64 4)) (.iface 29 (.int .i64 4))).run Try.prog w = .ok (.bool false) w := neq_same 4
  have hm := guard_park
  go_enter Try.func10, Try.ntmps10
  go_wp2_with fail
  go_loopw [5] (fun i wr => ∃ k : Int, i = .int .i64 k ∧ -1 ≤ k ∧ k ≤ ps.length + 1 ∧ Kept (fun _ => False) w wr) (fun i _ => (ps.length + 1 - intOf i).toNat)
  case atStart => exact ⟨-1, rfl, by omega, by omega, Kept.refl _ _⟩
  case round =>
    obtain ⟨k, rfl, hk0, hk1, hk⟩ := hrel
    have hB := HB.out.off hk
    have r0 := hB.ref.c0
    have HB1 := Lib.hid hB; clear hB
    have HK := Lib.hid hk; clear hk
    by_cases hk2 : k ≤ ps.length
    · by_cases hk3 : 0 ≤ k ∧ k < (ps.length : Int)
      · obtain ⟨j, rfl⟩ : ∃ j : Nat, k = j := ⟨k.toNat, by omega⟩
        obtain ⟨p, hp⟩ : ∃ p, ps[j]? = some p := ⟨_, List.getElem?_eq_getElem (by omega)⟩
        have hj : j < ps.length := at_lt hp
        have i1 : decide ((j : Int) < 0) = false := by simp
        have i2 : decide ((ps.length : Int) ≤ (j : Int)) = false := by simp; omega
        have i3 : (j : Int) < (ps.length : Int) := by omega
        clear hk0 hk1 hk2 hk3
        go_wp2_with fail
        refine (at_in HB1.out.tab hp).mono ?_
        rintro e w2 ⟨rfl, hk'⟩
        have hr := (HB1.out.off hk').ref
        have r1 := hr.c0
        have hz := hk'.size
        have hmb := hr.lt.1
        have hmg := hr.lt.2
        have q0 := hr.p0 hp
        have q1 := hr.p1 hp
        have q2 := hr.p2 hp
        have q3 := hr.p3 hp
        have HK' := Lib.hid hk'; clear hk' r0 hr hp
        unfold Pk.agg
        obtain ⟨pm, fl, bl, dl⟩ := p
        go_wp2_with fail
        go_quiet (fail)
        go_wp2_with fail
        go_roundw
        case rel => exact ⟨_, rfl, by omega, by omega, ((HK.out.trans HK'.out (fun _ _ f => f)).alloc _).drawn _⟩
        case measure => simp [intOf]; omega
      · have HK3 := Lib.hid hk3; clear hk3
        go_wp2_with fail
        refine (at_out HB1.out.tab HK3.out).mono ?_
        rintro e w2 ⟨rfl, hk'⟩
        unfold Pk.zero Pk.agg
        have r1 := (HB1.out.off hk').ref.c0
        have hz := hk'.size
        have hmb : mb < w2.heap.size := by have := HB1.out.ref.lt.1; omega
        have HK' := Lib.hid hk'; clear hk' r0
        by_cases hk4 : k < 0
        · go_wp2_with fail
          go_roundw
          case rel => exact ⟨_, rfl, by omega, by omega, (HK.out.trans HK'.out (fun _ _ f => f)).alloc _⟩
          case measure => simp [intOf]; omega
        · have hk5 : (ps.length : Int) ≤ k := by have := HK3.out; omega
          have hk6 : decide (k < 0) = false := by simpa using hk4
          go_wp2_with fail
          go_roundw
          case rel => exact ⟨_, rfl, by omega, by omega, (HK.out.trans HK'.out (fun _ _ f => f)).alloc _⟩
          case measure => simp [intOf]; omega
    · obtain rfl : k = ps.length + 1 := by omega
      have c0 := HB1.out.ref.c1
      have hnow : ∀ k, Calls Try.prog 13 #[.pointer (some ⟨b, 0, none⟩)] (wr.drewN k) fun e w' => e = .returned (.int .i64 now) ∧ w' = wr.drewN k := fun k => (now_at (HB1.out.off ((Kept.refl (fun _ => False) wr).drawn k)).tab).mono fun _ _ h => ⟨h.1, h.2.symm⟩
      have k1 : decide ((ps.length : Int) + 1 ≤ (ps.length : Int)) = false := by simp; omega
      clear hk0 hk1 hk2
      go_wp2_with fail
      go_quiet ((go_at_call 13; exact Calls.quiet_of_same (hnow _)))
      go_wp2_with fail
      go_ret
      exact ⟨rfl, HK.out.drawn _⟩

end
end Go.Proofs.Ytdphbigkgdeecaa
