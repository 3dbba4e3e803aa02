/-
  A table beside its model; the helpers pick and up of layer 3's statements.
  Conditions: pick's second argument is at least 1.
-/
import Derived.Test.YtdphbigkgdeecaaTable
import Derived.Test.YtdphbigkgdeecaaEql
namespace Go.Proofs.Ytdphbigkgdeecaa
open Go.RowKit

def pickF (c n : Int) : Int := (if c < 0 then -(c + 1) else c) % n

theorem pickF_in (c n : Int) (hn : 1 ≤ n) : 0 ≤ pickF c n ∧ pickF c n < n := by
  unfold pickF; exact ⟨Int.emod_nonneg _ (by omega), Int.emod_lt_of_pos _ (by omega)⟩

theorem pick_any (c n : Int) (w : World) (h1 : -9223372036854775808 ≤ c) (h2 : c ≤ 9223372036854775807) (hn : 1 ≤ n) (hn2 : n ≤ 9223372036854775807) :
    Calls Try.prog 11 #[.int .i64 c, .int .i64 n] w fun e w' => e = .returned (.int .i64 (pickF c n)) ∧ w = w' := by
  by_cases h : c < 0
  · have h3 : 0 ≤ -(c + 1) := by omega
    have hh : pickF c n = -((c + 1).tmod n) := by unfold pickF; rw [if_pos h, ← Int.tmod_eq_emod_of_nonneg h3, Int.neg_tmod]
    have HH := Lib.hid hh; clear hh
    go_enter Try.func11, Try.ntmps11
    go_wp2
    go_ret
    exact ⟨by rw [HH.out]; try rfl, rfl⟩
  · have h3 : 0 ≤ c := by omega
    have hh : pickF c n = c % n := by unfold pickF; rw [if_neg h]
    have HH := Lib.hid hh; clear hh
    go_enter Try.func11, Try.ntmps11
    go_wp2
    go_ret
    exact ⟨by rw [HH.out]; try rfl, rfl⟩

/-- The blocks of a table and of its model. -/
def Foot (b g mb mg k : Nat) : Prop := k = b ∨ k = g ∨ k = mb ∨ k = mg

structure Both (w : World) (b g c mb mg mc : Nat) (now : Int) (ps : List Pk) : Prop where
  tab : Tab w b g c now ps
  ref : Ref w mb mg mc now ps
  ne1 : b ≠ mb
  ne2 : b ≠ mg
  ne3 : g ≠ mb
  ne4 : g ≠ mg

section
variable {w w' : World} {b g c mb mg mc : Nat} {now : Int} {ps : List Pk}
theorem Both.lt (h : Both w b g c mb mg mc now ps) {k : Nat} (hk : Foot b g mb mg k) : k < w.heap.size := by
  rcases hk with rfl | rfl | rfl | rfl
  · exact h.tab.lt.1
  · exact h.tab.lt.2
  · exact h.ref.lt.1
  · exact h.ref.lt.2
theorem Both.kept {S : Nat → Prop} (h : Both w b g c mb mg mc now ps) (hk : Kept S w w') (hS : ∀ k, Foot b g mb mg k → ¬ S k) : Both w' b g c mb mg mc now ps :=
  ⟨h.tab.kept hk (hS b (.inl rfl)) (hS g (.inr (.inl rfl))), h.ref.kept hk (hS mb (.inr (.inr (.inl rfl)))) (hS mg (.inr (.inr (.inr rfl)))), h.ne1, h.ne2, h.ne3, h.ne4⟩
theorem Kept.drawn {S : Nat → Prop} {a b : World} (h : Kept S a b) (n : Nat) : Kept S a (b.drewN n) := ⟨h.os, h.tape, h.output, h.size, h.block⟩
theorem Both.off (h : Both w b g c mb mg mc now ps) (hk : Kept (fun _ => False) w w') : Both w' b g c mb mg mc now ps := h.kept hk (fun _ _ f => f)

/-- The table has turned, and its model likewise. -/
theorem Both.turn {ps' : List Pk} {w1 w2 : World} (h : Both w b g c mb mg mc now ps) (ht : Turned w b g c now ps' w1) (hr : Ref w1 mb mg mc now ps → TurnedRef w1 mb mg mc now ps' w2) : Both w2 b g c mb mg mc now ps' ∧ Kept (Foot b g mb mg) w w2 := by
  have h1 := h.ref.kept ht.2 (fun e => h.ne3 e.symm) (fun e => h.ne4 e.symm)
  have h2 := hr h1
  refine ⟨⟨ht.1.kept h2.2 h.ne2 h.ne4, h2.1, h.ne1, h.ne2, h.ne3, h.ne4⟩, (ht.2.mono (fun _ _ e => .inr (.inl e))).trans h2.2 (fun _ _ e => .inr (.inr (.inr e)))⟩
end

theorem codes_eq (w : World) (a b : Int) : (binOp .eql 26 (.iface 29 (.int .i64 a)) (.iface 29 (.int .i64 b))).run Try.prog w = .ok (.bool (a == b)) w := eql_codes w a b

theorem neq_same (a : Int) (w : World) : (binOp .neq 26 (.iface 29 (.int .i64 a)) (.iface 29 (.int .i64 a))).run Try.prog w = .ok (.bool false) w := by
  have h := codes_eq w a a
  simp only [binOp] at h ⊢
  simp only [Sem.run_bind, Sem.run_pure] at h ⊢
  cases hr : (Op.equal 26 (.iface 29 (.int .i64 a)) (.iface 29 (.int .i64 a))).run Try.prog w with
  | ok b w' => rw [hr] at h; simp [Result.andThen] at h ⊢; exact ⟨h.1, h.2⟩
  | halt x w' => rw [hr] at h; simp [Result.andThen] at h

set_option maxHeartbeats 400000 in
theorem up_any (w : World) : Calls Try.prog 7 #[] w fun e w' => e = .returned (.bool true) ∧ Kept (fun _ => False) w w' := by
  have hq := codes_eq
  go_enter Try.func7, Try.ntmps7
  go_wp2_with fail
  refine (new_in 1 w (by omega) (by omega)).mono ?_
  rintro e w1 ⟨b, g, rfl, hb, hg, hT, hk⟩
  have hps : List.replicate 1 Pk.zero = [⟨false, false, false, 0⟩] := rfl
  rw [hps] at hT
  clear hps
  go_wp2_with fail
  refine (unpark_at (i := 0) hT rfl).mono ?_
  rintro e w2 ⟨rfl, ht2⟩
  replace ht2 : Turned w1 b g 1 0 [⟨true, false, false, 0⟩] w2 := ht2
  go_wp2_with fail
  refine (unpark_at (i := 0) ht2.1 rfl).mono ?_
  rintro e w3 ⟨rfl, ht3⟩
  replace ht3 : Turned w2 b g 1 0 [⟨true, false, false, 0⟩] w3 := ht3
  go_wp2_with fail
  refine (park_at (i := 0) (-1) ht3.1 rfl rfl (by omega)).mono ?_
  rintro e w4 ⟨rfl, ht4⟩
  replace ht4 : Turned w3 b g 1 0 [⟨false, false, false, 0⟩] w4 := ht4
  rw [show Pk.parks 0 ⟨true, false, false, 0⟩ (-1) = false from rfl]
  go_wp2_with fail
  refine (park_at (i := 0) (-1) ht4.1 rfl rfl (by omega)).mono ?_
  rintro e w5 ⟨rfl, ht5⟩
  rw [show Pk.parks 0 ⟨false, false, false, 0⟩ (-1) = true from by decide]
  go_wp2_with fail
  refine (new_out 0 w5 (by omega)).mono ?_
  rintro e w6 ⟨rfl, rfl⟩
  go_wp2_with fail
  go_ret
  have hs := hk.size
  refine ⟨rfl, (((hk.trans (T := fun k => k = g) ht2.2 ?_).trans (T := fun k => k = g) ht3.2 ?_).trans (T := fun k => k = g) ht4.2 ?_).trans (T := fun k => k = g) ht5.2 ?_⟩
  all_goals intro i hi e; omega

end Go.Proofs.Ytdphbigkgdeecaa
