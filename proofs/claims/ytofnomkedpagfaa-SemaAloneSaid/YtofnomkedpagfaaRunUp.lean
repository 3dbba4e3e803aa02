/-
  A Sema as a kind of objects of Plays.
  Conditions: 0 to 1000 permits.
  Layer 14's Plays at a Sema, and the document's example.
  Conditions: 0 to 1000 permits.
-/
import Derived.Test.YtofnomkedpagfaaPlays14
import Derived.Test.YtofnomkedpagfaaRunAsm
import Derived.Test.YtofnomkedpagfaaPlaysW
section
namespace Go.Proofs.Ytofnomkedpagfaa
open Go.RowKit
set_option linter.unusedVariables false

noncomputable def semaK (N0 : Int) (fair : Bool) : Kd Int :=
  { kind := 2, fair := fair, n0 := N0, code := semaCode, ent := entS, pc := fun k => entP k, zs := fun N => laidZ 2 N fair, ps := fun _ => pks8, cs := fun N => idleC 2 N,
    ok := fun _ N => 0 ≤ N ∧ N ≤ 1000, s0 := N0, next := fun N _ k n => (semaX k n N).1, want := fun N _ k n => [(semaX k n N).2.1], val := fun N _ k n => (semaX k n N).2.2 }
theorem of_two {k : Int} (h : ofI k = 2) : k = 4 ∨ k = 5 ∨ k = 6 ∨ k = 7 := by
  unfold ofI at h
  repeat' split at h
  all_goals omega
theorem valid_two {k n : Int} (h : Valid 2 k n) : (k = 4 ∨ k = 5 ∨ k = 6 ∨ k = 7) ∧ (k = 7 ∧ n = 0 ∨ k ≠ 7 ∧ 1 ≤ n) ∧ n ≤ 1000 := by
  obtain ⟨h1, h2, h3, h4, h5⟩ := h
  have := of_two h1
  refine ⟨this, ?_, h3⟩
  omega
theorem semaK_ok {N0 : Int} {fair : Bool} (h0 : 0 ≤ N0) (h1 : N0 ≤ 1000) : KdOk (semaK N0 fair) where
  zs0 := rfl
  ps0 := rfl
  cs0 := rfl
  ok0 := ⟨h0, h1⟩
  p8 := fun _ _ _ => rfl
  len := fun _ => rfl
  one := fun s => idle_one 2 s
  skip := fun _ _ h => h
  next := fun i s t k n hi hok ht hV => by
    have hv := valid_two hV
    exact semaX_range hok.1 hok.2 (by omega)
  few := fun _ _ _ _ => by show 1 ≤ 100; decide
  run := fun i s t k n hi hok ht hV => by
    have hv := valid_two hV
    obtain ⟨x, ⟨u, h, hz, hp⟩, hxk, hxv, hx0, hx1⟩ := sema_run k n s t ht fair hv.1 hv.2.1 hv.2.2 hok.1 hok.2
    refine ⟨[x], u, h, hz, hp, rfl, fun i a b ha hb => ?_⟩
    match i, ha, hb with
    | 0, ha, hb =>
      obtain rfl : x = a := by simpa using ha
      obtain rfl : (semaX k n s).2.1 = b := by simpa [semaK] using hb
      exact ⟨hxk, hxv, by omega, by omega⟩
    | i + 1, ha, hb => simp at ha
  entry := fun k w hk => entry_any k (of_two hk) w
  expect := fun i s t k n o wt br w hi hok ht hV => by
    have hv := valid_two hV
    refine (expect_any k o n wt s br t ht w hv.1 (by omega) hok.1 hok.2).mono ?_
    rintro e w' ⟨a, rfl, hE, hk⟩
    exact ⟨_, _, rfl, hE, hk⟩

theorem code_len : semaCode.length = 254 := by kernel_rfl
theorem elems_ix {w : World} {B : Nat} {s : Option Addr} {c : List Ln} (h : Elems w B s 5 insC c) : Elems w B s 5 Ix.cells (c.map toIx) :=
  ⟨by rw [List.length_map]; exact h.1, fun i x hx => by
    rw [List.getElem?_map] at hx
    obtain ⟨y, hy, rfl⟩ := Option.map_eq_some_iff.1 hx
    exact h.2 i y hy⟩
theorem asm_coded (N0 : Int) (fair : Bool) (w : World) (sl : Option Addr) (cap : Nat) (hE : Elems w w.heap.size sl 1 sC textsS) :
    Calls Try.prog 8 #[.slice sl 3 cap] w fun e w' => ∃ (so lo : Option Addr) (cc lc ll : Nat) (l : Labs), e = .returned (.tuple #[.slice so 254 cc, .slice lo ll lc, .bool true]) ∧ l.length = ll ∧ Coded (semaK N0 fair) w' so lo l ∧ Kept (fun _ => False) w w' := by
  refine (asm12_any w sl cap hE).mono ?_
  rintro e w' ⟨v, u, c, l, hcl, rfl, h, hk⟩
  obtain ⟨c', l', hcl', hc, hl1, hp⟩ := sema_asm
  rw [hcl] at hcl'
  simp only [Except.ok.injEq, Prod.mk.injEq] at hcl'
  obtain ⟨rfl, rfl⟩ := hcl'
  have hlen : c.length = 254 := by rw [← code_len, ← hc, List.length_map]
  obtain ⟨so, cc, rfl, hM⟩ := Made.of_own (f := insC) (fun _ => rfl) h.code rfl (by unfold maxLen; omega)
  obtain ⟨lo, lc, rfl, hN⟩ := Made.of_own (f := labC) (fun _ => rfl) h.labs rfl (by unfold maxLen; omega)
  refine ⟨so, lo, cc, lc, l.length, l, by rw [hlen], rfl, ⟨?_, hN.elems, fun k hk => hp k (of_two hk), sema_may, by show semaCode.length ≤ _; rw [code_len]; decide⟩, hk⟩
  show Elems w' w'.heap.size so 5 Ix.cells semaCode
  rw [← hc]
  exact elems_ix hM.elems

end Go.Proofs.Ytofnomkedpagfaa
end
section
namespace Go.Proofs.Ytofnomkedpagfaa
open Go.RowKit
set_option linter.unusedVariables false

theorem plays_sema (w : World) (sl : Option Addr) (cap : Nat) (hT : Elems w w.heap.size sl 1 sC textsS) (N0 : Int) (fair : Bool) (h0 : 0 ≤ N0) (h1 : N0 ≤ 1000) (s : Option Addr) (sc n : Nat) (L : List Cs) (hL : Elems w w.heap.size s 6 Cs.cells L) (hn : L.length = n) (h64 : ∀ x ∈ L, Cs64 x) :
    Calls Try.prog 6 #[.slice sl 3 cap, .agg #[.int .i64 2, .bool fair, .int .i64 N0], .slice s n sc] w fun e w' => e = .returned (.bool true) ∧ Kept (fun _ => False) w w' :=
  plays_any (semaK_ok h0 h1) w sl 3 cap 254 code_len (fun W hk => asm_coded N0 fair W sl cap ((hT.kept hk (Nat.le_refl _) (fun _ _ f => f)).more hk.size)) s sc n L hL hn h64 2 N0 fair rfl rfl rfl

def upL : List Cs := [⟨0, 4, 0, 2, 0, false⟩, ⟨1, 5, 0, 1, 0, false⟩, ⟨0, 6, 0, 2, 0, false⟩, ⟨0, 7, 0, 0, 0, false⟩]
set_option maxHeartbeats 2000000 in
theorem up14_any (w : World) : Calls Try.prog 4 #[] w fun e w' => e = .returned (.bool true) ∧ Kept (fun _ => False) w w' := by
  have HT := Lib.hid (texts_any w)
  go_enter Try.func4, Try.ntmps4
  go_wp2_with fail
  refine HT.out.mono ?_
  rintro e w1 ⟨a, rfl, hE, hk⟩
  have HK := Lib.hid hk
  have HPL : Hid (∀ W, w1.alloc (.cells (flat Cs.cells upL).toArray 34) = W → Calls Try.prog 6 #[.slice (some ⟨a, 0, none⟩) 3 3, .agg #[.int .i64 2, .bool false, .int .i64 2], .slice (some ⟨w1.heap.size, 0, none⟩) 4 4] W fun e w' => e = .returned (.bool true) ∧ Kept (fun _ => False) w w') := Lib.hid (fun W hW => by
    have k1 : Kept (fun _ => False) w1 W := by rw [← hW]; exact (Kept.refl _ w1).alloc _
    refine (plays_sema W _ 3 ((hE.kept k1 (Nat.le_refl _) (fun _ _ f => f)).more k1.size) 2 false (by decide) (by decide) _ 4 4 upL ?_ rfl (fun x hx => ?_)).mono (fun e w' h => ⟨h.1, (HK.out.tr0 k1).tr0 h.2⟩)
    · rw [← hW]
      exact (Elems.block (f := Cs.cells) (xs := upL) Cs.six (heap_new1 w1 _) rfl (by show 4 ≤ maxLen; decide)).more (Array.getElem?_eq_some_iff.1 (heap_new1 w1 _)).1
    · simp only [upL, List.mem_cons, List.not_mem_nil, or_false] at hx
      rcases hx with rfl | rfl | rfl | rfl <;> exact ⟨by decide, by decide⟩)
  clear hE hk HT
  go_wp2_with fail
  refine (HPL.out _ rfl).mono ?_
  rintro e w2 ⟨rfl, hk2⟩
  have HK2 := Lib.hid hk2
  clear hk2 HPL
  go_wp2_with fail
  go_ret
  exact ⟨rfl, HK2.out⟩

end Go.Proofs.Ytofnomkedpagfaa
end
