/-
  The document's Assemble of layer 12 at the texts of layer 14's statements; Of.
  Conditions: the texts are those.
-/
import Derived.Test.YtofnomkedpagfaaRunMay
import Derived.Test.YtofnomkedpagfaaAsmRefOne
namespace Go.Proofs.Ytofnomkedpagfaa
open Go.RowKit
set_option linter.unusedVariables false

theorem texts_small : textsS.all (fun x => decide (x.length ≤ 20000)) = true := by kernel_rfl
theorem texts_size : sizeL textsS ≤ 100000 := by
  have h : decide (sizeL textsS ≤ 100000) = true := by kernel_rfl
  exact of_decide_eq_true h

set_option maxHeartbeats 4000000 in
set_option maxRecDepth 100000 in
theorem asm12_any (w : World) (sl : Option Addr) (cap : Nat) (hE : Elems w w.heap.size sl 1 sC textsS) :
    Calls Try.prog 8 #[.slice sl 3 cap] w fun e w' => ∃ v u c l, asmA (textsL textsS) = .ok (c, l) ∧ e = .returned (.tuple #[v, u, .bool true]) ∧ Two w.heap.size w' v u c l ∧ Kept (fun _ => False) w w' := by
  have HE := Lib.hid hE
  have HA : Hid (Calls Try.prog 22 #[.slice sl 3 cap] w (AsmTo w (asmA (textsL textsS)))) := Lib.hid (refAsm_any textsS sl cap w hE texts_size)
  obtain ⟨c, l, hcl, _⟩ := sema_asm
  have HCL := Lib.hid hcl
  rw [hcl] at HA
  have HS : Hid (∀ (k : Nat) (x : Str), textsS[k]? = some x → x.length ≤ 20000) := Lib.hid (fun k x h => of_decide_eq_true (List.all_eq_true.1 texts_small x (List.mem_of_getElem? h)))
  have HN : Hid (textsS.length = 3) := Lib.hid rfl
  obtain ⟨T, hT⟩ : ∃ T, textsS = T := ⟨_, rfl⟩
  rw [hT] at HE HS HN HCL ⊢
  clear hE hcl hT
  go_enter Try.func8, Try.ntmps8
  go_wp2_with fail
  go_loop [5, 6] (fun n i => ∃ k m : Nat, i = .int .i64 k ∧ n = .int .i64 m ∧ k ≤ 3 ∧ m ≤ 20000 * k) (fun _ i => 3 - (intOf i).toNat)
  case atStart => exact ⟨0, 0, rfl, rfl, by omega, by omega⟩
  case round =>
    obtain ⟨k, m, rfl, rfl, hk, hm⟩ := hrel
    by_cases hk3 : k < 3
    case neg =>
      obtain rfl : k = 3 := by omega
      have hm6 : ¬ (60000 : Int) < (m : Int) := by omega
      clear hm hk3 hk
      go_wp2_with fail
      refine HA.out.mono ?_
      rintro e w2 ⟨hk2, v, u, rfl, ht⟩
      have HF := Lib.hid (And.intro hk2 ht)
      clear hk2 ht
      go_wp2_with fail
      go_ret3
      exact ⟨_, _, _, _, HCL.out, rfl, HF.out.2, HF.out.1⟩
    obtain ⟨x, hx⟩ : ∃ x, T[k]? = some x := ⟨_, List.getElem?_eq_getElem (by rw [HN.out]; exact hk3)⟩
    obtain ⟨g, off, rfl, hg, hc⟩ := HE.out.2 k x hx
    have x0 : w.cell? ⟨g, off + k, none⟩ = some (.string (strS x)) := by have := hc 0 _ rfl; rwa [Nat.mul_one, Nat.add_zero] at this
    have hxl : (strS x).size ≤ 20000 := by rw [strS_size]; exact HS.out k x hx
    obtain ⟨q, hq⟩ : ∃ q, (strS x).size = q := ⟨_, rfl⟩
    rw [hq] at hxl
    have hk3' : (k : Int) < 3 := by omega
    have hm1 : m ≤ 40000 := by omega
    clear hc hx
    go_wp2_with fail
    go_round
    case rel => exact ⟨k + 1, m + (strS x).size, by go_num, by go_num, by omega, by omega⟩
    case measure => simp [intOf]; omega

end Go.Proofs.Ytofnomkedpagfaa
