/-
  What the document's Words of layer 7 come to: the table.
  Conditions: none on the strings but that they are strings.
  What the document's split of layer 7 comes to.
  Conditions: the string has a space.
-/
import Derived.Test.YtofnomkedpagfaaLineMem
import Derived.Test.YtofnomkedpagfaaAsmMem
import Derived.Deep.QuietTactic
import Derived.BigQuiet
section
namespace Go.Proofs.Ytofnomkedpagfaa
open Go.RowKit

/-- A string's cell. -/
def sC (l : Str) : List Value := [.string (strS l)]
theorem sC_one : ∀ x, (sC x).length = 1 := fun _ => rfl
theorem sC_flat (xs ys : List Str) : flat sC (xs ++ ys) = flat sC xs ++ flat sC ys := by simp [flat]
theorem sC_cell (xs : List Str) : ∀ u ∈ flat sC xs, u.oneCell' = true := by
  intro u hu
  simp only [flat, List.mem_flatMap, sC, List.mem_cons, List.not_mem_nil, or_false] at hu
  obtain ⟨_, _, rfl⟩ := hu
  rfl
theorem Try.infoStr : (Try.prog.info? 9).map (fun i => (i.zero, i.size, i.bytes)) = some (some (.string { data := #[] }), 1, 16) := by kernel_rfl
/-- The lines of the table, as the document's Words has them. -/
def specText (p : Str × Str) : Str := p.1 ++ 32 :: p.2

theorem refTable_any (w : World) : Calls Try.prog 40 #[] w fun e w' => e = .returned (.slice (some ⟨w.heap.size, 0, none⟩) 22 22) ∧ Elems w' w'.heap.size (some ⟨w.heap.size, 0, none⟩) 1 sC (specs.map specText) ∧ Kept (fun _ => False) w w' := by
  go_enter Try.func40, Try.ntmps40
  go_wp2_with fail
  go_ret
  refine ⟨rfl, ?_, (Kept.refl _ w).alloc _⟩
  refine Elems.more (Elems.block sC_one (heap_new1 w _) ?_ (by show 22 ≤ maxLen; decide)) (by simp)
  rfl


end Go.Proofs.Ytofnomkedpagfaa
end
section
namespace Go.Proofs.Ytofnomkedpagfaa
open Go.RowKit

theorem split_at {s : ByteArray} {a b : Str} (h : bytesS s = a ++ 32 :: b) (hno : ∀ c ∈ a, c.toNat ≠ 32) :
    a.length < s.size ∧ (∀ (j : Nat) (hj : j < s.size), j < a.length → s[j].toNat ≠ 32) ∧ (∀ hj : a.length < s.size, s[a.length].toNat = 32) ∧ s.extract 0 a.length = strS a ∧ s.extract (a.length + 1) s.size = strS b ∧ s.size = a.length + 1 + b.length := by
  have hlen := bytesS_len s
  rw [h, List.length_append, List.length_cons] at hlen
  refine ⟨by omega, fun j hj hja => ?_, fun hj => ?_, ?_, ?_, by omega⟩
  · have := bytesS_at s j hj
    rw [h, List.getElem?_append_left hja] at this
    exact hno _ (List.mem_of_getElem? this)
  · have := bytesS_at s a.length hj
    rw [h, List.getElem?_append_right (Nat.le_refl _), Nat.sub_self] at this
    simp only [List.getElem?_cons_zero, Option.some.injEq] at this
    rw [← this]; rfl
  · refine bytesS_inj ?_
    rw [bytesS_cut, bytesS_str, h, List.drop_zero, Nat.sub_zero, List.take_left']
    rfl
  · refine bytesS_inj ?_
    rw [bytesS_cut, bytesS_str, h]
    have e : (a ++ 32 :: b).drop (a.length + 1) = b := by
      rw [show a ++ 32 :: b = (a ++ [32]) ++ b by simp, List.drop_left' (by simp)]
    rw [e, List.take_of_length_le (by omega)]

set_option maxHeartbeats 1000000 in
theorem refSplit_any (s : ByteArray) (a b : Str) (h : bytesS s = a ++ 32 :: b) (hno : ∀ c ∈ a, c.toNat ≠ 32) (hs : s.size ≤ 100000) (w : World) :
    Calls Try.prog 41 #[.string s] w fun e w' => e = .returned (.tuple #[.string (strS a), .string (strS b)]) ∧ Kept (fun _ => False) w w' := by
  obtain ⟨h1, h2, h3, h4, h5, h6⟩ := split_at h hno
  have H2 := Lib.hid h2
  have H3 := Lib.hid h3
  have H4 := Lib.hid h4
  have H5 := Lib.hid h5
  obtain ⟨m, hm⟩ : ∃ m, a.length = m := ⟨_, rfl⟩
  rw [hm] at h1
  have HM := Lib.hid hm
  clear h h2 h3 h4 h5 h6 hno hm
  go_enter Try.func41, Try.ntmps41
  go_wp2_with fail
  go_loop [4] (fun i => ∃ k : Nat, i = .int .i64 k ∧ k ≤ m) (fun i => m - (intOf i).toNat)
  case atStart => exact ⟨0, rfl, by omega⟩
  case round =>
    obtain ⟨k, rfl, hk⟩ := hrel
    have hks : k < s.size := by omega
    by_cases hkm : k < m
    · have n1 : ((s[k].toNat : Int) != 32) = true := by
        have := H2.out k hks (by rw [HM.out]; exact hkm)
        rw [bne_iff_ne]; omega
      go_wp2_with fail
      go_round
      case rel => exact ⟨k + 1, by go_num, by omega⟩
      case measure => simp [intOf]; omega
    · obtain rfl : k = m := by omega
      have n1 : ((s[k].toNat : Int) != 32) = false := by
        have := H3.out (by rw [HM.out]; exact hks)
        simp only [HM.out] at this
        rw [this]; rfl
      have q1 : s.extract 0 k = strS a := by rw [← H4.out, HM.out]
      have q2 : s.extract (k + 1) s.size = strS b := by rw [← H5.out, HM.out]
      have b1 : (0 : Int) ≤ (k : Int) := by omega
      have b2 : (k : Int) ≤ (s.size : Int) := by omega
      have b3 : (0 : Int) ≤ (k : Int) + 1 := by omega
      have b4 : (k : Int) + 1 ≤ (s.size : Int) := by omega
      have b5 : ((k : Int) + 1).toNat = k + 1 := by omega
      have b6 : IntKind.i64.wrap ((k : Int) + 1) = (k : Int) + 1 := IntWalk.i64_in _ (by omega)
      go_wp2_with fail
      go_quiet (fail)
      go_wp2_with fail
      go_ret2
      exact ⟨rfl, (Kept.refl _ w).drewN _⟩

end Go.Proofs.Ytofnomkedpagfaa
end
