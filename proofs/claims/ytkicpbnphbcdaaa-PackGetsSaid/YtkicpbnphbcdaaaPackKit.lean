/-
  What the statements of layer 6 share: Put and Get of a script that may be, or may not.
  Conditions: the scripts, or the bytes, lie in blocks that were there.
-/
import Derived.Test.YtkicpbnphbcdaaaPackUp
import Derived.Test.YtkicpbnphbcdaaaSameNot
import Derived.Test.YtkicpbnphbcdaaaCheckRef
namespace Go.Proofs.Ytkicpbnphbcdaaa
open Go.RowKit

/-- May a script be? -/
def mayF (x : Sc) : Bool := !largeF x && goodF x
/-- What Put leaves of a script that may not be: an error. -/
def PutBad (w : World) (e : Ending) (w' : World) : Prop := ∃ c : Int, (c = 1 ∨ c = 8) ∧ PutNot w c e w'

section
variable {w : World} {B : Nat} {x : Sc}
theorem put_not (h : Lies w B x) (hB : B ≤ w.heap.size) (hm : mayF x = false) : Calls Try.prog 10 #[x.agg] w (PutBad w) := by
  cases hl : largeF x
  · cases hg : goodF x
    · exact (putTop_bad h hB hl hg).mono fun e w' hp => ⟨1, .inl rfl, hp⟩
    · unfold mayF at hm; rw [hl, hg] at hm; cases hm
  · exact (putTop_large h hB hl).mono fun e w' hp => ⟨8, .inr rfl, hp⟩
theorem put_may (h : Lies w B x) (hB : B ≤ w.heap.size) (hm : mayF x = true) : Calls Try.prog 10 #[x.agg] w (PutYes w (scE byteTok (partsOf x))) := by
  unfold mayF at hm
  rw [Bool.and_eq_true, Bool.not_eq_true'] at hm
  exact putTop_good h hB hm.1 hm.2
theorem may_ok (hm : mayF x = true) : scOk (partsOf x) := by
  unfold mayF at hm
  rw [Bool.and_eq_true, Bool.not_eq_true'] at hm
  exact (good_ok hm.1 hm.2).1
theorem may_len (hm : mayF x = true) : (scE byteTok (partsOf x)).length ≤ 100000 := by
  unfold mayF at hm
  rw [Bool.and_eq_true, Bool.not_eq_true'] at hm
  exact (good_ok hm.1 hm.2).2
end

theorem listE_lt {α : Type} {enc : α → List Nat} (h : ∀ x, ∀ b ∈ enc x, b < 256) (xs : List α) : ∀ b ∈ listE byteTok enc xs, b < 256 := by
  intro b hb
  rcases List.mem_append.1 hb with hb | hb
  · exact dig_lt _ b hb
  · obtain ⟨x, _, hx⟩ := List.mem_flatMap.1 hb
    exact h x b hx
/-- A script's bytes are bytes. -/
theorem scE_lt (p : Parts) : ∀ b ∈ scE byteTok p, b < 256 := by
  have h1 : ∀ x, ∀ b ∈ obE byteTok x, b < 256 := by
    intro x b hb
    simp only [obE, byteTok, numB, List.mem_append] at hb
    rcases hb with (hb | hb) | hb <;> exact dig_lt _ b hb
  have h2 : ∀ x, ∀ b ∈ clE byteTok x, b < 256 := by
    intro x b hb
    simp only [clE, byteTok, numB, List.mem_append] at hb
    rcases hb with (((hb | hb) | hb) | hb) | hb <;> exact dig_lt _ b hb
  have h3 : ∀ x, ∀ b ∈ piE byteTok x, b < 256 := by
    intro x b hb
    simp only [piE, byteTok, numB, List.mem_append] at hb
    rcases hb with hb | hb <;> exact dig_lt _ b hb
  intro b hb
  simp only [scE, List.mem_append] at hb
  rcases hb with (hb | hb) | hb
  · exact listE_lt h1 _ b hb
  · exact listE_lt (fun xs => listE_lt h2 xs) _ b hb
  · exact listE_lt h3 _ b hb

end Go.Proofs.Ytkicpbnphbcdaaa
