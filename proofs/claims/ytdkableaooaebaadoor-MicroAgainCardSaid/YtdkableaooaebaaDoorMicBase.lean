/-
  The program's table of shapes in memory, where no other variable is listed; strings.IndexByte.
  Conditions: the table lies as the program's text lays it.
-/
import Derived.Test.YtdkableaooaebaaDoorLays
import Derived.Test.YtdkableaooaebaaDoorLineStr
import Derived.Shelf.Small.Strs
import Derived.Below
namespace Go.Proofs.YtdkableaooaebaaDoor
open Go.RowKit

/-- The variables that are read. -/
def Glob (k : Nat) : Prop := k = 0

/-- A word of the table, what it has, and the registers behind the first. -/
def wordAt (i : Nat) : Str := if i = 0 then [] else (specL (i : Int)).1
def hasAt (i : Nat) : Str := if i = 0 then [] else (specL (i : Int)).2
def behindAt (i : Nat) : Int := if i = 7 then 2 else 0
/-- A shape. -/
@[reducible] def shV (i : Nat) : Value := .agg #[.string (strS (wordAt i)), .string (strS (hasAt i)), .int .i64 (behindAt i)]
def shCells : List Value := (List.range 23).flatMap (fun i => [.string (strS (wordAt i)), .string (strS (hasAt i)), .int .i64 (behindAt i)])

/-- The table lies as the program's text lays it. -/
structure Laid (w : World) : Prop where
  low : ∀ k, Glob k → k < w.heap.size
  shapes : ∀ (k : Nat) v, shCells[k]? = some v → w.cell? ⟨0, k, none⟩ = some v
theorem Laid.on {S : Nat → Prop} {w w' : World} (h : Laid w) (hk : Kept S w w') (hS : ∀ k, Glob k → ¬ S k) : Laid w' := by
  have c : ∀ (g j : Nat), Glob g → w'.cell? ⟨g, j, none⟩ = w.cell? ⟨g, j, none⟩ := fun g j hg => hk.cell (p := ⟨g, j, none⟩) (h.low g hg) (hS g hg)
  exact ⟨fun k hg => Nat.lt_of_lt_of_le (h.low k hg) hk.size, fun k v hv => by rw [c _ _ rfl]; exact h.shapes k v hv⟩
theorem Laid.on0 {w w' : World} (h : Laid w) (hk : Kept (fun _ => False) w w') : Laid w' := h.on hk (fun _ _ f => f)
theorem Laid.drewN {w : World} (h : Laid w) (n : Nat) : Laid (w.drewN n) := h.on0 ((Kept.refl _ w).drewN n)
theorem Laid.far {w : World} (h : Laid w) {b : Nat} (hb : w.heap.size ≤ b) : ∀ k, Glob k → ¬ (k = b) := fun k hg e => by have := h.low k hg; omega

theorem byte_in (l : Str) (c : UInt8) : decide (Lib.indexByte l c ≥ 0) = l.any (fun d => d.toNat == c.toNat) := by
  induction l with
  | nil => rfl
  | cons d l ih =>
    unfold Lib.indexByte
    rw [List.any_cons]
    by_cases h : d = c
    · subst h
      simp
    · have h1 : (d == c) = false := by rw [beq_eq_false_iff_ne]; exact h
      have h2 : (d.toNat == c.toNat) = false := by rw [beq_eq_false_iff_ne]; exact fun e => h (UInt8.toNat.inj e)
      rw [h1, h2, Bool.false_or, ← ih]
      have := Lib.indexByte_ge l c
      simp only [Bool.false_eq_true, if_false]
      split
      · rename_i h3; rw [beq_iff_eq] at h3; rw [h3]
      · rename_i h3
        rw [beq_iff_eq] at h3
        rw [decide_eq_true (by omega), decide_eq_true (by omega)]
theorem index_any (s : ByteArray) (c : UInt8) (w : World) : Calls Tryd.prog 59 #[.string s, .int .u8 c.toNat] w fun e w' => e = .returned (.int .i64 (Lib.indexByte (bytesS s) c)) ∧ w' = w :=
  (Any.strings_IndexByte Tryd.lays137 s c.toNat w).mono fun e w' ⟨h1, h2⟩ => ⟨by
    have hc : (c.toNat : Int).toNat.toUInt8 = c := by simp
    rw [h1, hc]; rfl, h2⟩

end Go.Proofs.YtdkableaooaebaaDoor
