/-
  Bytes that came in; what Get says of a script's bytes, of one byte more, and of any bytes.
  Conditions: none; these are lemmas for the walks.
-/
import Derived.Test.YtkicpbnphbcdaaaPackKit
namespace Go.Proofs.Ytkicpbnphbcdaaa
open Go.RowKit Go.ChangeShapes Go.WideShapes

theorem Try.sc_byte : Try.prog.cellsOf 5 = 1 := by kernel_rfl

theorem bytes_of {H : Type} {enc : TypeId × Value → H} {w : World} {s : Option Addr} {len cap : Nat} {d : DataW H} {p : List MemPlace}
    (h : DataW.Trod enc Try.prog w 0 (fun _ => true) true 29 (.slice s len cap) d p) : ∃ bs, bs.length = len ∧ Elems w w.heap.size s 1 bC bs ∧ (∀ b ∈ bs, b < 256) ∧ len ≤ cap := by
  have hcap : len ≤ cap := by
    obtain ⟨fuel, hf⟩ := h
    rcases Go.Deep.open_slice Try.underlying29 hf with ⟨hcs, _⟩ | ⟨ad, l, c, mm, n, D, Pl, hcs, _, hl, hmx, _⟩
    · simp [Value.cells] at hcs
      obtain ⟨rfl, rfl, rfl⟩ := hcs
      exact Nat.le_refl _
    · simp [Value.cells] at hcs
      obtain ⟨rfl, rfl, rfl⟩ := hcs
      exact hl
  obtain ⟨xs, h1, h2, h3⟩ := elems_of (Q := fun b : Nat => b < 256) (f := bC) Try.underlying29 Try.sc_byte (by omega) (fun k cs y hl ht => by
    match cs, hl with
    | [c0], _ =>
      obtain ⟨a, e0, _, w0⟩ := DataW.trod_int Try.underlying5 ht
      simp only [List.cons.injEq, and_true] at e0
      subst e0
      have hb : 0 ≤ a ∧ a ≤ 255 := bounds_u8 w0
      refine ⟨a.toNat, ?_, by omega⟩
      unfold bC
      rw [Int.toNat_of_nonneg hb.1]) h
  exact ⟨xs, h1, h2, h3, hcap⟩

theorem getTop_len {w : World} {B c n : Nat} {A : Option Addr} {bs : List Nat} (hn : bs.length = n) (h : Elems w B A 1 bC bs) (hb : ∀ b ∈ bs, b < 256) (hc : bs.length ≤ c) (hB : B ≤ w.heap.size) :
    Calls Try.prog 14 #[.slice A n c] w (GetOut w bs) := by subst hn; exact getTop_any h hb hc hB
theorem get_back {w w' : World} {p : Parts} {e : Ending} (hok : scOk p) (hl : largeP p = false) (hg : goodP p = true) (h : GetOut w (scE byteTok p) e w') : GetYes w p e w' := by
  have hb := sc_back byteTok p [] hok
  rw [List.append_nil] at hb
  have h4 := h.2.2.2
  rw [hb] at h4
  exact h4 rfl hl hg
theorem get_more {w w' : World} {p : Parts} {m : Nat} {e : Ending} (hok : scOk p) (h : GetOut w (scE byteTok p ++ [m]) e w') : GetNot w 2 e w' := by
  have hb := sc_back byteTok p [m] hok
  refine h.1 ?_
  rw [hb]
  simp
theorem get_cases {w w' : World} {bs : List Nat} {e : Ending} (h : GetOut w bs e w') :
    (∃ c : Int, (c = 1 ∨ c = 2 ∨ c = 8) ∧ GetNot w c e w') ∨ ∃ p, bs = scE byteTok p ∧ scOk p ∧ largeP p = false ∧ goodP p = true ∧ GetYes w p e w' := by
  by_cases h1 : (scP byteTok (some bs)).2 = some []
  · cases hl : largeP (scP byteTok (some bs)).1
    · cases hg : goodP (scP byteTok (some bs)).1
      · exact .inl ⟨1, .inl rfl, h.2.2.1 h1 hl hg⟩
      · obtain ⟨e1, ok⟩ := sc_sound byteTok _ _ _ (Prod.ext rfl h1)
        simp only [Option.some.injEq, List.append_nil] at e1
        exact .inr ⟨_, e1, ok, hl, hg, h.2.2.2 h1 hl hg⟩
    · exact .inl ⟨8, .inr (.inr rfl), h.2.1 h1 hl⟩
  · exact .inl ⟨2, .inr (.inl rfl), h.1 h1⟩

theorem may_parts {x : Sc} : mayF x = (!largeP (partsOf x) && goodP (partsOf x)) := by unfold mayF; rw [large_parts, good_partsP]
theorem may_of {x : Sc} {p : Parts} (he : partsOf x = p) (hl : largeP p = false) (hg : goodP p = true) : mayF x = true := by rw [may_parts, he, hl, hg]; rfl
theorem may_large {x : Sc} (h : mayF x = true) : largeP (partsOf x) = false := by rw [may_parts, Bool.and_eq_true, Bool.not_eq_true'] at h; exact h.1
theorem may_good {x : Sc} (h : mayF x = true) : goodP (partsOf x) = true := by rw [may_parts, Bool.and_eq_true] at h; exact h.2

end Go.Proofs.Ytkicpbnphbcdaaa
