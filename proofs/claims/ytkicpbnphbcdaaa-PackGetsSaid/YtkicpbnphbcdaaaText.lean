/-
  Bytes as strings: what a conversion comes to, and when two are the same.
  Conditions: the slice reads as these bytes.
-/
import Derived.Test.YtkicpbnphbcdaaaBytes
import Derived.Laws.BytesArg
import Derived.Lib.Bytes
namespace Go.Proofs.Ytkicpbnphbcdaaa
open Go.RowKit

/-- A string of these bytes. -/
def strOf (bs : List Nat) : ByteArray := strOfNums (bs.map (fun b : Nat => (b : Int)))

theorem strOf_inj {bs cs : List Nat} (hb : ∀ b ∈ bs, b < 256) (hc : ∀ b ∈ cs, b < 256) (h : strOf bs = strOf cs) : bs = cs := by
  have h2 := congrArg (fun s : ByteArray => s.data.toList) h
  simp only [strOf, strOfNums_data, List.map_map] at h2
  have key : ∀ l : List Nat, (∀ b ∈ l, b < 256) → (l.map ((fun n : Int => UInt8.ofNat n.toNat) ∘ fun b : Nat => (b : Int))).map UInt8.toNat = l := by
    intro l hl
    rw [List.map_map]
    conv => rhs; rw [← List.map_id l]
    refine List.map_congr_left fun b hb => ?_
    have := hl b hb
    simp
    omega
  rw [← key bs hb, ← key cs hc, h2]

theorem strOf_is (bs : List Nat) : ((strOf bs).toList == (strOf bs).toList) = true := by simp
theorem strOf_ne {bs cs : List Nat} (hb : ∀ b ∈ bs, b < 256) (hc : ∀ b ∈ cs, b < 256) (h : bs ≠ cs) : ((strOf bs).toList == (strOf cs).toList) = false := by
  rw [beq_eq_false_iff_ne]
  intro he
  refine h (strOf_inj hb hc ?_)
  unfold strOf at he
  rw [Lib.strOfNums_toList, Lib.strOfNums_toList] at he
  have e : ∀ xs : List Int, strOfNums xs = ⟨(Lib.bytesOf xs).toArray⟩ := fun xs => rfl
  unfold strOf
  rw [e, e, he]

theorem conv_bytes {w : World} {B c : Nat} {A : Option Addr} {bs : List Nat} (h : Elems w B A 1 bC bs) : (convert 29 9 (.slice A bs.length c)).run Try.prog w = .ok (.string (strOf bs)) w := by
  rcases A with _ | a
  · have h0 : bs = [] := by
      rcases Nat.eq_zero_or_pos bs.length with h1 | h1
      · exact List.eq_nil_of_length_eq_zero h1
      · obtain ⟨x, hx⟩ : ∃ x, bs[0]? = some x := ⟨_, List.getElem?_eq_getElem h1⟩
        obtain ⟨g, off, e, _⟩ := h.2 0 x hx; cases e
    subst h0
    exact run_convert_bytes_nil w _ _ Try.underlying29 Try.underlying5 _ _ _ Try.underlying9
  · have hl : (loadCells a bs.length).run Try.prog w = .ok ((bs.map (fun b : Nat => (b : Int))).map (Value.int .u8)).toArray w := by
      have := run_loadCells_list (P := Try.prog) w a (flat bC bs) (fun j v hj => h.cells bC_one a rfl j v hj)
      have e : flat bC bs = (bs.map (fun b : Nat => (b : Int))).map (Value.int .u8) := by
        clear this h
        induction bs with
        | nil => rfl
        | cons b bs ih => simp only [flat, List.flatMap_cons, List.map_cons] at ih ⊢; rw [ih]; rfl
      rw [e] at this
      simpa using this
    rw [run_convert_bytes_string w _ _ 5 _ _ _ Try.underlying29 Try.underlying5 Try.underlying9, run_bytesToString w _ _ c _ hl, foldl_push_bytes]
    simp [strOf, strOfNums, ByteArray.empty, ByteArray.emptyWithCapacity]
    rfl

end Go.Proofs.Ytkicpbnphbcdaaa
