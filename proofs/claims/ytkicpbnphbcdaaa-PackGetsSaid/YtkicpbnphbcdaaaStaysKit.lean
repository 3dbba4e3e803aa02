/-
  Put and Get whatever comes of them; bytes of the call's own that are turned.
  Conditions: the scripts, or the bytes, lie in blocks that were there.
-/
import Derived.Test.YtkicpbnphbcdaaaBytesArg
import Derived.Test.YtkicpbnphbcdaaaCopy
namespace Go.Proofs.Ytkicpbnphbcdaaa
open Go.RowKit

/-- Is this error none? -/
def IsErr (b : Bool) (v : Value) : Prop := (b = true ∧ v = .nilIface) ∨ (b = false ∧ ∃ c : Int, v = .iface 43 (.int .i64 c))

/-- What Put leaves: bytes in new memory, and an error, or none. -/
def PutSome (w : World) (E : List Nat) (eb : Bool) (e : Ending) (w' : World) : Prop :=
  ∃ A c ev, e = .returned (.tuple #[.slice A E.length c, ev]) ∧ IsErr eb ev ∧ Own w.heap.size w' (.slice A E.length c) E ∧ Kept (fun _ => False) w w'
/-- What Get leaves: a script in new memory, and an error, or none. -/
def GetSome (w : World) (p : Parts) (gb : Bool) (e : Ending) (w' : World) : Prop :=
  ∃ (y : Sc) (gv : Value), e = .returned (.tuple #[y.agg, gv]) ∧ IsErr gb gv ∧ partsOf y = p ∧ Owned w.heap.size (fun _ => False) w' y ∧ Kept (fun _ => False) w w'

theorem put_some {w : World} {B : Nat} {x : Sc} (h : Lies w B x) (hB : B ≤ w.heap.size) {E : List Nat} (hE : (if mayF x then scE byteTok (partsOf x) else []) = E) :
    Calls Try.prog 10 #[x.agg] w (PutSome w E (mayF x)) := by
  cases hm : mayF x
  · refine (put_not h hB hm).mono fun e w' hp => ?_
    obtain ⟨c, hc, rfl, hk⟩ := hp
    rw [hm] at hE
    obtain rfl : [] = E := hE
    exact ⟨none, 0, _, rfl, (.inr ⟨rfl, c, rfl⟩), own_nil _ _, hk⟩
  · refine (put_may h hB hm).mono fun e w' hp => ?_
    obtain ⟨A, c, rfl, ho, hk⟩ := hp
    rw [hm] at hE
    obtain rfl : scE byteTok (partsOf x) = E := hE
    exact ⟨A, c, _, rfl, (.inl ⟨rfl, rfl⟩), ho, hk⟩

/-- Are bytes a script's, that may be? -/
def yesB (bs : List Nat) : Bool := (match (scP byteTok (some bs)).2 with | some [] => true | _ => false) && !largeP (scP byteTok (some bs)).1 && goodP (scP byteTok (some bs)).1
def gotP (bs : List Nat) : Parts := if yesB bs then (scP byteTok (some bs)).1 else ⟨[], [], []⟩

def zeroSc : Sc := ⟨none, 0, [], none, 0, [], none, 0, []⟩
theorem owned_none (W : Nat) (w : World) : Owned W (fun _ => False) w zeroSc where
  obs := ⟨Made.nil _ _ _ _ _ _, fun h => absurd rfl h⟩
  pis := ⟨Made.nil _ _ _ _ _ _, fun h => absurd rfl h⟩
  ops := fun p hp => absurd hp List.not_mem_nil
  own := World.ownsRow_nil w W _ 1
  off := fun g hg => by simp [Sc.row, Value.ownBlock, zeroSc] at hg
  few := Nat.zero_le _

theorem get_not_some {w w' : World} {c : Int} {e : Ending} (h : GetNot w c e w') : GetSome w ⟨[], [], []⟩ false e w' := by
  obtain ⟨rfl, hk⟩ := h
  exact ⟨zeroSc, _, rfl, (.inr ⟨rfl, c, rfl⟩), rfl, owned_none _ _, hk⟩
theorem get_some_of {w w' : World} {bs : List Nat} {e : Ending} (h : GetOut w bs e w') : GetSome w (gotP bs) (yesB bs) e w' := by
  by_cases h1 : (scP byteTok (some bs)).2 = some []
  · cases hl : largeP (scP byteTok (some bs)).1
    · cases hg : goodP (scP byteTok (some bs)).1
      · have hy : yesB bs = false := by unfold yesB; rw [h1, hl, hg]; rfl
        unfold gotP
        rw [hy]
        exact get_not_some (h.2.2.1 h1 hl hg)
      · have hy : yesB bs = true := by unfold yesB; rw [h1, hl, hg]; rfl
        unfold gotP
        rw [hy]
        obtain ⟨y, rfl, hp, ho, hk⟩ := h.2.2.2 h1 hl hg
        exact ⟨y, _, rfl, (.inl ⟨rfl, rfl⟩), hp, ho, hk⟩
    · have hy : yesB bs = false := by unfold yesB; rw [h1, hl]; rfl
      unfold gotP
      rw [hy]
      exact get_not_some (h.2.1 h1 hl)
  · have hy : yesB bs = false := by
      unfold yesB
      split
      · rename_i h2; exact absurd h2 h1
      · rfl
    unfold gotP
    rw [hy]
    exact get_not_some (h.1 h1)
theorem get_some {w : World} {B c n : Nat} {A : Option Addr} {bs : List Nat} (hn : bs.length = n) (h : Elems w B A 1 bC bs) (hb : ∀ b ∈ bs, b < 256) (hc : bs.length ≤ c) (hB : B ≤ w.heap.size) :
    Calls Try.prog 14 #[.slice A n c] w (GetSome w (gotP bs) (yesB bs)) := (getTop_len hn h hb hc hB).mono fun _ _ h => get_some_of h

/-- A block whose first cells are bytes, whatever they are. -/
def Mess (w : World) (g n : Nat) : Prop := ∃ cur, w.heap[g]? = some (.cells cur 5 (0, 0)) ∧ ∀ j, j < n → ∃ z : Int, cur[j]? = some (.int .u8 z)
theorem Mess.cell {w : World} {g n : Nat} (h : Mess w g n) {j : Nat} (hj : j < n) : ∃ z : Int, w.cell? ⟨g, j, none⟩ = some (.int .u8 z) ∧ w.frozen? ⟨g, j, none⟩ = false := by
  obtain ⟨cur, hb, hc⟩ := h
  obtain ⟨z, hz⟩ := hc j hj
  exact ⟨z, by rw [cell_at w g j cur _ hb]; exact hz, frozen_at w g j cur _ hb⟩
theorem Mess.set {w : World} {g n : Nat} (h : Mess w g n) (j : Nat) (z : Int) : Mess (w.setCell ⟨g, j, none⟩ (.int .u8 z)) g n := by
  obtain ⟨cur, hb, hc⟩ := h
  refine ⟨_, blk_set hb j _, fun i hi => ?_⟩
  obtain ⟨z', hz'⟩ := hc i hi
  by_cases hij : j = i
  · subst hij
    have hlt : j < cur.size := (Array.getElem?_eq_some_iff.1 hz').1
    exact ⟨z, by rw [Array.getElem?_setIfInBounds_self_of_lt hlt]⟩
  · exact ⟨z', by rw [Array.getElem?_setIfInBounds_ne hij]; exact hz'⟩
theorem Own.mess {base : Nat} {w : World} {A : Option Addr} {c : Nat} {bs : List Nat} (h : Own base w (.slice A bs.length c) bs) (hn : 0 < bs.length) : ∃ g, A = some ⟨g, 0, none⟩ ∧ base ≤ g ∧ g < w.heap.size ∧ Mess w g bs.length := by
  rcases h.2 with ⟨h1, h2⟩ | ⟨g, cap, cur, hv, hb, hg, hnc, hm, hs, hcur⟩
  · omega
  · simp only [Value.slice.injEq, true_and] at hv
    obtain ⟨rfl, rfl⟩ := hv
    refine ⟨g, rfl, hb, (Array.getElem?_eq_some_iff.1 hg).1, cur, hg, fun j hj => ?_⟩
    have hx : (flat bC bs)[j]? = some (.int .u8 (bs.getD j 0)) := by
      have := flat_at bC_one bs j 0 (bs[j]'hj) (List.getElem?_eq_getElem hj) (by omega)
      rw [Nat.mul_one, Nat.add_zero] at this
      rw [this]
      simp [bC, List.getD, hj]
    have hy := World.ownsRow.cellAt h j (by omega)
    rw [cell_at w g j cur _ hg, hx] at hy
    exact ⟨_, hy⟩

end Go.Proofs.Ytkicpbnphbcdaaa
