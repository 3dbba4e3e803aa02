/-
  The region where shape takes a pick: it loads the script's list, and stores it one longer.
  Conditions: the numbers lie in blocks that were there.
-/
import Derived.Test.YtkicpbnphbcdaaaShapeKit
namespace Go.Proofs.Ytkicpbnphbcdaaa
open Go.RowKit

/-- What the operations that have come up leave. -/
structure PiRowFacts (W3 : World) (b base : Nat) (g off c a : Nat) (l : List Int) (y : Sc) (k n : Int) (x : Pi) (l2 : Array Bool) (w : World) (v193 v194 v195 v196 v197 v198 v199 v200 v201 v202 v203 v204 v205 v206 v207 : Value) : Prop where
  kept : Kept (fun q => (Value.slice y.ks y.pis.length y.kc).ownBlock = some q) W3 w
  calm : l2.getD 13 false = false → Kept (fun _ => False) W3 w
  e193 : l2.getD 0 false = true → v193 = .pointer (some ⟨b, 2, none⟩)
  e194 : l2.getD 1 false = true → v194 = .slice y.ks y.pis.length y.kc
  e195 : l2.getD 2 false = true → v195 = .slice (some ⟨g, off, none⟩) l.length c
  e196 : l2.getD 3 false = true → v196 = .int .i64 (a : Int)
  e197 : l2.getD 4 false = true → v197 = .pointer (some ⟨g, off + a, none⟩)
  e198 : l2.getD 5 false = true → v198 = .int .i64 k
  e199 : l2.getD 6 false = true → v199 = .slice (some ⟨g, off, none⟩) l.length c
  e200 : l2.getD 7 false = true → v200 = .int .i64 (a : Int)
  e201 : l2.getD 8 false = true → v201 = .int .i64 ((a : Int) + 1)
  e202 : l2.getD 9 false = true → v202 = .pointer (some ⟨g, off + (a + 1), none⟩)
  e203 : l2.getD 10 false = true → v203 = .int .i64 n
  e204 : l2.getD 11 false = true → v204 = .agg #[.int .i64 k, .int .i64 n]
  e205 : l2.getD 12 false = true → ∃ G, v205 = .slice (some ⟨G, 0, none⟩) 1 1 ∧ W3.heap.size ≤ G ∧ w.heap[G]? = some (.cells #[.int .i64 k, .int .i64 n] 57 (0, 0))
  e206 : l2.getD 13 false = true → ∃ s c', v206 = .slice s (y.pis.length + 1) c' ∧ w.ownsRow base 57 2 (.slice s (y.pis.length + 1) c') (y.pis.length + 1) (flat Pi.cells (y.pis ++ [x])) ∧ ((Value.slice s (y.pis.length + 1) c').ownBlock = (Value.slice y.ks y.pis.length y.kc).ownBlock ∨ ∃ g', (Value.slice s (y.pis.length + 1) c').ownBlock = some g' ∧ W3.heap.size ≤ g')
  e207 : l2.getD 14 false = true → v207 = .pointer (some ⟨b, 2, none⟩)

section
variable {l2 : Array Bool} {w w' : World} {v193 v194 v195 v196 v197 v198 v199 v200 v201 v202 v203 v204 v205 v206 v207 : Value}
theorem PiRowFacts.on {W3 : World} {b base : Nat} {g off c a : Nat} {l : List Int} {y : Sc} {k n : Int} {x : Pi} (F : PiRowFacts W3 b base g off c a l y k n x l2 w v193 v194 v195 v196 v197 v198 v199 v200 v201 v202 v203 v204 v205 v206 v207) (hk : Kept (fun _ => False) w w') : PiRowFacts W3 b base g off c a l y k n x l2 w' v193 v194 v195 v196 v197 v198 v199 v200 v201 v202 v203 v204 v205 v206 v207 where
  kept := F.kept.trans hk (fun _ _ f => f.elim)
  calm := fun h => (F.calm h).trans hk (fun _ _ f => f)
  e193 := F.e193
  e194 := F.e194
  e195 := F.e195
  e196 := F.e196
  e197 := F.e197
  e198 := F.e198
  e199 := F.e199
  e200 := F.e200
  e201 := F.e201
  e202 := F.e202
  e203 := F.e203
  e204 := F.e204
  e205 := fun h => by obtain ⟨G, e, hG, h1⟩ := F.e205 h; exact ⟨G, e, hG, (hk.block G (Array.getElem?_eq_some_iff.1 h1).1 (fun f => f)).trans h1⟩
  e206 := fun h => by obtain ⟨s, c', e, h1, h2⟩ := F.e206 h; exact ⟨s, c', e, own_kept h1 hk (fun _ _ f => f), h2⟩
  e207 := F.e207
end

/-- All of it; or it is done. -/
def PiRowInv (W3 : World) (b base : Nat) (g off c a : Nat) (l : List Int) (y : Sc) (k n : Int) (x : Pi) (fr : Value → Value → Value → Value → Value → Value → Value → Value → Value → Value → Value → Value → Value → Value → Value → Act) (l2 : Array Bool) (a2 : Act) (w : World) : Prop :=
  ∃ v193 v194 v195 v196 v197 v198 v199 v200 v201 v202 v203 v204 v205 v206 v207, a2 = fr v193 v194 v195 v196 v197 v198 v199 v200 v201 v202 v203 v204 v205 v206 v207 ∧
    ((l2.getD 15 false = false ∧ PiRowFacts W3 b base g off c a l y k n x l2 w v193 v194 v195 v196 v197 v198 v199 v200 v201 v202 v203 v204 v205 v206 v207) ∨
     (l2.getD 15 false = true ∧ (∀ j, j < 15 → l2.getD j false = true) ∧ ∃ l0 w0, (∀ j, j < 15 → l0.getD j false = true) ∧ PiRowFacts W3 b base g off c a l y k n x l0 w0 v193 v194 v195 v196 v197 v198 v199 v200 v201 v202 v203 v204 v205 v206 v207 ∧ w = w0.setCell ⟨b, 2, none⟩ v206))

/-- What PiRow leaves. -/
def PiRowDone (w wr : World) (y : Sc) (x : Pi) (w' : World) : Prop :=
  ∃ y' : Sc, y'.pis = y.pis ++ [x] ∧ (y'.ps = y.ps ∧ y'.pc = y.pc ∧ y'.prs = y.prs ∧ y'.os = y.os ∧ y'.oc = y.oc ∧ y'.obs = y.obs) ∧ Var w w' y' ∧ w'.ownsRow (w.heap.size + 1 + 1) 57 2 (.slice y'.ks y'.pis.length y'.kc) y'.pis.length (flat Pi.cells y'.pis) ∧ Kept (fun q => q = w.heap.size + 1 ∨ (Value.slice y.ks y.pis.length y.kc).ownBlock = some q) wr w' ∧ ((Value.slice y'.ks y'.pis.length y'.kc).ownBlock = (Value.slice y.ks y.pis.length y.kc).ownBlock ∨ ∃ g', (Value.slice y'.ks y'.pis.length y'.kc).ownBlock = some g' ∧ wr.heap.size ≤ g')

noncomputable def codePiRow : Code := down [1, 0, 0, 1, 0, 1, 1, 1, 1, 1, 0, 1, 0] loopB

set_option maxHeartbeats 8000000 in
set_option maxRecDepth 100000 in
theorem pirow_region {w wr : World} {B c a : Nat} {A : Option Addr} {l : List Int} {y : Sc} {v6 v7 v8 v9 v10 v11 v46 : Value} {u : Nat → Value} {Q : Exit → Act → World → Prop} {k n : Int}
    (h : ShapeIn w B A l) (hv : Var w wr y) (hown : wr.ownsRow (w.heap.size + 1 + 1) 57 2 (.slice y.ks y.pis.length y.kc) y.pis.length (flat Pi.cells y.pis)) (hyl : y.pis.length ≤ 65536) (hal : a + 2 ≤ l.length) (h0 : l[a]? = some k) (h1 : l[a + 1]? = some n)
    (hnext : Hid (∀ a' w', (∃ u', a' = frS A l.length c w.heap.size (.int .i64 a) v6 v7 v8 v9 v10 v11 v46 u') → PiRowDone w wr y ⟨k, n⟩ w' → Q .normal a' w')) :
    Code.wp Try.prog codePiRow Q (frS A l.length c w.heap.size (.int .i64 a) v6 v7 v8 v9 v10 v11 v46 u) wr := by
  obtain ⟨x, hx⟩ : ∃ x : Pi, x = ⟨k, n⟩ := ⟨_, rfl⟩
  have HXC : Hid (#[.int .i64 k, .int .i64 n] = (flat Pi.cells [x]).toArray) := Lib.hid (by rw [hx]; rfl)
  rw [← hx] at hnext
  clear hx
  have hla := h.few
  obtain ⟨g, off, rfl, hg, _⟩ := int_at (h.at hv.kept) h0
  have hlow := h.low
  have hwr := hv.kept.size
  have hvb := hv.var
  have hvlt : w.heap.size + 1 < wr.heap.size := (Array.getElem?_eq_some_iff.1 hvb).1
  have hrb : ∀ q, (Value.slice y.ks y.pis.length y.kc).ownBlock = some q → w.heap.size + 1 + 1 ≤ q := fun q hq => (World.ownsRow.lt hown q hq).1
  have hke : ∀ w', Kept (fun q => (Value.slice y.ks y.pis.length y.kc).ownBlock = some q) wr w' → Elems w' B (some ⟨g, off, none⟩) 1 iC l := fun w' hk => (h.at hv.kept).kept hk (by omega) (fun q hq e => by have := hrb q e; omega)
  have HC0 := Lib.hid (fun (w' : World) (hk : Kept (fun q => (Value.slice y.ks y.pis.length y.kc).ownBlock = some q) wr w') => int_same (hke w' hk) h0)
  have HC1 := Lib.hid (fun (w' : World) (hk : Kept (fun q => (Value.slice y.ks y.pis.length y.kc).ownBlock = some q) wr w') => int_same (hke w' hk) h1)
  have HHi0 : Hid ((a : Int) < (l.length : Int)) := Lib.hid (by omega)
  have HW1 : Hid (IntKind.i64.wrap ((a : Int) + 1) = (a : Int) + 1) := Lib.hid (IntWalk.i64_in _ (by omega))
  have HN1 : Hid (((a : Int) + 1).toNat = a + 1) := Lib.hid (by omega)
  have HLo1 : Hid ((0 : Int) ≤ (a : Int) + 1) := Lib.hid (by omega)
  have HHi1 : Hid ((a : Int) + 1 < (l.length : Int)) := Lib.hid (by omega)
  have HB := Lib.hid (fun (w' : World) (hk : Kept (fun q => (Value.slice y.ks y.pis.length y.kc).ownBlock = some q) wr w') => (hk.block (w.heap.size + 1) hvlt (fun e => by have := hrb _ e; omega)).trans hvb)
  have HOWN := Lib.hid hown
  have HLE := Lib.hid hyl
  have HBASE : Hid (w.heap.size + 1 + 1 ≤ wr.heap.size) := Lib.hid (by omega)
  have HV := Lib.hid hv
  have HRB := Lib.hid hrb
  have HVLT := Lib.hid hvlt
  obtain ⟨i4, hi4, hz4, hn4, hb4⟩ := info_parts (show (Try.prog.info? 57).map (fun i => (i.zero, i.size, i.bytes)) = some (some ((.agg #[.int .i64 0, .int .i64 0])), 2, 16) by kernel_rfl)
  have HI4 := Lib.hid hi4; clear hi4
  have HZ4 := Lib.hid hz4; clear hz4
  have HN4 := Lib.hid hn4; clear hn4
  have HB4 := Lib.hid hb4; clear hb4
  clear hown hyl hv hke hvb hrb hvlt hwr hlow hg hla hal h h0 h1
  unfold frS
  conv => arg 2; whnf
  refine wp_region_any (by kernel_rfl) (wpAny_inv (PiRowInv wr (w.heap.size + 1) (w.heap.size + 1 + 1) g off c a l y k n x (fun v193 v194 v195 v196 v197 v198 v199 v200 v201 v202 v203 v204 v205 v206 v207 => ⟨#[.slice (some ⟨g, off, none⟩) l.length c, u 1, .pointer (some ⟨w.heap.size, 0, none⟩), .bool false, .pointer (some ⟨w.heap.size + 1, 0, none⟩), .int .i64 a, v6, v7, v8, v9, v10, v11, u 12, u 13, u 14, u 15, u 16, u 17, u 18, u 19, u 20, u 21, u 22, u 23, u 24, u 25, u 26, u 27, u 28, u 29, u 30, u 31, u 32, u 33, u 34, u 35, u 36, u 37, u 38, u 39, u 40, u 41, u 42, u 43, u 44, u 45, v46, u 47, u 48, u 49, u 50, u 51, u 52, u 53, u 54, u 55, u 56, u 57, u 58, u 59, u 60, u 61, u 62, u 63, u 64, u 65, u 66, u 67, u 68, u 69, u 70, u 71, u 72, u 73, u 74, u 75, u 76, u 77, u 78, u 79, u 80, u 81, u 82, u 83, u 84, u 85, u 86, u 87, u 88, u 89, u 90, u 91, u 92, u 93, u 94, u 95, u 96, u 97, u 98, u 99, u 100, u 101, u 102, u 103, u 104, u 105, u 106, u 107, u 108, u 109, u 110, u 111, u 112, u 113, u 114, u 115, u 116, u 117, u 118, u 119, u 120, u 121, u 122, u 123, u 124, u 125, u 126, u 127, u 128, u 129, u 130, u 131, u 132, u 133, u 134, u 135, u 136, u 137, u 138, u 139, u 140, u 141, u 142, u 143, u 144, u 145, u 146, u 147, u 148, u 149, u 150, u 151, u 152, u 153, u 154, u 155, u 156, u 157, u 158, u 159, u 160, u 161, u 162, u 163, u 164, u 165, u 166, u 167, u 168, u 169, u 170, u 171, u 172, u 173, u 174, u 175, u 176, u 177, u 178, u 179, u 180, u 181, u 182, u 183, u 184, u 185, u 186, u 187, u 188, u 189, u 190, u 191, u 192, v193, v194, v195, v196, v197, v198, v199, v200, v201, v202, v203, v204, v205, v206, v207, u 208, u 209, u 210, u 211, u 212, u 213, u 214], []⟩)) ?hstep ?hend _ _ _ _ (by simp) (by simp) ?hstart)
  case hstart =>
    exact ⟨_, _, _, _, _, _, _, _, _, _, _, _, _, _, _, rfl, .inl ⟨by simp, ⟨(Kept.refl _ _).drew, fun _ => (Kept.refl _ _).drew, fun h => by simp at h, fun h => by simp at h, fun h => by simp at h, fun h => by simp at h, fun h => by simp at h, fun h => by simp at h, fun h => by simp at h, fun h => by simp at h, fun h => by simp at h, fun h => by simp at h, fun h => by simp at h, fun h => by simp at h, fun h => by simp at h, fun h => by simp at h, fun h => by simp at h⟩⟩⟩
  case hstep =>
    intro l2 a2 w2 i hs hI hi
    have hs' : l2.size = 16 := hs
    obtain ⟨hlt, hu, hd⟩ := ready_of hi
    have hset : ∀ j b, (l2.setIfInBounds i true).getD j b = if j = i then true else l2.getD j b := fun j b => getD_set (by omega)
    have hlt' : i < 16 := hlt
    clear hi hlt
    have hu' := getD_false hu
    obtain ⟨v193, v194, v195, v196, v197, v198, v199, v200, v201, v202, v203, v204, v205, v206, v207, rfl, ⟨hlast, F⟩ | ⟨hlast, hall, _⟩⟩ := hI
    case inr =>
      exfalso
      by_cases hil : i = 15
      · subst hil; rw [hlast] at hu'; cases hu'
      · rw [hall i (by omega)] at hu'; cases hu'
    have hi : i = 0 ∨ i = 1 ∨ i = 2 ∨ i = 3 ∨ i = 4 ∨ i = 5 ∨ i = 6 ∨ i = 7 ∨ i = 8 ∨ i = 9 ∨ i = 10 ∨ i = 11 ∨ i = 12 ∨ i = 13 ∨ i = 14 ∨ i = 15 := by omega
    clear hlt'
    have hsj : ∀ j, j ≠ i → (l2.setIfInBounds i true).getD j false = true → l2.getD j false = true := fun j hj h => by rw [hset, if_neg hj] at h; exact h
    have HS := Lib.hid hsj; clear hsj
    have HSET := Lib.hid hset; clear hset
    rcases hi with rfl | rfl | rfl | rfl | rfl | rfl | rfl | rfl | rfl | rfl | rfl | rfl | rfl | rfl | rfl | rfl
    · refine wpOp_open rfl (fun K hK => ?_)
      go_simp
      exact hK.out _ _ ⟨_, _, _, _, _, _, _, _, _, _, _, _, _, _, _, rfl, .inl ⟨by rw [HSET.out, if_neg (by decide)]; exact hlast,
        { kept := F.kept
          calm := fun h => F.calm (by rw [HSET.out, if_neg (by decide)] at h; exact h)
          e193 := fun _ => rfl
          e194 := fun h => F.e194 (HS.out 1 (by decide) h)
          e195 := fun h => F.e195 (HS.out 2 (by decide) h)
          e196 := fun h => F.e196 (HS.out 3 (by decide) h)
          e197 := fun h => F.e197 (HS.out 4 (by decide) h)
          e198 := fun h => F.e198 (HS.out 5 (by decide) h)
          e199 := fun h => F.e199 (HS.out 6 (by decide) h)
          e200 := fun h => F.e200 (HS.out 7 (by decide) h)
          e201 := fun h => F.e201 (HS.out 8 (by decide) h)
          e202 := fun h => F.e202 (HS.out 9 (by decide) h)
          e203 := fun h => F.e203 (HS.out 10 (by decide) h)
          e204 := fun h => F.e204 (HS.out 11 (by decide) h)
          e205 := fun h => F.e205 (HS.out 12 (by decide) h)
          e206 := fun h => F.e206 (HS.out 13 (by decide) h)
          e207 := fun h => F.e207 (HS.out 14 (by decide) h) }⟩⟩
    · have d0 : l2.getD 0 false = true := by simp [Region.binds] at hd; simp [hd]
      obtain rfl := F.e193 d0
      have hbk := HB.out _ F.kept
      have c1 : w2.cell? ⟨w.heap.size + 1, 2, none⟩ = some (.slice y.ks y.pis.length y.kc) := by rw [cell_at w2 _ 2 _ _ hbk]; rfl
      clear hbk
      refine wpOp_open rfl (fun K hK => ?_)
      go_simp
      exact hK.out _ _ ⟨_, _, _, _, _, _, _, _, _, _, _, _, _, _, _, rfl, .inl ⟨by rw [HSET.out, if_neg (by decide)]; exact hlast,
        { kept := F.kept
          calm := fun h => F.calm (by rw [HSET.out, if_neg (by decide)] at h; exact h)
          e193 := fun h => F.e193 (HS.out 0 (by decide) h)
          e194 := fun _ => rfl
          e195 := fun h => F.e195 (HS.out 2 (by decide) h)
          e196 := fun h => F.e196 (HS.out 3 (by decide) h)
          e197 := fun h => F.e197 (HS.out 4 (by decide) h)
          e198 := fun h => F.e198 (HS.out 5 (by decide) h)
          e199 := fun h => F.e199 (HS.out 6 (by decide) h)
          e200 := fun h => F.e200 (HS.out 7 (by decide) h)
          e201 := fun h => F.e201 (HS.out 8 (by decide) h)
          e202 := fun h => F.e202 (HS.out 9 (by decide) h)
          e203 := fun h => F.e203 (HS.out 10 (by decide) h)
          e204 := fun h => F.e204 (HS.out 11 (by decide) h)
          e205 := fun h => F.e205 (HS.out 12 (by decide) h)
          e206 := fun h => F.e206 (HS.out 13 (by decide) h)
          e207 := fun h => F.e207 (HS.out 14 (by decide) h) }⟩⟩
    · refine wpOp_open rfl (fun K hK => ?_)
      go_simp
      exact hK.out _ _ ⟨_, _, _, _, _, _, _, _, _, _, _, _, _, _, _, rfl, .inl ⟨by rw [HSET.out, if_neg (by decide)]; exact hlast,
        { kept := F.kept
          calm := fun h => F.calm (by rw [HSET.out, if_neg (by decide)] at h; exact h)
          e193 := fun h => F.e193 (HS.out 0 (by decide) h)
          e194 := fun h => F.e194 (HS.out 1 (by decide) h)
          e195 := fun _ => rfl
          e196 := fun h => F.e196 (HS.out 3 (by decide) h)
          e197 := fun h => F.e197 (HS.out 4 (by decide) h)
          e198 := fun h => F.e198 (HS.out 5 (by decide) h)
          e199 := fun h => F.e199 (HS.out 6 (by decide) h)
          e200 := fun h => F.e200 (HS.out 7 (by decide) h)
          e201 := fun h => F.e201 (HS.out 8 (by decide) h)
          e202 := fun h => F.e202 (HS.out 9 (by decide) h)
          e203 := fun h => F.e203 (HS.out 10 (by decide) h)
          e204 := fun h => F.e204 (HS.out 11 (by decide) h)
          e205 := fun h => F.e205 (HS.out 12 (by decide) h)
          e206 := fun h => F.e206 (HS.out 13 (by decide) h)
          e207 := fun h => F.e207 (HS.out 14 (by decide) h) }⟩⟩
    · refine wpOp_open rfl (fun K hK => ?_)
      go_simp
      exact hK.out _ _ ⟨_, _, _, _, _, _, _, _, _, _, _, _, _, _, _, rfl, .inl ⟨by rw [HSET.out, if_neg (by decide)]; exact hlast,
        { kept := F.kept
          calm := fun h => F.calm (by rw [HSET.out, if_neg (by decide)] at h; exact h)
          e193 := fun h => F.e193 (HS.out 0 (by decide) h)
          e194 := fun h => F.e194 (HS.out 1 (by decide) h)
          e195 := fun h => F.e195 (HS.out 2 (by decide) h)
          e196 := fun _ => rfl
          e197 := fun h => F.e197 (HS.out 4 (by decide) h)
          e198 := fun h => F.e198 (HS.out 5 (by decide) h)
          e199 := fun h => F.e199 (HS.out 6 (by decide) h)
          e200 := fun h => F.e200 (HS.out 7 (by decide) h)
          e201 := fun h => F.e201 (HS.out 8 (by decide) h)
          e202 := fun h => F.e202 (HS.out 9 (by decide) h)
          e203 := fun h => F.e203 (HS.out 10 (by decide) h)
          e204 := fun h => F.e204 (HS.out 11 (by decide) h)
          e205 := fun h => F.e205 (HS.out 12 (by decide) h)
          e206 := fun h => F.e206 (HS.out 13 (by decide) h)
          e207 := fun h => F.e207 (HS.out 14 (by decide) h) }⟩⟩
    · have d2 : l2.getD 2 false = true := by simp [Region.binds] at hd; simp [hd]
      have d3 : l2.getD 3 false = true := by simp [Region.binds] at hd; simp [hd]
      obtain rfl := F.e195 d2
      obtain rfl := F.e196 d3
      have q3 := HHi0.out
      refine wpOp_open rfl (fun K hK => ?_)
      go_simp
      exact hK.out _ _ ⟨_, _, _, _, _, _, _, _, _, _, _, _, _, _, _, rfl, .inl ⟨by rw [HSET.out, if_neg (by decide)]; exact hlast,
        { kept := F.kept
          calm := fun h => F.calm (by rw [HSET.out, if_neg (by decide)] at h; exact h)
          e193 := fun h => F.e193 (HS.out 0 (by decide) h)
          e194 := fun h => F.e194 (HS.out 1 (by decide) h)
          e195 := fun h => F.e195 (HS.out 2 (by decide) h)
          e196 := fun h => F.e196 (HS.out 3 (by decide) h)
          e197 := fun _ => rfl
          e198 := fun h => F.e198 (HS.out 5 (by decide) h)
          e199 := fun h => F.e199 (HS.out 6 (by decide) h)
          e200 := fun h => F.e200 (HS.out 7 (by decide) h)
          e201 := fun h => F.e201 (HS.out 8 (by decide) h)
          e202 := fun h => F.e202 (HS.out 9 (by decide) h)
          e203 := fun h => F.e203 (HS.out 10 (by decide) h)
          e204 := fun h => F.e204 (HS.out 11 (by decide) h)
          e205 := fun h => F.e205 (HS.out 12 (by decide) h)
          e206 := fun h => F.e206 (HS.out 13 (by decide) h)
          e207 := fun h => F.e207 (HS.out 14 (by decide) h) }⟩⟩
    · have d4 : l2.getD 4 false = true := by simp [Region.binds] at hd; simp [hd]
      obtain rfl := F.e197 d4
      have c1 := HC0.out _ F.kept
      refine wpOp_open rfl (fun K hK => ?_)
      go_simp
      exact hK.out _ _ ⟨_, _, _, _, _, _, _, _, _, _, _, _, _, _, _, rfl, .inl ⟨by rw [HSET.out, if_neg (by decide)]; exact hlast,
        { kept := F.kept
          calm := fun h => F.calm (by rw [HSET.out, if_neg (by decide)] at h; exact h)
          e193 := fun h => F.e193 (HS.out 0 (by decide) h)
          e194 := fun h => F.e194 (HS.out 1 (by decide) h)
          e195 := fun h => F.e195 (HS.out 2 (by decide) h)
          e196 := fun h => F.e196 (HS.out 3 (by decide) h)
          e197 := fun h => F.e197 (HS.out 4 (by decide) h)
          e198 := fun _ => rfl
          e199 := fun h => F.e199 (HS.out 6 (by decide) h)
          e200 := fun h => F.e200 (HS.out 7 (by decide) h)
          e201 := fun h => F.e201 (HS.out 8 (by decide) h)
          e202 := fun h => F.e202 (HS.out 9 (by decide) h)
          e203 := fun h => F.e203 (HS.out 10 (by decide) h)
          e204 := fun h => F.e204 (HS.out 11 (by decide) h)
          e205 := fun h => F.e205 (HS.out 12 (by decide) h)
          e206 := fun h => F.e206 (HS.out 13 (by decide) h)
          e207 := fun h => F.e207 (HS.out 14 (by decide) h) }⟩⟩
    · refine wpOp_open rfl (fun K hK => ?_)
      go_simp
      exact hK.out _ _ ⟨_, _, _, _, _, _, _, _, _, _, _, _, _, _, _, rfl, .inl ⟨by rw [HSET.out, if_neg (by decide)]; exact hlast,
        { kept := F.kept
          calm := fun h => F.calm (by rw [HSET.out, if_neg (by decide)] at h; exact h)
          e193 := fun h => F.e193 (HS.out 0 (by decide) h)
          e194 := fun h => F.e194 (HS.out 1 (by decide) h)
          e195 := fun h => F.e195 (HS.out 2 (by decide) h)
          e196 := fun h => F.e196 (HS.out 3 (by decide) h)
          e197 := fun h => F.e197 (HS.out 4 (by decide) h)
          e198 := fun h => F.e198 (HS.out 5 (by decide) h)
          e199 := fun _ => rfl
          e200 := fun h => F.e200 (HS.out 7 (by decide) h)
          e201 := fun h => F.e201 (HS.out 8 (by decide) h)
          e202 := fun h => F.e202 (HS.out 9 (by decide) h)
          e203 := fun h => F.e203 (HS.out 10 (by decide) h)
          e204 := fun h => F.e204 (HS.out 11 (by decide) h)
          e205 := fun h => F.e205 (HS.out 12 (by decide) h)
          e206 := fun h => F.e206 (HS.out 13 (by decide) h)
          e207 := fun h => F.e207 (HS.out 14 (by decide) h) }⟩⟩
    · refine wpOp_open rfl (fun K hK => ?_)
      go_simp
      exact hK.out _ _ ⟨_, _, _, _, _, _, _, _, _, _, _, _, _, _, _, rfl, .inl ⟨by rw [HSET.out, if_neg (by decide)]; exact hlast,
        { kept := F.kept
          calm := fun h => F.calm (by rw [HSET.out, if_neg (by decide)] at h; exact h)
          e193 := fun h => F.e193 (HS.out 0 (by decide) h)
          e194 := fun h => F.e194 (HS.out 1 (by decide) h)
          e195 := fun h => F.e195 (HS.out 2 (by decide) h)
          e196 := fun h => F.e196 (HS.out 3 (by decide) h)
          e197 := fun h => F.e197 (HS.out 4 (by decide) h)
          e198 := fun h => F.e198 (HS.out 5 (by decide) h)
          e199 := fun h => F.e199 (HS.out 6 (by decide) h)
          e200 := fun _ => rfl
          e201 := fun h => F.e201 (HS.out 8 (by decide) h)
          e202 := fun h => F.e202 (HS.out 9 (by decide) h)
          e203 := fun h => F.e203 (HS.out 10 (by decide) h)
          e204 := fun h => F.e204 (HS.out 11 (by decide) h)
          e205 := fun h => F.e205 (HS.out 12 (by decide) h)
          e206 := fun h => F.e206 (HS.out 13 (by decide) h)
          e207 := fun h => F.e207 (HS.out 14 (by decide) h) }⟩⟩
    · have d7 : l2.getD 7 false = true := by simp [Region.binds] at hd; simp [hd]
      obtain rfl := F.e200 d7
      have q1 := HW1.out
      refine wpOp_open rfl (fun K hK => ?_)
      go_simp
      exact hK.out _ _ ⟨_, _, _, _, _, _, _, _, _, _, _, _, _, _, _, rfl, .inl ⟨by rw [HSET.out, if_neg (by decide)]; exact hlast,
        { kept := F.kept
          calm := fun h => F.calm (by rw [HSET.out, if_neg (by decide)] at h; exact h)
          e193 := fun h => F.e193 (HS.out 0 (by decide) h)
          e194 := fun h => F.e194 (HS.out 1 (by decide) h)
          e195 := fun h => F.e195 (HS.out 2 (by decide) h)
          e196 := fun h => F.e196 (HS.out 3 (by decide) h)
          e197 := fun h => F.e197 (HS.out 4 (by decide) h)
          e198 := fun h => F.e198 (HS.out 5 (by decide) h)
          e199 := fun h => F.e199 (HS.out 6 (by decide) h)
          e200 := fun h => F.e200 (HS.out 7 (by decide) h)
          e201 := fun _ => rfl
          e202 := fun h => F.e202 (HS.out 9 (by decide) h)
          e203 := fun h => F.e203 (HS.out 10 (by decide) h)
          e204 := fun h => F.e204 (HS.out 11 (by decide) h)
          e205 := fun h => F.e205 (HS.out 12 (by decide) h)
          e206 := fun h => F.e206 (HS.out 13 (by decide) h)
          e207 := fun h => F.e207 (HS.out 14 (by decide) h) }⟩⟩
    · have d6 : l2.getD 6 false = true := by simp [Region.binds] at hd; simp [hd]
      have d8 : l2.getD 8 false = true := by simp [Region.binds] at hd; simp [hd]
      obtain rfl := F.e199 d6
      obtain rfl := F.e201 d8
      have q1 := HN1.out
      have q2 := HLo1.out
      have q3 := HHi1.out
      refine wpOp_open rfl (fun K hK => ?_)
      go_simp
      exact hK.out _ _ ⟨_, _, _, _, _, _, _, _, _, _, _, _, _, _, _, rfl, .inl ⟨by rw [HSET.out, if_neg (by decide)]; exact hlast,
        { kept := F.kept
          calm := fun h => F.calm (by rw [HSET.out, if_neg (by decide)] at h; exact h)
          e193 := fun h => F.e193 (HS.out 0 (by decide) h)
          e194 := fun h => F.e194 (HS.out 1 (by decide) h)
          e195 := fun h => F.e195 (HS.out 2 (by decide) h)
          e196 := fun h => F.e196 (HS.out 3 (by decide) h)
          e197 := fun h => F.e197 (HS.out 4 (by decide) h)
          e198 := fun h => F.e198 (HS.out 5 (by decide) h)
          e199 := fun h => F.e199 (HS.out 6 (by decide) h)
          e200 := fun h => F.e200 (HS.out 7 (by decide) h)
          e201 := fun h => F.e201 (HS.out 8 (by decide) h)
          e202 := fun _ => rfl
          e203 := fun h => F.e203 (HS.out 10 (by decide) h)
          e204 := fun h => F.e204 (HS.out 11 (by decide) h)
          e205 := fun h => F.e205 (HS.out 12 (by decide) h)
          e206 := fun h => F.e206 (HS.out 13 (by decide) h)
          e207 := fun h => F.e207 (HS.out 14 (by decide) h) }⟩⟩
    · have d9 : l2.getD 9 false = true := by simp [Region.binds] at hd; simp [hd]
      obtain rfl := F.e202 d9
      have c1 := HC1.out _ F.kept
      refine wpOp_open rfl (fun K hK => ?_)
      go_simp
      exact hK.out _ _ ⟨_, _, _, _, _, _, _, _, _, _, _, _, _, _, _, rfl, .inl ⟨by rw [HSET.out, if_neg (by decide)]; exact hlast,
        { kept := F.kept
          calm := fun h => F.calm (by rw [HSET.out, if_neg (by decide)] at h; exact h)
          e193 := fun h => F.e193 (HS.out 0 (by decide) h)
          e194 := fun h => F.e194 (HS.out 1 (by decide) h)
          e195 := fun h => F.e195 (HS.out 2 (by decide) h)
          e196 := fun h => F.e196 (HS.out 3 (by decide) h)
          e197 := fun h => F.e197 (HS.out 4 (by decide) h)
          e198 := fun h => F.e198 (HS.out 5 (by decide) h)
          e199 := fun h => F.e199 (HS.out 6 (by decide) h)
          e200 := fun h => F.e200 (HS.out 7 (by decide) h)
          e201 := fun h => F.e201 (HS.out 8 (by decide) h)
          e202 := fun h => F.e202 (HS.out 9 (by decide) h)
          e203 := fun _ => rfl
          e204 := fun h => F.e204 (HS.out 11 (by decide) h)
          e205 := fun h => F.e205 (HS.out 12 (by decide) h)
          e206 := fun h => F.e206 (HS.out 13 (by decide) h)
          e207 := fun h => F.e207 (HS.out 14 (by decide) h) }⟩⟩
    · have d5 : l2.getD 5 false = true := by simp [Region.binds] at hd; simp [hd]
      have d10 : l2.getD 10 false = true := by simp [Region.binds] at hd; simp [hd]
      obtain rfl := F.e198 d5
      obtain rfl := F.e203 d10
      refine wpOp_open rfl (fun K hK => ?_)
      go_simp
      exact hK.out _ _ ⟨_, _, _, _, _, _, _, _, _, _, _, _, _, _, _, rfl, .inl ⟨by rw [HSET.out, if_neg (by decide)]; exact hlast,
        { kept := F.kept
          calm := fun h => F.calm (by rw [HSET.out, if_neg (by decide)] at h; exact h)
          e193 := fun h => F.e193 (HS.out 0 (by decide) h)
          e194 := fun h => F.e194 (HS.out 1 (by decide) h)
          e195 := fun h => F.e195 (HS.out 2 (by decide) h)
          e196 := fun h => F.e196 (HS.out 3 (by decide) h)
          e197 := fun h => F.e197 (HS.out 4 (by decide) h)
          e198 := fun h => F.e198 (HS.out 5 (by decide) h)
          e199 := fun h => F.e199 (HS.out 6 (by decide) h)
          e200 := fun h => F.e200 (HS.out 7 (by decide) h)
          e201 := fun h => F.e201 (HS.out 8 (by decide) h)
          e202 := fun h => F.e202 (HS.out 9 (by decide) h)
          e203 := fun h => F.e203 (HS.out 10 (by decide) h)
          e204 := fun _ => rfl
          e205 := fun h => F.e205 (HS.out 12 (by decide) h)
          e206 := fun h => F.e206 (HS.out 13 (by decide) h)
          e207 := fun h => F.e207 (HS.out 14 (by decide) h) }⟩⟩
    · have d11 : l2.getD 11 false = true := by simp [Region.binds] at hd; simp [hd]
      obtain rfl := F.e204 d11
      have hk3 : Kept (fun _ => False) w2 (w2.alloc (.cells #[.int .i64 k, .int .i64 n] 57)) := (Kept.refl _ w2).alloc _
      have F2 := F.on hk3
      refine wpOp_open rfl (fun K hK => ?_)
      go_simp
      exact hK.out _ _ ⟨_, _, _, _, _, _, _, _, _, _, _, _, _, _, _, rfl, .inl ⟨by rw [HSET.out, if_neg (by decide)]; exact hlast,
        { kept := F2.kept
          calm := fun h => F2.calm (by rw [HSET.out, if_neg (by decide)] at h; exact h)
          e193 := fun h => F2.e193 (HS.out 0 (by decide) h)
          e194 := fun h => F2.e194 (HS.out 1 (by decide) h)
          e195 := fun h => F2.e195 (HS.out 2 (by decide) h)
          e196 := fun h => F2.e196 (HS.out 3 (by decide) h)
          e197 := fun h => F2.e197 (HS.out 4 (by decide) h)
          e198 := fun h => F2.e198 (HS.out 5 (by decide) h)
          e199 := fun h => F2.e199 (HS.out 6 (by decide) h)
          e200 := fun h => F2.e200 (HS.out 7 (by decide) h)
          e201 := fun h => F2.e201 (HS.out 8 (by decide) h)
          e202 := fun h => F2.e202 (HS.out 9 (by decide) h)
          e203 := fun h => F2.e203 (HS.out 10 (by decide) h)
          e204 := fun h => F2.e204 (HS.out 11 (by decide) h)
          e205 := fun _ => ⟨_, rfl, F.kept.size, heap_alloc_new w2 _⟩
          e206 := fun h => F2.e206 (HS.out 13 (by decide) h)
          e207 := fun h => F2.e207 (HS.out 14 (by decide) h) }⟩⟩
    · have d1 : l2.getD 1 false = true := by simp [Region.binds] at hd; simp [hd]
      have d12 : l2.getD 12 false = true := by simp [Region.binds] at hd; simp [hd]
      obtain rfl := F.e194 d1
      obtain ⟨B1, rfl, hB2, hB1⟩ := F.e205 d12
      have hcalm := F.calm hu'
      have hown2 := own_kept HOWN.out hcalm (fun _ _ f => f)
      have hz2 := hcalm.size
      have hle := HLE.out
      have hbase := HBASE.out
      refine wpOp_open rfl (fun K hK => ?_)
      refine step_append_elems (ys := [x]) _ (by rfl) _ _ _ (by rfl) (w.heap.size + 1 + 1) 57 i4 (.agg #[.int .i64 0, .int .i64 0]) 2 16 Try.underlying24 HI4.out HZ4.out HN4.out HB4.out rfl (by decide) Pi.two (one_pi _) (.slice y.ks y.pis.length y.kc) y.pis.length (flat Pi.cells y.pis) (by rfl) hown2 _ _ _ (by rfl) (Elems.block Pi.two hB1 HXC.out (by show 1 ≤ maxLen; decide)) (by show y.pis.length + 1 ≤ maxLen; unfold maxLen; omega) (by show (y.pis.length + 1) * 16 ≤ _; omega) (by omega) ?_
      intro v' w3 hown3 hg3 hat
      obtain ⟨g3, c4, rfl, hg31, hg32⟩ := World.ownsRow.form hown3 (by show 0 < y.pis.length + 1; omega)
      have hkw : Kept (fun q => (Value.slice y.ks y.pis.length y.kc).ownBlock = some q) w2 w3 := (Kept.refl _ w2).grown hg3 (fun q _ e => e)
      rw [← flat_append] at hown3
      have hrlt : ∀ q, (Value.slice y.ks y.pis.length y.kc).ownBlock = some q → q < wr.heap.size := fun q hq => (World.ownsRow.lt HOWN.out q hq).2
      simp only [Act.put, List.setIfInBounds_toArray]
      exact hK.out _ _ ⟨_, _, _, _, _, _, _, _, _, _, _, _, _, _, _, rfl, .inl ⟨by rw [HSET.out, if_neg (by decide)]; exact hlast,
        { kept := (hcalm.mono (fun _ _ f => f.elim)).trans hkw (fun _ _ e => e)
          calm := fun h => by rw [HSET.out, if_pos rfl] at h; cases h
          e193 := fun h => F.e193 (HS.out 0 (by decide) h)
          e194 := fun h => F.e194 (HS.out 1 (by decide) h)
          e195 := fun h => F.e195 (HS.out 2 (by decide) h)
          e196 := fun h => F.e196 (HS.out 3 (by decide) h)
          e197 := fun h => F.e197 (HS.out 4 (by decide) h)
          e198 := fun h => F.e198 (HS.out 5 (by decide) h)
          e199 := fun h => F.e199 (HS.out 6 (by decide) h)
          e200 := fun h => F.e200 (HS.out 7 (by decide) h)
          e201 := fun h => F.e201 (HS.out 8 (by decide) h)
          e202 := fun h => F.e202 (HS.out 9 (by decide) h)
          e203 := fun h => F.e203 (HS.out 10 (by decide) h)
          e204 := fun h => F.e204 (HS.out 11 (by decide) h)
          e205 := fun _ => ⟨B1, rfl, hB2, (hkw.block B1 (Array.getElem?_eq_some_iff.1 hB1).1 (fun hr => by have := hrlt B1 hr; omega)).trans hB1⟩
          e206 := fun _ => ⟨_, _, rfl, hown3, hat.imp id (fun e => ⟨_, e, hz2⟩)⟩
          e207 := fun h => F.e207 (HS.out 14 (by decide) h) }⟩⟩
    · refine wpOp_open rfl (fun K hK => ?_)
      go_simp
      exact hK.out _ _ ⟨_, _, _, _, _, _, _, _, _, _, _, _, _, _, _, rfl, .inl ⟨by rw [HSET.out, if_neg (by decide)]; exact hlast,
        { kept := F.kept
          calm := fun h => F.calm (by rw [HSET.out, if_neg (by decide)] at h; exact h)
          e193 := fun h => F.e193 (HS.out 0 (by decide) h)
          e194 := fun h => F.e194 (HS.out 1 (by decide) h)
          e195 := fun h => F.e195 (HS.out 2 (by decide) h)
          e196 := fun h => F.e196 (HS.out 3 (by decide) h)
          e197 := fun h => F.e197 (HS.out 4 (by decide) h)
          e198 := fun h => F.e198 (HS.out 5 (by decide) h)
          e199 := fun h => F.e199 (HS.out 6 (by decide) h)
          e200 := fun h => F.e200 (HS.out 7 (by decide) h)
          e201 := fun h => F.e201 (HS.out 8 (by decide) h)
          e202 := fun h => F.e202 (HS.out 9 (by decide) h)
          e203 := fun h => F.e203 (HS.out 10 (by decide) h)
          e204 := fun h => F.e204 (HS.out 11 (by decide) h)
          e205 := fun h => F.e205 (HS.out 12 (by decide) h)
          e206 := fun h => F.e206 (HS.out 13 (by decide) h)
          e207 := fun _ => rfl }⟩⟩
    · have d13 : l2.getD 13 false = true := by simp [Region.binds] at hd; simp [hd]
      have d14 : l2.getD 14 false = true := by simp [Region.binds] at hd; simp [hd]
      obtain rfl := F.e207 d14
      obtain ⟨s5, c5, rfl, hrest⟩ := F.e206 d13
      have hall : ∀ j, j < 15 → l2.getD j false = true := by
        simp [Region.binds] at hd
        intro j hj
        have hj' : j = 0 ∨ j = 1 ∨ j = 2 ∨ j = 3 ∨ j = 4 ∨ j = 5 ∨ j = 6 ∨ j = 7 ∨ j = 8 ∨ j = 9 ∨ j = 10 ∨ j = 11 ∨ j = 12 ∨ j = 13 ∨ j = 14 := by omega
        rcases hj' with rfl | rfl | rfl | rfl | rfl | rfl | rfl | rfl | rfl | rfl | rfl | rfl | rfl | rfl | rfl <;> simp [hd]
      have hbk := HB.out _ F.kept
      have c1 : w2.cell? ⟨w.heap.size + 1, 2, none⟩ = some (.slice y.ks y.pis.length y.kc) := by rw [cell_at w2 _ 2 _ _ hbk]; rfl
      have f1 := frozen_at w2 (w.heap.size + 1) 2 _ _ hbk
      clear hbk
      refine wpOp_open rfl (fun K hK => ?_)
      go_simp
      exact hK.out _ _ ⟨_, _, _, _, _, _, _, _, _, _, _, _, _, _, _, rfl, .inr ⟨by rw [HSET.out, if_pos rfl], fun j hj => by rw [HSET.out]; split; rfl; exact hall j hj, l2, w2, hall, F, rfl⟩⟩
  case hend =>
    intro l2 a2 w2 hs hI hr
    have hs' : l2.size = 16 := hs
    obtain ⟨v193, v194, v195, v196, v197, v198, v199, v200, v201, v202, v203, v204, v205, v206, v207, rfl, ⟨hlast, F⟩ | ⟨_, _, l0, w0, hall0, F, rfl⟩⟩ := hI
    case inl =>
      exfalso
      have e0 : l2.getD 0 false = true := getD_same (by omega) (ready_in (i := 0) hr (by decide) (by simp [Region.binds]))
      have q0 : l2[0]?.getD false = true := by simpa using e0
      have e1 : l2.getD 1 false = true := getD_same (by omega) (ready_in (i := 1) hr (by decide) (by simp [Region.binds, q0]))
      have q1 : l2[1]?.getD false = true := by simpa using e1
      have e2 : l2.getD 2 false = true := getD_same (by omega) (ready_in (i := 2) hr (by decide) (by simp [Region.binds]))
      have q2 : l2[2]?.getD false = true := by simpa using e2
      have e3 : l2.getD 3 false = true := getD_same (by omega) (ready_in (i := 3) hr (by decide) (by simp [Region.binds]))
      have q3 : l2[3]?.getD false = true := by simpa using e3
      have e4 : l2.getD 4 false = true := getD_same (by omega) (ready_in (i := 4) hr (by decide) (by simp [Region.binds, q2, q3]))
      have q4 : l2[4]?.getD false = true := by simpa using e4
      have e5 : l2.getD 5 false = true := getD_same (by omega) (ready_in (i := 5) hr (by decide) (by simp [Region.binds, q4]))
      have q5 : l2[5]?.getD false = true := by simpa using e5
      have e6 : l2.getD 6 false = true := getD_same (by omega) (ready_in (i := 6) hr (by decide) (by simp [Region.binds]))
      have q6 : l2[6]?.getD false = true := by simpa using e6
      have e7 : l2.getD 7 false = true := getD_same (by omega) (ready_in (i := 7) hr (by decide) (by simp [Region.binds]))
      have q7 : l2[7]?.getD false = true := by simpa using e7
      have e8 : l2.getD 8 false = true := getD_same (by omega) (ready_in (i := 8) hr (by decide) (by simp [Region.binds, q7]))
      have q8 : l2[8]?.getD false = true := by simpa using e8
      have e9 : l2.getD 9 false = true := getD_same (by omega) (ready_in (i := 9) hr (by decide) (by simp [Region.binds, q6, q8]))
      have q9 : l2[9]?.getD false = true := by simpa using e9
      have e10 : l2.getD 10 false = true := getD_same (by omega) (ready_in (i := 10) hr (by decide) (by simp [Region.binds, q9]))
      have q10 : l2[10]?.getD false = true := by simpa using e10
      have e11 : l2.getD 11 false = true := getD_same (by omega) (ready_in (i := 11) hr (by decide) (by simp [Region.binds, q5, q10]))
      have q11 : l2[11]?.getD false = true := by simpa using e11
      have e12 : l2.getD 12 false = true := getD_same (by omega) (ready_in (i := 12) hr (by decide) (by simp [Region.binds, q11]))
      have q12 : l2[12]?.getD false = true := by simpa using e12
      have e13 : l2.getD 13 false = true := getD_same (by omega) (ready_in (i := 13) hr (by decide) (by simp [Region.binds, q1, q12]))
      have q13 : l2[13]?.getD false = true := by simpa using e13
      have e14 : l2.getD 14 false = true := getD_same (by omega) (ready_in (i := 14) hr (by decide) (by simp [Region.binds, q0, q1, q2, q3, q4, q5, q6, q7, q8, q9, q10, q11, q12, q13]))
      have q14 : l2[14]?.getD false = true := by simpa using e14
      have e15 : l2.getD 15 false = true := getD_same (by omega) (ready_in (i := 15) hr (by decide) (by simp [Region.binds, q0, q1, q2, q3, q4, q5, q6, q7, q8, q9, q10, q11, q12, q13, q14]))
      have q15 : l2[15]?.getD false = true := by simpa using e15
      rw [e15] at hlast
      cases hlast
    subst_vars
    obtain ⟨s5, c5, rfl, hrow, hoff⟩ := F.e206 (hall0 13 (by decide))
    have hkS : Kept (fun q => q = w.heap.size + 1) w0 (w0.setCell ⟨w.heap.size + 1, 2, none⟩ (.slice s5 (y.pis.length + 1) c5)) := (Kept.refl (fun q => q = w.heap.size + 1) w0).setCell _ _ (fun _ => rfl)
    have hb2 := HB.out _ F.kept
    have hkk : Kept (fun q => q = w.heap.size + 1 ∨ (Value.slice y.ks y.pis.length y.kc).ownBlock = some q) wr (w0.setCell ⟨w.heap.size + 1, 2, none⟩ (.slice s5 (y.pis.length + 1) c5)) := (F.kept.mono (fun _ _ e => .inr e)).trans hkS (fun _ _ e => .inl e)
    refine hnext.out _ _ (frS_of (by kernel_rfl)) ⟨⟨y.os, y.oc, y.obs, y.ps, y.pc, y.prs, s5, c5, y.pis ++ [x]⟩, rfl, ⟨rfl, rfl, rfl, rfl, rfl, rfl⟩, ⟨?_, ?_, ?_⟩, ?_, hkk, ?_⟩
    · have := set_block (o := 2) (v := .slice s5 (y.pis.length + 1) c5) hb2
      show _ = some (Obj.cells #[.slice y.os y.obs.length y.oc, .slice y.ps y.prs.length y.pc, .slice s5 (y.pis ++ [x]).length c5] _ _)
      rw [this]
      simp
    · refine (hkk.block _ (by have := HVLT.out; omega) (fun e => ?_)).trans HV.out.res
      rcases e with e | e
      · omega
      · have := HRB.out _ e; omega
    · refine HV.out.kept.trans hkk (fun q hq e => ?_)
      rcases e with e | e
      · omega
      · have := HRB.out _ e; omega
    · have hl1 : (y.pis ++ [x]).length = y.pis.length + 1 := by simp
      show World.ownsRow _ _ _ _ (.slice s5 (y.pis ++ [x]).length c5) (y.pis ++ [x]).length _
      rw [hl1]
      exact own_kept hrow hkS (fun q hq e => by have := (World.ownsRow.lt hrow q hq).1; omega)
    · rw [own_slice _ _ _ (y.pis.length + 1) c5]
      exact hoff

end Go.Proofs.Ytkicpbnphbcdaaa
