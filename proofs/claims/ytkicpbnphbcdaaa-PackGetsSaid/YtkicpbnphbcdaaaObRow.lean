/-
  The region where shape takes an object: it loads the script's list, and stores it one longer.
  Conditions: the numbers lie in blocks that were there.
-/
import Derived.Test.YtkicpbnphbcdaaaShapeKit
namespace Go.Proofs.Ytkicpbnphbcdaaa
open Go.RowKit

/-- What the operations that have come up leave. -/
structure ObRowFacts (W3 : World) (b base : Nat) (g off c a : Nat) (l : List Int) (y : Sc) (k f n : Int) (x : Ob) (l2 : Array Bool) (w : World) (v71 v72 v73 v74 v75 v76 v77 v78 v79 v80 v81 v82 v83 v84 v85 v86 v87 v88 v89 v90 v91 : Value) : Prop where
  kept : Kept (fun q => (Value.slice y.os y.obs.length y.oc).ownBlock = some q) W3 w
  calm : l2.getD 19 false = false → Kept (fun _ => False) W3 w
  e71 : l2.getD 0 false = true → v71 = .pointer (some ⟨b, 0, none⟩)
  e72 : l2.getD 1 false = true → v72 = .slice y.os y.obs.length y.oc
  e73 : l2.getD 2 false = true → v73 = .slice (some ⟨g, off, none⟩) l.length c
  e74 : l2.getD 3 false = true → v74 = .int .i64 (a : Int)
  e75 : l2.getD 4 false = true → v75 = .pointer (some ⟨g, off + a, none⟩)
  e76 : l2.getD 5 false = true → v76 = .int .i64 k
  e77 : l2.getD 6 false = true → v77 = .slice (some ⟨g, off, none⟩) l.length c
  e78 : l2.getD 7 false = true → v78 = .int .i64 (a : Int)
  e79 : l2.getD 8 false = true → v79 = .int .i64 ((a : Int) + 1)
  e80 : l2.getD 9 false = true → v80 = .pointer (some ⟨g, off + (a + 1), none⟩)
  e81 : l2.getD 10 false = true → v81 = .int .i64 f
  e82 : l2.getD 11 false = true → v82 = .bool (f == 1)
  e83 : l2.getD 12 false = true → v83 = .slice (some ⟨g, off, none⟩) l.length c
  e84 : l2.getD 13 false = true → v84 = .int .i64 (a : Int)
  e85 : l2.getD 14 false = true → v85 = .int .i64 ((a : Int) + 2)
  e86 : l2.getD 15 false = true → v86 = .pointer (some ⟨g, off + (a + 2), none⟩)
  e87 : l2.getD 16 false = true → v87 = .int .i64 n
  e88 : l2.getD 17 false = true → v88 = .agg #[.int .i64 k, .bool (f == 1), .int .i64 n]
  e89 : l2.getD 18 false = true → ∃ G, v89 = .slice (some ⟨G, 0, none⟩) 1 1 ∧ W3.heap.size ≤ G ∧ w.heap[G]? = some (.cells #[.int .i64 k, .bool (f == 1), .int .i64 n] 48 (0, 0))
  e90 : l2.getD 19 false = true → ∃ s c', v90 = .slice s (y.obs.length + 1) c' ∧ w.ownsRow base 48 3 (.slice s (y.obs.length + 1) c') (y.obs.length + 1) (flat Ob.cells (y.obs ++ [x])) ∧ ((Value.slice s (y.obs.length + 1) c').ownBlock = (Value.slice y.os y.obs.length y.oc).ownBlock ∨ ∃ g', (Value.slice s (y.obs.length + 1) c').ownBlock = some g' ∧ W3.heap.size ≤ g')
  e91 : l2.getD 20 false = true → v91 = .pointer (some ⟨b, 0, none⟩)

section
variable {l2 : Array Bool} {w w' : World} {v71 v72 v73 v74 v75 v76 v77 v78 v79 v80 v81 v82 v83 v84 v85 v86 v87 v88 v89 v90 v91 : Value}
theorem ObRowFacts.on {W3 : World} {b base : Nat} {g off c a : Nat} {l : List Int} {y : Sc} {k f n : Int} {x : Ob} (F : ObRowFacts W3 b base g off c a l y k f n x l2 w v71 v72 v73 v74 v75 v76 v77 v78 v79 v80 v81 v82 v83 v84 v85 v86 v87 v88 v89 v90 v91) (hk : Kept (fun _ => False) w w') : ObRowFacts W3 b base g off c a l y k f n x l2 w' v71 v72 v73 v74 v75 v76 v77 v78 v79 v80 v81 v82 v83 v84 v85 v86 v87 v88 v89 v90 v91 where
  kept := F.kept.trans hk (fun _ _ f => f.elim)
  calm := fun h => (F.calm h).trans hk (fun _ _ f => f)
  e71 := F.e71
  e72 := F.e72
  e73 := F.e73
  e74 := F.e74
  e75 := F.e75
  e76 := F.e76
  e77 := F.e77
  e78 := F.e78
  e79 := F.e79
  e80 := F.e80
  e81 := F.e81
  e82 := F.e82
  e83 := F.e83
  e84 := F.e84
  e85 := F.e85
  e86 := F.e86
  e87 := F.e87
  e88 := F.e88
  e89 := fun h => by obtain ⟨G, e, hG, h1⟩ := F.e89 h; exact ⟨G, e, hG, (hk.block G (Array.getElem?_eq_some_iff.1 h1).1 (fun f => f)).trans h1⟩
  e90 := fun h => by obtain ⟨s, c', e, h1, h2⟩ := F.e90 h; exact ⟨s, c', e, own_kept h1 hk (fun _ _ f => f), h2⟩
  e91 := F.e91
end

/-- All of it; or it is done. -/
def ObRowInv (W3 : World) (b base : Nat) (g off c a : Nat) (l : List Int) (y : Sc) (k f n : Int) (x : Ob) (fr : Value → Value → Value → Value → Value → Value → Value → Value → Value → Value → Value → Value → Value → Value → Value → Value → Value → Value → Value → Value → Value → Act) (l2 : Array Bool) (a2 : Act) (w : World) : Prop :=
  ∃ v71 v72 v73 v74 v75 v76 v77 v78 v79 v80 v81 v82 v83 v84 v85 v86 v87 v88 v89 v90 v91, a2 = fr v71 v72 v73 v74 v75 v76 v77 v78 v79 v80 v81 v82 v83 v84 v85 v86 v87 v88 v89 v90 v91 ∧
    ((l2.getD 21 false = false ∧ ObRowFacts W3 b base g off c a l y k f n x l2 w v71 v72 v73 v74 v75 v76 v77 v78 v79 v80 v81 v82 v83 v84 v85 v86 v87 v88 v89 v90 v91) ∨
     (l2.getD 21 false = true ∧ (∀ j, j < 21 → l2.getD j false = true) ∧ ∃ l0 w0, (∀ j, j < 21 → l0.getD j false = true) ∧ ObRowFacts W3 b base g off c a l y k f n x l0 w0 v71 v72 v73 v74 v75 v76 v77 v78 v79 v80 v81 v82 v83 v84 v85 v86 v87 v88 v89 v90 v91 ∧ w = w0.setCell ⟨b, 0, none⟩ v90))

/-- What ObRow leaves. -/
def ObRowDone (w wr : World) (y : Sc) (x : Ob) (w' : World) : Prop :=
  ∃ y' : Sc, y'.obs = y.obs ++ [x] ∧ (y'.ps = y.ps ∧ y'.pc = y.pc ∧ y'.prs = y.prs ∧ y'.ks = y.ks ∧ y'.kc = y.kc ∧ y'.pis = y.pis) ∧ Var w w' y' ∧ w'.ownsRow (w.heap.size + 1 + 1) 48 3 (.slice y'.os y'.obs.length y'.oc) y'.obs.length (flat Ob.cells y'.obs) ∧ Kept (fun q => q = w.heap.size + 1 ∨ (Value.slice y.os y.obs.length y.oc).ownBlock = some q) wr w' ∧ ((Value.slice y'.os y'.obs.length y'.oc).ownBlock = (Value.slice y.os y.obs.length y.oc).ownBlock ∨ ∃ g', (Value.slice y'.os y'.obs.length y'.oc).ownBlock = some g' ∧ wr.heap.size ≤ g')

noncomputable def codeObRow : Code := down [1, 0, 0, 1, 0, 1, 0, 1, 0] loopB

set_option maxHeartbeats 8000000 in
set_option maxRecDepth 100000 in
theorem obrow_region {w wr : World} {B c a : Nat} {A : Option Addr} {l : List Int} {y : Sc} {v6 v7 v8 v9 v10 v11 v46 : Value} {u : Nat → Value} {Q : Exit → Act → World → Prop} {k f n : Int}
    (h : ShapeIn w B A l) (hv : Var w wr y) (hown : wr.ownsRow (w.heap.size + 1 + 1) 48 3 (.slice y.os y.obs.length y.oc) y.obs.length (flat Ob.cells y.obs)) (hyl : y.obs.length ≤ 65536) (hal : a + 3 ≤ l.length) (h0 : l[a]? = some k) (h1 : l[a + 1]? = some f) (h2 : l[a + 2]? = some n)
    (hnext : Hid (∀ a' w', (∃ u', a' = frS A l.length c w.heap.size (.int .i64 a) v6 v7 v8 v9 v10 v11 v46 u') → ObRowDone w wr y ⟨k, f == 1, n⟩ w' → Q .normal a' w')) :
    Code.wp Try.prog codeObRow Q (frS A l.length c w.heap.size (.int .i64 a) v6 v7 v8 v9 v10 v11 v46 u) wr := by
  obtain ⟨x, hx⟩ : ∃ x : Ob, x = ⟨k, f == 1, n⟩ := ⟨_, rfl⟩
  have HXC : Hid (#[.int .i64 k, .bool (f == 1), .int .i64 n] = (flat Ob.cells [x]).toArray) := Lib.hid (by rw [hx]; rfl)
  rw [← hx] at hnext
  clear hx
  have hla := h.few
  obtain ⟨g, off, rfl, hg, _⟩ := int_at (h.at hv.kept) h0
  have hlow := h.low
  have hwr := hv.kept.size
  have hvb := hv.var
  have hvlt : w.heap.size + 1 < wr.heap.size := (Array.getElem?_eq_some_iff.1 hvb).1
  have hrb : ∀ q, (Value.slice y.os y.obs.length y.oc).ownBlock = some q → w.heap.size + 1 + 1 ≤ q := fun q hq => (World.ownsRow.lt hown q hq).1
  have hke : ∀ w', Kept (fun q => (Value.slice y.os y.obs.length y.oc).ownBlock = some q) wr w' → Elems w' B (some ⟨g, off, none⟩) 1 iC l := fun w' hk => (h.at hv.kept).kept hk (by omega) (fun q hq e => by have := hrb q e; omega)
  have HC0 := Lib.hid (fun (w' : World) (hk : Kept (fun q => (Value.slice y.os y.obs.length y.oc).ownBlock = some q) wr w') => int_same (hke w' hk) h0)
  have HC1 := Lib.hid (fun (w' : World) (hk : Kept (fun q => (Value.slice y.os y.obs.length y.oc).ownBlock = some q) wr w') => int_same (hke w' hk) h1)
  have HC2 := Lib.hid (fun (w' : World) (hk : Kept (fun q => (Value.slice y.os y.obs.length y.oc).ownBlock = some q) wr w') => int_same (hke w' hk) h2)
  have HHi0 : Hid ((a : Int) < (l.length : Int)) := Lib.hid (by omega)
  have HW1 : Hid (IntKind.i64.wrap ((a : Int) + 1) = (a : Int) + 1) := Lib.hid (IntWalk.i64_in _ (by omega))
  have HN1 : Hid (((a : Int) + 1).toNat = a + 1) := Lib.hid (by omega)
  have HLo1 : Hid ((0 : Int) ≤ (a : Int) + 1) := Lib.hid (by omega)
  have HHi1 : Hid ((a : Int) + 1 < (l.length : Int)) := Lib.hid (by omega)
  have HW2 : Hid (IntKind.i64.wrap ((a : Int) + 2) = (a : Int) + 2) := Lib.hid (IntWalk.i64_in _ (by omega))
  have HN2 : Hid (((a : Int) + 2).toNat = a + 2) := Lib.hid (by omega)
  have HLo2 : Hid ((0 : Int) ≤ (a : Int) + 2) := Lib.hid (by omega)
  have HHi2 : Hid ((a : Int) + 2 < (l.length : Int)) := Lib.hid (by omega)
  have HB := Lib.hid (fun (w' : World) (hk : Kept (fun q => (Value.slice y.os y.obs.length y.oc).ownBlock = some q) wr w') => (hk.block (w.heap.size + 1) hvlt (fun e => by have := hrb _ e; omega)).trans hvb)
  have HOWN := Lib.hid hown
  have HLE := Lib.hid hyl
  have HBASE : Hid (w.heap.size + 1 + 1 ≤ wr.heap.size) := Lib.hid (by omega)
  have HV := Lib.hid hv
  have HRB := Lib.hid hrb
  have HVLT := Lib.hid hvlt
  obtain ⟨i4, hi4, hz4, hn4, hb4⟩ := info_parts (show (Try.prog.info? 48).map (fun i => (i.zero, i.size, i.bytes)) = some (some ((.agg #[.int .i64 0, .bool false, .int .i64 0])), 3, 24) by kernel_rfl)
  have HI4 := Lib.hid hi4; clear hi4
  have HZ4 := Lib.hid hz4; clear hz4
  have HN4 := Lib.hid hn4; clear hn4
  have HB4 := Lib.hid hb4; clear hb4
  clear hown hyl hv hke hvb hrb hvlt hwr hlow hg hla hal h h0 h1 h2
  unfold frS
  conv => arg 2; whnf
  refine wp_region_any (by kernel_rfl) (wpAny_inv (ObRowInv wr (w.heap.size + 1) (w.heap.size + 1 + 1) g off c a l y k f n x (fun v71 v72 v73 v74 v75 v76 v77 v78 v79 v80 v81 v82 v83 v84 v85 v86 v87 v88 v89 v90 v91 => ⟨#[.slice (some ⟨g, off, none⟩) l.length c, u 1, .pointer (some ⟨w.heap.size, 0, none⟩), .bool false, .pointer (some ⟨w.heap.size + 1, 0, none⟩), .int .i64 a, v6, v7, v8, v9, v10, v11, u 12, u 13, u 14, u 15, u 16, u 17, u 18, u 19, u 20, u 21, u 22, u 23, u 24, u 25, u 26, u 27, u 28, u 29, u 30, u 31, u 32, u 33, u 34, u 35, u 36, u 37, u 38, u 39, u 40, u 41, u 42, u 43, u 44, u 45, v46, u 47, u 48, u 49, u 50, u 51, u 52, u 53, u 54, u 55, u 56, u 57, u 58, u 59, u 60, u 61, u 62, u 63, u 64, u 65, u 66, u 67, u 68, u 69, u 70, v71, v72, v73, v74, v75, v76, v77, v78, v79, v80, v81, v82, v83, v84, v85, v86, v87, v88, v89, v90, v91, u 92, u 93, u 94, u 95, u 96, u 97, u 98, u 99, u 100, u 101, u 102, u 103, u 104, u 105, u 106, u 107, u 108, u 109, u 110, u 111, u 112, u 113, u 114, u 115, u 116, u 117, u 118, u 119, u 120, u 121, u 122, u 123, u 124, u 125, u 126, u 127, u 128, u 129, u 130, u 131, u 132, u 133, u 134, u 135, u 136, u 137, u 138, u 139, u 140, u 141, u 142, u 143, u 144, u 145, u 146, u 147, u 148, u 149, u 150, u 151, u 152, u 153, u 154, u 155, u 156, u 157, u 158, u 159, u 160, u 161, u 162, u 163, u 164, u 165, u 166, u 167, u 168, u 169, u 170, u 171, u 172, u 173, u 174, u 175, u 176, u 177, u 178, u 179, u 180, u 181, u 182, u 183, u 184, u 185, u 186, u 187, u 188, u 189, u 190, u 191, u 192, u 193, u 194, u 195, u 196, u 197, u 198, u 199, u 200, u 201, u 202, u 203, u 204, u 205, u 206, u 207, u 208, u 209, u 210, u 211, u 212, u 213, u 214], []⟩)) ?hstep ?hend _ _ _ _ (by simp) (by simp) ?hstart)
  case hstart =>
    exact ⟨_, _, _, _, _, _, _, _, _, _, _, _, _, _, _, _, _, _, _, _, _, rfl, .inl ⟨by simp, ⟨(Kept.refl _ _).drew, fun _ => (Kept.refl _ _).drew, fun h => by simp at h, fun h => by simp at h, fun h => by simp at h, fun h => by simp at h, fun h => by simp at h, fun h => by simp at h, fun h => by simp at h, fun h => by simp at h, fun h => by simp at h, fun h => by simp at h, fun h => by simp at h, fun h => by simp at h, fun h => by simp at h, fun h => by simp at h, fun h => by simp at h, fun h => by simp at h, fun h => by simp at h, fun h => by simp at h, fun h => by simp at h, fun h => by simp at h, fun h => by simp at h⟩⟩⟩
  case hstep =>
    intro l2 a2 w2 i hs hI hi
    have hs' : l2.size = 22 := hs
    obtain ⟨hlt, hu, hd⟩ := ready_of hi
    have hset : ∀ j b, (l2.setIfInBounds i true).getD j b = if j = i then true else l2.getD j b := fun j b => getD_set (by omega)
    have hlt' : i < 22 := hlt
    clear hi hlt
    have hu' := getD_false hu
    obtain ⟨v71, v72, v73, v74, v75, v76, v77, v78, v79, v80, v81, v82, v83, v84, v85, v86, v87, v88, v89, v90, v91, rfl, ⟨hlast, F⟩ | ⟨hlast, hall, _⟩⟩ := hI
    case inr =>
      exfalso
      by_cases hil : i = 21
      · subst hil; rw [hlast] at hu'; cases hu'
      · rw [hall i (by omega)] at hu'; cases hu'
    have hi : i = 0 ∨ i = 1 ∨ i = 2 ∨ i = 3 ∨ i = 4 ∨ i = 5 ∨ i = 6 ∨ i = 7 ∨ i = 8 ∨ i = 9 ∨ i = 10 ∨ i = 11 ∨ i = 12 ∨ i = 13 ∨ i = 14 ∨ i = 15 ∨ i = 16 ∨ i = 17 ∨ i = 18 ∨ i = 19 ∨ i = 20 ∨ i = 21 := by omega
    clear hlt'
    have hsj : ∀ j, j ≠ i → (l2.setIfInBounds i true).getD j false = true → l2.getD j false = true := fun j hj h => by rw [hset, if_neg hj] at h; exact h
    have HS := Lib.hid hsj; clear hsj
    have HSET := Lib.hid hset; clear hset
    rcases hi with rfl | rfl | rfl | rfl | rfl | rfl | rfl | rfl | rfl | rfl | rfl | rfl | rfl | rfl | rfl | rfl | rfl | rfl | rfl | rfl | rfl | rfl
    · refine wpOp_open rfl (fun K hK => ?_)
      go_simp
      exact hK.out _ _ ⟨_, _, _, _, _, _, _, _, _, _, _, _, _, _, _, _, _, _, _, _, _, rfl, .inl ⟨by rw [HSET.out, if_neg (by decide)]; exact hlast,
        { kept := F.kept
          calm := fun h => F.calm (by rw [HSET.out, if_neg (by decide)] at h; exact h)
          e71 := fun _ => rfl
          e72 := fun h => F.e72 (HS.out 1 (by decide) h)
          e73 := fun h => F.e73 (HS.out 2 (by decide) h)
          e74 := fun h => F.e74 (HS.out 3 (by decide) h)
          e75 := fun h => F.e75 (HS.out 4 (by decide) h)
          e76 := fun h => F.e76 (HS.out 5 (by decide) h)
          e77 := fun h => F.e77 (HS.out 6 (by decide) h)
          e78 := fun h => F.e78 (HS.out 7 (by decide) h)
          e79 := fun h => F.e79 (HS.out 8 (by decide) h)
          e80 := fun h => F.e80 (HS.out 9 (by decide) h)
          e81 := fun h => F.e81 (HS.out 10 (by decide) h)
          e82 := fun h => F.e82 (HS.out 11 (by decide) h)
          e83 := fun h => F.e83 (HS.out 12 (by decide) h)
          e84 := fun h => F.e84 (HS.out 13 (by decide) h)
          e85 := fun h => F.e85 (HS.out 14 (by decide) h)
          e86 := fun h => F.e86 (HS.out 15 (by decide) h)
          e87 := fun h => F.e87 (HS.out 16 (by decide) h)
          e88 := fun h => F.e88 (HS.out 17 (by decide) h)
          e89 := fun h => F.e89 (HS.out 18 (by decide) h)
          e90 := fun h => F.e90 (HS.out 19 (by decide) h)
          e91 := fun h => F.e91 (HS.out 20 (by decide) h) }⟩⟩
    · have d0 : l2.getD 0 false = true := by simp [Region.binds] at hd; simp [hd]
      obtain rfl := F.e71 d0
      have hbk := HB.out _ F.kept
      have c1 : w2.cell? ⟨w.heap.size + 1, 0, none⟩ = some (.slice y.os y.obs.length y.oc) := by rw [cell_at w2 _ 0 _ _ hbk]; rfl
      clear hbk
      refine wpOp_open rfl (fun K hK => ?_)
      go_simp
      exact hK.out _ _ ⟨_, _, _, _, _, _, _, _, _, _, _, _, _, _, _, _, _, _, _, _, _, rfl, .inl ⟨by rw [HSET.out, if_neg (by decide)]; exact hlast,
        { kept := F.kept
          calm := fun h => F.calm (by rw [HSET.out, if_neg (by decide)] at h; exact h)
          e71 := fun h => F.e71 (HS.out 0 (by decide) h)
          e72 := fun _ => rfl
          e73 := fun h => F.e73 (HS.out 2 (by decide) h)
          e74 := fun h => F.e74 (HS.out 3 (by decide) h)
          e75 := fun h => F.e75 (HS.out 4 (by decide) h)
          e76 := fun h => F.e76 (HS.out 5 (by decide) h)
          e77 := fun h => F.e77 (HS.out 6 (by decide) h)
          e78 := fun h => F.e78 (HS.out 7 (by decide) h)
          e79 := fun h => F.e79 (HS.out 8 (by decide) h)
          e80 := fun h => F.e80 (HS.out 9 (by decide) h)
          e81 := fun h => F.e81 (HS.out 10 (by decide) h)
          e82 := fun h => F.e82 (HS.out 11 (by decide) h)
          e83 := fun h => F.e83 (HS.out 12 (by decide) h)
          e84 := fun h => F.e84 (HS.out 13 (by decide) h)
          e85 := fun h => F.e85 (HS.out 14 (by decide) h)
          e86 := fun h => F.e86 (HS.out 15 (by decide) h)
          e87 := fun h => F.e87 (HS.out 16 (by decide) h)
          e88 := fun h => F.e88 (HS.out 17 (by decide) h)
          e89 := fun h => F.e89 (HS.out 18 (by decide) h)
          e90 := fun h => F.e90 (HS.out 19 (by decide) h)
          e91 := fun h => F.e91 (HS.out 20 (by decide) h) }⟩⟩
    · refine wpOp_open rfl (fun K hK => ?_)
      go_simp
      exact hK.out _ _ ⟨_, _, _, _, _, _, _, _, _, _, _, _, _, _, _, _, _, _, _, _, _, rfl, .inl ⟨by rw [HSET.out, if_neg (by decide)]; exact hlast,
        { kept := F.kept
          calm := fun h => F.calm (by rw [HSET.out, if_neg (by decide)] at h; exact h)
          e71 := fun h => F.e71 (HS.out 0 (by decide) h)
          e72 := fun h => F.e72 (HS.out 1 (by decide) h)
          e73 := fun _ => rfl
          e74 := fun h => F.e74 (HS.out 3 (by decide) h)
          e75 := fun h => F.e75 (HS.out 4 (by decide) h)
          e76 := fun h => F.e76 (HS.out 5 (by decide) h)
          e77 := fun h => F.e77 (HS.out 6 (by decide) h)
          e78 := fun h => F.e78 (HS.out 7 (by decide) h)
          e79 := fun h => F.e79 (HS.out 8 (by decide) h)
          e80 := fun h => F.e80 (HS.out 9 (by decide) h)
          e81 := fun h => F.e81 (HS.out 10 (by decide) h)
          e82 := fun h => F.e82 (HS.out 11 (by decide) h)
          e83 := fun h => F.e83 (HS.out 12 (by decide) h)
          e84 := fun h => F.e84 (HS.out 13 (by decide) h)
          e85 := fun h => F.e85 (HS.out 14 (by decide) h)
          e86 := fun h => F.e86 (HS.out 15 (by decide) h)
          e87 := fun h => F.e87 (HS.out 16 (by decide) h)
          e88 := fun h => F.e88 (HS.out 17 (by decide) h)
          e89 := fun h => F.e89 (HS.out 18 (by decide) h)
          e90 := fun h => F.e90 (HS.out 19 (by decide) h)
          e91 := fun h => F.e91 (HS.out 20 (by decide) h) }⟩⟩
    · refine wpOp_open rfl (fun K hK => ?_)
      go_simp
      exact hK.out _ _ ⟨_, _, _, _, _, _, _, _, _, _, _, _, _, _, _, _, _, _, _, _, _, rfl, .inl ⟨by rw [HSET.out, if_neg (by decide)]; exact hlast,
        { kept := F.kept
          calm := fun h => F.calm (by rw [HSET.out, if_neg (by decide)] at h; exact h)
          e71 := fun h => F.e71 (HS.out 0 (by decide) h)
          e72 := fun h => F.e72 (HS.out 1 (by decide) h)
          e73 := fun h => F.e73 (HS.out 2 (by decide) h)
          e74 := fun _ => rfl
          e75 := fun h => F.e75 (HS.out 4 (by decide) h)
          e76 := fun h => F.e76 (HS.out 5 (by decide) h)
          e77 := fun h => F.e77 (HS.out 6 (by decide) h)
          e78 := fun h => F.e78 (HS.out 7 (by decide) h)
          e79 := fun h => F.e79 (HS.out 8 (by decide) h)
          e80 := fun h => F.e80 (HS.out 9 (by decide) h)
          e81 := fun h => F.e81 (HS.out 10 (by decide) h)
          e82 := fun h => F.e82 (HS.out 11 (by decide) h)
          e83 := fun h => F.e83 (HS.out 12 (by decide) h)
          e84 := fun h => F.e84 (HS.out 13 (by decide) h)
          e85 := fun h => F.e85 (HS.out 14 (by decide) h)
          e86 := fun h => F.e86 (HS.out 15 (by decide) h)
          e87 := fun h => F.e87 (HS.out 16 (by decide) h)
          e88 := fun h => F.e88 (HS.out 17 (by decide) h)
          e89 := fun h => F.e89 (HS.out 18 (by decide) h)
          e90 := fun h => F.e90 (HS.out 19 (by decide) h)
          e91 := fun h => F.e91 (HS.out 20 (by decide) h) }⟩⟩
    · have d2 : l2.getD 2 false = true := by simp [Region.binds] at hd; simp [hd]
      have d3 : l2.getD 3 false = true := by simp [Region.binds] at hd; simp [hd]
      obtain rfl := F.e73 d2
      obtain rfl := F.e74 d3
      have q3 := HHi0.out
      refine wpOp_open rfl (fun K hK => ?_)
      go_simp
      exact hK.out _ _ ⟨_, _, _, _, _, _, _, _, _, _, _, _, _, _, _, _, _, _, _, _, _, rfl, .inl ⟨by rw [HSET.out, if_neg (by decide)]; exact hlast,
        { kept := F.kept
          calm := fun h => F.calm (by rw [HSET.out, if_neg (by decide)] at h; exact h)
          e71 := fun h => F.e71 (HS.out 0 (by decide) h)
          e72 := fun h => F.e72 (HS.out 1 (by decide) h)
          e73 := fun h => F.e73 (HS.out 2 (by decide) h)
          e74 := fun h => F.e74 (HS.out 3 (by decide) h)
          e75 := fun _ => rfl
          e76 := fun h => F.e76 (HS.out 5 (by decide) h)
          e77 := fun h => F.e77 (HS.out 6 (by decide) h)
          e78 := fun h => F.e78 (HS.out 7 (by decide) h)
          e79 := fun h => F.e79 (HS.out 8 (by decide) h)
          e80 := fun h => F.e80 (HS.out 9 (by decide) h)
          e81 := fun h => F.e81 (HS.out 10 (by decide) h)
          e82 := fun h => F.e82 (HS.out 11 (by decide) h)
          e83 := fun h => F.e83 (HS.out 12 (by decide) h)
          e84 := fun h => F.e84 (HS.out 13 (by decide) h)
          e85 := fun h => F.e85 (HS.out 14 (by decide) h)
          e86 := fun h => F.e86 (HS.out 15 (by decide) h)
          e87 := fun h => F.e87 (HS.out 16 (by decide) h)
          e88 := fun h => F.e88 (HS.out 17 (by decide) h)
          e89 := fun h => F.e89 (HS.out 18 (by decide) h)
          e90 := fun h => F.e90 (HS.out 19 (by decide) h)
          e91 := fun h => F.e91 (HS.out 20 (by decide) h) }⟩⟩
    · have d4 : l2.getD 4 false = true := by simp [Region.binds] at hd; simp [hd]
      obtain rfl := F.e75 d4
      have c1 := HC0.out _ F.kept
      refine wpOp_open rfl (fun K hK => ?_)
      go_simp
      exact hK.out _ _ ⟨_, _, _, _, _, _, _, _, _, _, _, _, _, _, _, _, _, _, _, _, _, rfl, .inl ⟨by rw [HSET.out, if_neg (by decide)]; exact hlast,
        { kept := F.kept
          calm := fun h => F.calm (by rw [HSET.out, if_neg (by decide)] at h; exact h)
          e71 := fun h => F.e71 (HS.out 0 (by decide) h)
          e72 := fun h => F.e72 (HS.out 1 (by decide) h)
          e73 := fun h => F.e73 (HS.out 2 (by decide) h)
          e74 := fun h => F.e74 (HS.out 3 (by decide) h)
          e75 := fun h => F.e75 (HS.out 4 (by decide) h)
          e76 := fun _ => rfl
          e77 := fun h => F.e77 (HS.out 6 (by decide) h)
          e78 := fun h => F.e78 (HS.out 7 (by decide) h)
          e79 := fun h => F.e79 (HS.out 8 (by decide) h)
          e80 := fun h => F.e80 (HS.out 9 (by decide) h)
          e81 := fun h => F.e81 (HS.out 10 (by decide) h)
          e82 := fun h => F.e82 (HS.out 11 (by decide) h)
          e83 := fun h => F.e83 (HS.out 12 (by decide) h)
          e84 := fun h => F.e84 (HS.out 13 (by decide) h)
          e85 := fun h => F.e85 (HS.out 14 (by decide) h)
          e86 := fun h => F.e86 (HS.out 15 (by decide) h)
          e87 := fun h => F.e87 (HS.out 16 (by decide) h)
          e88 := fun h => F.e88 (HS.out 17 (by decide) h)
          e89 := fun h => F.e89 (HS.out 18 (by decide) h)
          e90 := fun h => F.e90 (HS.out 19 (by decide) h)
          e91 := fun h => F.e91 (HS.out 20 (by decide) h) }⟩⟩
    · refine wpOp_open rfl (fun K hK => ?_)
      go_simp
      exact hK.out _ _ ⟨_, _, _, _, _, _, _, _, _, _, _, _, _, _, _, _, _, _, _, _, _, rfl, .inl ⟨by rw [HSET.out, if_neg (by decide)]; exact hlast,
        { kept := F.kept
          calm := fun h => F.calm (by rw [HSET.out, if_neg (by decide)] at h; exact h)
          e71 := fun h => F.e71 (HS.out 0 (by decide) h)
          e72 := fun h => F.e72 (HS.out 1 (by decide) h)
          e73 := fun h => F.e73 (HS.out 2 (by decide) h)
          e74 := fun h => F.e74 (HS.out 3 (by decide) h)
          e75 := fun h => F.e75 (HS.out 4 (by decide) h)
          e76 := fun h => F.e76 (HS.out 5 (by decide) h)
          e77 := fun _ => rfl
          e78 := fun h => F.e78 (HS.out 7 (by decide) h)
          e79 := fun h => F.e79 (HS.out 8 (by decide) h)
          e80 := fun h => F.e80 (HS.out 9 (by decide) h)
          e81 := fun h => F.e81 (HS.out 10 (by decide) h)
          e82 := fun h => F.e82 (HS.out 11 (by decide) h)
          e83 := fun h => F.e83 (HS.out 12 (by decide) h)
          e84 := fun h => F.e84 (HS.out 13 (by decide) h)
          e85 := fun h => F.e85 (HS.out 14 (by decide) h)
          e86 := fun h => F.e86 (HS.out 15 (by decide) h)
          e87 := fun h => F.e87 (HS.out 16 (by decide) h)
          e88 := fun h => F.e88 (HS.out 17 (by decide) h)
          e89 := fun h => F.e89 (HS.out 18 (by decide) h)
          e90 := fun h => F.e90 (HS.out 19 (by decide) h)
          e91 := fun h => F.e91 (HS.out 20 (by decide) h) }⟩⟩
    · refine wpOp_open rfl (fun K hK => ?_)
      go_simp
      exact hK.out _ _ ⟨_, _, _, _, _, _, _, _, _, _, _, _, _, _, _, _, _, _, _, _, _, rfl, .inl ⟨by rw [HSET.out, if_neg (by decide)]; exact hlast,
        { kept := F.kept
          calm := fun h => F.calm (by rw [HSET.out, if_neg (by decide)] at h; exact h)
          e71 := fun h => F.e71 (HS.out 0 (by decide) h)
          e72 := fun h => F.e72 (HS.out 1 (by decide) h)
          e73 := fun h => F.e73 (HS.out 2 (by decide) h)
          e74 := fun h => F.e74 (HS.out 3 (by decide) h)
          e75 := fun h => F.e75 (HS.out 4 (by decide) h)
          e76 := fun h => F.e76 (HS.out 5 (by decide) h)
          e77 := fun h => F.e77 (HS.out 6 (by decide) h)
          e78 := fun _ => rfl
          e79 := fun h => F.e79 (HS.out 8 (by decide) h)
          e80 := fun h => F.e80 (HS.out 9 (by decide) h)
          e81 := fun h => F.e81 (HS.out 10 (by decide) h)
          e82 := fun h => F.e82 (HS.out 11 (by decide) h)
          e83 := fun h => F.e83 (HS.out 12 (by decide) h)
          e84 := fun h => F.e84 (HS.out 13 (by decide) h)
          e85 := fun h => F.e85 (HS.out 14 (by decide) h)
          e86 := fun h => F.e86 (HS.out 15 (by decide) h)
          e87 := fun h => F.e87 (HS.out 16 (by decide) h)
          e88 := fun h => F.e88 (HS.out 17 (by decide) h)
          e89 := fun h => F.e89 (HS.out 18 (by decide) h)
          e90 := fun h => F.e90 (HS.out 19 (by decide) h)
          e91 := fun h => F.e91 (HS.out 20 (by decide) h) }⟩⟩
    · have d7 : l2.getD 7 false = true := by simp [Region.binds] at hd; simp [hd]
      obtain rfl := F.e78 d7
      have q1 := HW1.out
      refine wpOp_open rfl (fun K hK => ?_)
      go_simp
      exact hK.out _ _ ⟨_, _, _, _, _, _, _, _, _, _, _, _, _, _, _, _, _, _, _, _, _, rfl, .inl ⟨by rw [HSET.out, if_neg (by decide)]; exact hlast,
        { kept := F.kept
          calm := fun h => F.calm (by rw [HSET.out, if_neg (by decide)] at h; exact h)
          e71 := fun h => F.e71 (HS.out 0 (by decide) h)
          e72 := fun h => F.e72 (HS.out 1 (by decide) h)
          e73 := fun h => F.e73 (HS.out 2 (by decide) h)
          e74 := fun h => F.e74 (HS.out 3 (by decide) h)
          e75 := fun h => F.e75 (HS.out 4 (by decide) h)
          e76 := fun h => F.e76 (HS.out 5 (by decide) h)
          e77 := fun h => F.e77 (HS.out 6 (by decide) h)
          e78 := fun h => F.e78 (HS.out 7 (by decide) h)
          e79 := fun _ => rfl
          e80 := fun h => F.e80 (HS.out 9 (by decide) h)
          e81 := fun h => F.e81 (HS.out 10 (by decide) h)
          e82 := fun h => F.e82 (HS.out 11 (by decide) h)
          e83 := fun h => F.e83 (HS.out 12 (by decide) h)
          e84 := fun h => F.e84 (HS.out 13 (by decide) h)
          e85 := fun h => F.e85 (HS.out 14 (by decide) h)
          e86 := fun h => F.e86 (HS.out 15 (by decide) h)
          e87 := fun h => F.e87 (HS.out 16 (by decide) h)
          e88 := fun h => F.e88 (HS.out 17 (by decide) h)
          e89 := fun h => F.e89 (HS.out 18 (by decide) h)
          e90 := fun h => F.e90 (HS.out 19 (by decide) h)
          e91 := fun h => F.e91 (HS.out 20 (by decide) h) }⟩⟩
    · have d6 : l2.getD 6 false = true := by simp [Region.binds] at hd; simp [hd]
      have d8 : l2.getD 8 false = true := by simp [Region.binds] at hd; simp [hd]
      obtain rfl := F.e77 d6
      obtain rfl := F.e79 d8
      have q1 := HN1.out
      have q2 := HLo1.out
      have q3 := HHi1.out
      refine wpOp_open rfl (fun K hK => ?_)
      go_simp
      exact hK.out _ _ ⟨_, _, _, _, _, _, _, _, _, _, _, _, _, _, _, _, _, _, _, _, _, rfl, .inl ⟨by rw [HSET.out, if_neg (by decide)]; exact hlast,
        { kept := F.kept
          calm := fun h => F.calm (by rw [HSET.out, if_neg (by decide)] at h; exact h)
          e71 := fun h => F.e71 (HS.out 0 (by decide) h)
          e72 := fun h => F.e72 (HS.out 1 (by decide) h)
          e73 := fun h => F.e73 (HS.out 2 (by decide) h)
          e74 := fun h => F.e74 (HS.out 3 (by decide) h)
          e75 := fun h => F.e75 (HS.out 4 (by decide) h)
          e76 := fun h => F.e76 (HS.out 5 (by decide) h)
          e77 := fun h => F.e77 (HS.out 6 (by decide) h)
          e78 := fun h => F.e78 (HS.out 7 (by decide) h)
          e79 := fun h => F.e79 (HS.out 8 (by decide) h)
          e80 := fun _ => rfl
          e81 := fun h => F.e81 (HS.out 10 (by decide) h)
          e82 := fun h => F.e82 (HS.out 11 (by decide) h)
          e83 := fun h => F.e83 (HS.out 12 (by decide) h)
          e84 := fun h => F.e84 (HS.out 13 (by decide) h)
          e85 := fun h => F.e85 (HS.out 14 (by decide) h)
          e86 := fun h => F.e86 (HS.out 15 (by decide) h)
          e87 := fun h => F.e87 (HS.out 16 (by decide) h)
          e88 := fun h => F.e88 (HS.out 17 (by decide) h)
          e89 := fun h => F.e89 (HS.out 18 (by decide) h)
          e90 := fun h => F.e90 (HS.out 19 (by decide) h)
          e91 := fun h => F.e91 (HS.out 20 (by decide) h) }⟩⟩
    · have d9 : l2.getD 9 false = true := by simp [Region.binds] at hd; simp [hd]
      obtain rfl := F.e80 d9
      have c1 := HC1.out _ F.kept
      refine wpOp_open rfl (fun K hK => ?_)
      go_simp
      exact hK.out _ _ ⟨_, _, _, _, _, _, _, _, _, _, _, _, _, _, _, _, _, _, _, _, _, rfl, .inl ⟨by rw [HSET.out, if_neg (by decide)]; exact hlast,
        { kept := F.kept
          calm := fun h => F.calm (by rw [HSET.out, if_neg (by decide)] at h; exact h)
          e71 := fun h => F.e71 (HS.out 0 (by decide) h)
          e72 := fun h => F.e72 (HS.out 1 (by decide) h)
          e73 := fun h => F.e73 (HS.out 2 (by decide) h)
          e74 := fun h => F.e74 (HS.out 3 (by decide) h)
          e75 := fun h => F.e75 (HS.out 4 (by decide) h)
          e76 := fun h => F.e76 (HS.out 5 (by decide) h)
          e77 := fun h => F.e77 (HS.out 6 (by decide) h)
          e78 := fun h => F.e78 (HS.out 7 (by decide) h)
          e79 := fun h => F.e79 (HS.out 8 (by decide) h)
          e80 := fun h => F.e80 (HS.out 9 (by decide) h)
          e81 := fun _ => rfl
          e82 := fun h => F.e82 (HS.out 11 (by decide) h)
          e83 := fun h => F.e83 (HS.out 12 (by decide) h)
          e84 := fun h => F.e84 (HS.out 13 (by decide) h)
          e85 := fun h => F.e85 (HS.out 14 (by decide) h)
          e86 := fun h => F.e86 (HS.out 15 (by decide) h)
          e87 := fun h => F.e87 (HS.out 16 (by decide) h)
          e88 := fun h => F.e88 (HS.out 17 (by decide) h)
          e89 := fun h => F.e89 (HS.out 18 (by decide) h)
          e90 := fun h => F.e90 (HS.out 19 (by decide) h)
          e91 := fun h => F.e91 (HS.out 20 (by decide) h) }⟩⟩
    · have d10 : l2.getD 10 false = true := by simp [Region.binds] at hd; simp [hd]
      obtain rfl := F.e81 d10
      refine wpOp_open rfl (fun K hK => ?_)
      go_simp
      exact hK.out _ _ ⟨_, _, _, _, _, _, _, _, _, _, _, _, _, _, _, _, _, _, _, _, _, rfl, .inl ⟨by rw [HSET.out, if_neg (by decide)]; exact hlast,
        { kept := F.kept
          calm := fun h => F.calm (by rw [HSET.out, if_neg (by decide)] at h; exact h)
          e71 := fun h => F.e71 (HS.out 0 (by decide) h)
          e72 := fun h => F.e72 (HS.out 1 (by decide) h)
          e73 := fun h => F.e73 (HS.out 2 (by decide) h)
          e74 := fun h => F.e74 (HS.out 3 (by decide) h)
          e75 := fun h => F.e75 (HS.out 4 (by decide) h)
          e76 := fun h => F.e76 (HS.out 5 (by decide) h)
          e77 := fun h => F.e77 (HS.out 6 (by decide) h)
          e78 := fun h => F.e78 (HS.out 7 (by decide) h)
          e79 := fun h => F.e79 (HS.out 8 (by decide) h)
          e80 := fun h => F.e80 (HS.out 9 (by decide) h)
          e81 := fun h => F.e81 (HS.out 10 (by decide) h)
          e82 := fun _ => rfl
          e83 := fun h => F.e83 (HS.out 12 (by decide) h)
          e84 := fun h => F.e84 (HS.out 13 (by decide) h)
          e85 := fun h => F.e85 (HS.out 14 (by decide) h)
          e86 := fun h => F.e86 (HS.out 15 (by decide) h)
          e87 := fun h => F.e87 (HS.out 16 (by decide) h)
          e88 := fun h => F.e88 (HS.out 17 (by decide) h)
          e89 := fun h => F.e89 (HS.out 18 (by decide) h)
          e90 := fun h => F.e90 (HS.out 19 (by decide) h)
          e91 := fun h => F.e91 (HS.out 20 (by decide) h) }⟩⟩
    · refine wpOp_open rfl (fun K hK => ?_)
      go_simp
      exact hK.out _ _ ⟨_, _, _, _, _, _, _, _, _, _, _, _, _, _, _, _, _, _, _, _, _, rfl, .inl ⟨by rw [HSET.out, if_neg (by decide)]; exact hlast,
        { kept := F.kept
          calm := fun h => F.calm (by rw [HSET.out, if_neg (by decide)] at h; exact h)
          e71 := fun h => F.e71 (HS.out 0 (by decide) h)
          e72 := fun h => F.e72 (HS.out 1 (by decide) h)
          e73 := fun h => F.e73 (HS.out 2 (by decide) h)
          e74 := fun h => F.e74 (HS.out 3 (by decide) h)
          e75 := fun h => F.e75 (HS.out 4 (by decide) h)
          e76 := fun h => F.e76 (HS.out 5 (by decide) h)
          e77 := fun h => F.e77 (HS.out 6 (by decide) h)
          e78 := fun h => F.e78 (HS.out 7 (by decide) h)
          e79 := fun h => F.e79 (HS.out 8 (by decide) h)
          e80 := fun h => F.e80 (HS.out 9 (by decide) h)
          e81 := fun h => F.e81 (HS.out 10 (by decide) h)
          e82 := fun h => F.e82 (HS.out 11 (by decide) h)
          e83 := fun _ => rfl
          e84 := fun h => F.e84 (HS.out 13 (by decide) h)
          e85 := fun h => F.e85 (HS.out 14 (by decide) h)
          e86 := fun h => F.e86 (HS.out 15 (by decide) h)
          e87 := fun h => F.e87 (HS.out 16 (by decide) h)
          e88 := fun h => F.e88 (HS.out 17 (by decide) h)
          e89 := fun h => F.e89 (HS.out 18 (by decide) h)
          e90 := fun h => F.e90 (HS.out 19 (by decide) h)
          e91 := fun h => F.e91 (HS.out 20 (by decide) h) }⟩⟩
    · refine wpOp_open rfl (fun K hK => ?_)
      go_simp
      exact hK.out _ _ ⟨_, _, _, _, _, _, _, _, _, _, _, _, _, _, _, _, _, _, _, _, _, rfl, .inl ⟨by rw [HSET.out, if_neg (by decide)]; exact hlast,
        { kept := F.kept
          calm := fun h => F.calm (by rw [HSET.out, if_neg (by decide)] at h; exact h)
          e71 := fun h => F.e71 (HS.out 0 (by decide) h)
          e72 := fun h => F.e72 (HS.out 1 (by decide) h)
          e73 := fun h => F.e73 (HS.out 2 (by decide) h)
          e74 := fun h => F.e74 (HS.out 3 (by decide) h)
          e75 := fun h => F.e75 (HS.out 4 (by decide) h)
          e76 := fun h => F.e76 (HS.out 5 (by decide) h)
          e77 := fun h => F.e77 (HS.out 6 (by decide) h)
          e78 := fun h => F.e78 (HS.out 7 (by decide) h)
          e79 := fun h => F.e79 (HS.out 8 (by decide) h)
          e80 := fun h => F.e80 (HS.out 9 (by decide) h)
          e81 := fun h => F.e81 (HS.out 10 (by decide) h)
          e82 := fun h => F.e82 (HS.out 11 (by decide) h)
          e83 := fun h => F.e83 (HS.out 12 (by decide) h)
          e84 := fun _ => rfl
          e85 := fun h => F.e85 (HS.out 14 (by decide) h)
          e86 := fun h => F.e86 (HS.out 15 (by decide) h)
          e87 := fun h => F.e87 (HS.out 16 (by decide) h)
          e88 := fun h => F.e88 (HS.out 17 (by decide) h)
          e89 := fun h => F.e89 (HS.out 18 (by decide) h)
          e90 := fun h => F.e90 (HS.out 19 (by decide) h)
          e91 := fun h => F.e91 (HS.out 20 (by decide) h) }⟩⟩
    · have d13 : l2.getD 13 false = true := by simp [Region.binds] at hd; simp [hd]
      obtain rfl := F.e84 d13
      have q1 := HW2.out
      refine wpOp_open rfl (fun K hK => ?_)
      go_simp
      exact hK.out _ _ ⟨_, _, _, _, _, _, _, _, _, _, _, _, _, _, _, _, _, _, _, _, _, rfl, .inl ⟨by rw [HSET.out, if_neg (by decide)]; exact hlast,
        { kept := F.kept
          calm := fun h => F.calm (by rw [HSET.out, if_neg (by decide)] at h; exact h)
          e71 := fun h => F.e71 (HS.out 0 (by decide) h)
          e72 := fun h => F.e72 (HS.out 1 (by decide) h)
          e73 := fun h => F.e73 (HS.out 2 (by decide) h)
          e74 := fun h => F.e74 (HS.out 3 (by decide) h)
          e75 := fun h => F.e75 (HS.out 4 (by decide) h)
          e76 := fun h => F.e76 (HS.out 5 (by decide) h)
          e77 := fun h => F.e77 (HS.out 6 (by decide) h)
          e78 := fun h => F.e78 (HS.out 7 (by decide) h)
          e79 := fun h => F.e79 (HS.out 8 (by decide) h)
          e80 := fun h => F.e80 (HS.out 9 (by decide) h)
          e81 := fun h => F.e81 (HS.out 10 (by decide) h)
          e82 := fun h => F.e82 (HS.out 11 (by decide) h)
          e83 := fun h => F.e83 (HS.out 12 (by decide) h)
          e84 := fun h => F.e84 (HS.out 13 (by decide) h)
          e85 := fun _ => rfl
          e86 := fun h => F.e86 (HS.out 15 (by decide) h)
          e87 := fun h => F.e87 (HS.out 16 (by decide) h)
          e88 := fun h => F.e88 (HS.out 17 (by decide) h)
          e89 := fun h => F.e89 (HS.out 18 (by decide) h)
          e90 := fun h => F.e90 (HS.out 19 (by decide) h)
          e91 := fun h => F.e91 (HS.out 20 (by decide) h) }⟩⟩
    · have d12 : l2.getD 12 false = true := by simp [Region.binds] at hd; simp [hd]
      have d14 : l2.getD 14 false = true := by simp [Region.binds] at hd; simp [hd]
      obtain rfl := F.e83 d12
      obtain rfl := F.e85 d14
      have q1 := HN2.out
      have q2 := HLo2.out
      have q3 := HHi2.out
      refine wpOp_open rfl (fun K hK => ?_)
      go_simp
      exact hK.out _ _ ⟨_, _, _, _, _, _, _, _, _, _, _, _, _, _, _, _, _, _, _, _, _, rfl, .inl ⟨by rw [HSET.out, if_neg (by decide)]; exact hlast,
        { kept := F.kept
          calm := fun h => F.calm (by rw [HSET.out, if_neg (by decide)] at h; exact h)
          e71 := fun h => F.e71 (HS.out 0 (by decide) h)
          e72 := fun h => F.e72 (HS.out 1 (by decide) h)
          e73 := fun h => F.e73 (HS.out 2 (by decide) h)
          e74 := fun h => F.e74 (HS.out 3 (by decide) h)
          e75 := fun h => F.e75 (HS.out 4 (by decide) h)
          e76 := fun h => F.e76 (HS.out 5 (by decide) h)
          e77 := fun h => F.e77 (HS.out 6 (by decide) h)
          e78 := fun h => F.e78 (HS.out 7 (by decide) h)
          e79 := fun h => F.e79 (HS.out 8 (by decide) h)
          e80 := fun h => F.e80 (HS.out 9 (by decide) h)
          e81 := fun h => F.e81 (HS.out 10 (by decide) h)
          e82 := fun h => F.e82 (HS.out 11 (by decide) h)
          e83 := fun h => F.e83 (HS.out 12 (by decide) h)
          e84 := fun h => F.e84 (HS.out 13 (by decide) h)
          e85 := fun h => F.e85 (HS.out 14 (by decide) h)
          e86 := fun _ => rfl
          e87 := fun h => F.e87 (HS.out 16 (by decide) h)
          e88 := fun h => F.e88 (HS.out 17 (by decide) h)
          e89 := fun h => F.e89 (HS.out 18 (by decide) h)
          e90 := fun h => F.e90 (HS.out 19 (by decide) h)
          e91 := fun h => F.e91 (HS.out 20 (by decide) h) }⟩⟩
    · have d15 : l2.getD 15 false = true := by simp [Region.binds] at hd; simp [hd]
      obtain rfl := F.e86 d15
      have c1 := HC2.out _ F.kept
      refine wpOp_open rfl (fun K hK => ?_)
      go_simp
      exact hK.out _ _ ⟨_, _, _, _, _, _, _, _, _, _, _, _, _, _, _, _, _, _, _, _, _, rfl, .inl ⟨by rw [HSET.out, if_neg (by decide)]; exact hlast,
        { kept := F.kept
          calm := fun h => F.calm (by rw [HSET.out, if_neg (by decide)] at h; exact h)
          e71 := fun h => F.e71 (HS.out 0 (by decide) h)
          e72 := fun h => F.e72 (HS.out 1 (by decide) h)
          e73 := fun h => F.e73 (HS.out 2 (by decide) h)
          e74 := fun h => F.e74 (HS.out 3 (by decide) h)
          e75 := fun h => F.e75 (HS.out 4 (by decide) h)
          e76 := fun h => F.e76 (HS.out 5 (by decide) h)
          e77 := fun h => F.e77 (HS.out 6 (by decide) h)
          e78 := fun h => F.e78 (HS.out 7 (by decide) h)
          e79 := fun h => F.e79 (HS.out 8 (by decide) h)
          e80 := fun h => F.e80 (HS.out 9 (by decide) h)
          e81 := fun h => F.e81 (HS.out 10 (by decide) h)
          e82 := fun h => F.e82 (HS.out 11 (by decide) h)
          e83 := fun h => F.e83 (HS.out 12 (by decide) h)
          e84 := fun h => F.e84 (HS.out 13 (by decide) h)
          e85 := fun h => F.e85 (HS.out 14 (by decide) h)
          e86 := fun h => F.e86 (HS.out 15 (by decide) h)
          e87 := fun _ => rfl
          e88 := fun h => F.e88 (HS.out 17 (by decide) h)
          e89 := fun h => F.e89 (HS.out 18 (by decide) h)
          e90 := fun h => F.e90 (HS.out 19 (by decide) h)
          e91 := fun h => F.e91 (HS.out 20 (by decide) h) }⟩⟩
    · have d5 : l2.getD 5 false = true := by simp [Region.binds] at hd; simp [hd]
      have d11 : l2.getD 11 false = true := by simp [Region.binds] at hd; simp [hd]
      have d16 : l2.getD 16 false = true := by simp [Region.binds] at hd; simp [hd]
      obtain rfl := F.e76 d5
      obtain rfl := F.e82 d11
      obtain rfl := F.e87 d16
      refine wpOp_open rfl (fun K hK => ?_)
      go_simp
      exact hK.out _ _ ⟨_, _, _, _, _, _, _, _, _, _, _, _, _, _, _, _, _, _, _, _, _, rfl, .inl ⟨by rw [HSET.out, if_neg (by decide)]; exact hlast,
        { kept := F.kept
          calm := fun h => F.calm (by rw [HSET.out, if_neg (by decide)] at h; exact h)
          e71 := fun h => F.e71 (HS.out 0 (by decide) h)
          e72 := fun h => F.e72 (HS.out 1 (by decide) h)
          e73 := fun h => F.e73 (HS.out 2 (by decide) h)
          e74 := fun h => F.e74 (HS.out 3 (by decide) h)
          e75 := fun h => F.e75 (HS.out 4 (by decide) h)
          e76 := fun h => F.e76 (HS.out 5 (by decide) h)
          e77 := fun h => F.e77 (HS.out 6 (by decide) h)
          e78 := fun h => F.e78 (HS.out 7 (by decide) h)
          e79 := fun h => F.e79 (HS.out 8 (by decide) h)
          e80 := fun h => F.e80 (HS.out 9 (by decide) h)
          e81 := fun h => F.e81 (HS.out 10 (by decide) h)
          e82 := fun h => F.e82 (HS.out 11 (by decide) h)
          e83 := fun h => F.e83 (HS.out 12 (by decide) h)
          e84 := fun h => F.e84 (HS.out 13 (by decide) h)
          e85 := fun h => F.e85 (HS.out 14 (by decide) h)
          e86 := fun h => F.e86 (HS.out 15 (by decide) h)
          e87 := fun h => F.e87 (HS.out 16 (by decide) h)
          e88 := fun _ => rfl
          e89 := fun h => F.e89 (HS.out 18 (by decide) h)
          e90 := fun h => F.e90 (HS.out 19 (by decide) h)
          e91 := fun h => F.e91 (HS.out 20 (by decide) h) }⟩⟩
    · have d17 : l2.getD 17 false = true := by simp [Region.binds] at hd; simp [hd]
      obtain rfl := F.e88 d17
      have hk3 : Kept (fun _ => False) w2 (w2.alloc (.cells #[.int .i64 k, .bool (f == 1), .int .i64 n] 48)) := (Kept.refl _ w2).alloc _
      have F2 := F.on hk3
      refine wpOp_open rfl (fun K hK => ?_)
      go_simp
      exact hK.out _ _ ⟨_, _, _, _, _, _, _, _, _, _, _, _, _, _, _, _, _, _, _, _, _, rfl, .inl ⟨by rw [HSET.out, if_neg (by decide)]; exact hlast,
        { kept := F2.kept
          calm := fun h => F2.calm (by rw [HSET.out, if_neg (by decide)] at h; exact h)
          e71 := fun h => F2.e71 (HS.out 0 (by decide) h)
          e72 := fun h => F2.e72 (HS.out 1 (by decide) h)
          e73 := fun h => F2.e73 (HS.out 2 (by decide) h)
          e74 := fun h => F2.e74 (HS.out 3 (by decide) h)
          e75 := fun h => F2.e75 (HS.out 4 (by decide) h)
          e76 := fun h => F2.e76 (HS.out 5 (by decide) h)
          e77 := fun h => F2.e77 (HS.out 6 (by decide) h)
          e78 := fun h => F2.e78 (HS.out 7 (by decide) h)
          e79 := fun h => F2.e79 (HS.out 8 (by decide) h)
          e80 := fun h => F2.e80 (HS.out 9 (by decide) h)
          e81 := fun h => F2.e81 (HS.out 10 (by decide) h)
          e82 := fun h => F2.e82 (HS.out 11 (by decide) h)
          e83 := fun h => F2.e83 (HS.out 12 (by decide) h)
          e84 := fun h => F2.e84 (HS.out 13 (by decide) h)
          e85 := fun h => F2.e85 (HS.out 14 (by decide) h)
          e86 := fun h => F2.e86 (HS.out 15 (by decide) h)
          e87 := fun h => F2.e87 (HS.out 16 (by decide) h)
          e88 := fun h => F2.e88 (HS.out 17 (by decide) h)
          e89 := fun _ => ⟨_, rfl, F.kept.size, heap_alloc_new w2 _⟩
          e90 := fun h => F2.e90 (HS.out 19 (by decide) h)
          e91 := fun h => F2.e91 (HS.out 20 (by decide) h) }⟩⟩
    · have d1 : l2.getD 1 false = true := by simp [Region.binds] at hd; simp [hd]
      have d18 : l2.getD 18 false = true := by simp [Region.binds] at hd; simp [hd]
      obtain rfl := F.e72 d1
      obtain ⟨B1, rfl, hB2, hB1⟩ := F.e89 d18
      have hcalm := F.calm hu'
      have hown2 := own_kept HOWN.out hcalm (fun _ _ f => f)
      have hz2 := hcalm.size
      have hle := HLE.out
      have hbase := HBASE.out
      refine wpOp_open rfl (fun K hK => ?_)
      refine step_append_elems (ys := [x]) _ (by rfl) _ _ _ (by rfl) (w.heap.size + 1 + 1) 48 i4 (.agg #[.int .i64 0, .bool false, .int .i64 0]) 3 24 Try.underlying22 HI4.out HZ4.out HN4.out HB4.out rfl (by decide) Ob.three (one_ob _) (.slice y.os y.obs.length y.oc) y.obs.length (flat Ob.cells y.obs) (by rfl) hown2 _ _ _ (by rfl) (Elems.block Ob.three hB1 HXC.out (by show 1 ≤ maxLen; decide)) (by show y.obs.length + 1 ≤ maxLen; unfold maxLen; omega) (by show (y.obs.length + 1) * 24 ≤ _; omega) (by omega) ?_
      intro v' w3 hown3 hg3 hat
      obtain ⟨g3, c4, rfl, hg31, hg32⟩ := World.ownsRow.form hown3 (by show 0 < y.obs.length + 1; omega)
      have hkw : Kept (fun q => (Value.slice y.os y.obs.length y.oc).ownBlock = some q) w2 w3 := (Kept.refl _ w2).grown hg3 (fun q _ e => e)
      rw [← flat_append] at hown3
      have hrlt : ∀ q, (Value.slice y.os y.obs.length y.oc).ownBlock = some q → q < wr.heap.size := fun q hq => (World.ownsRow.lt HOWN.out q hq).2
      simp only [Act.put, List.setIfInBounds_toArray]
      exact hK.out _ _ ⟨_, _, _, _, _, _, _, _, _, _, _, _, _, _, _, _, _, _, _, _, _, rfl, .inl ⟨by rw [HSET.out, if_neg (by decide)]; exact hlast,
        { kept := (hcalm.mono (fun _ _ f => f.elim)).trans hkw (fun _ _ e => e)
          calm := fun h => by rw [HSET.out, if_pos rfl] at h; cases h
          e71 := fun h => F.e71 (HS.out 0 (by decide) h)
          e72 := fun h => F.e72 (HS.out 1 (by decide) h)
          e73 := fun h => F.e73 (HS.out 2 (by decide) h)
          e74 := fun h => F.e74 (HS.out 3 (by decide) h)
          e75 := fun h => F.e75 (HS.out 4 (by decide) h)
          e76 := fun h => F.e76 (HS.out 5 (by decide) h)
          e77 := fun h => F.e77 (HS.out 6 (by decide) h)
          e78 := fun h => F.e78 (HS.out 7 (by decide) h)
          e79 := fun h => F.e79 (HS.out 8 (by decide) h)
          e80 := fun h => F.e80 (HS.out 9 (by decide) h)
          e81 := fun h => F.e81 (HS.out 10 (by decide) h)
          e82 := fun h => F.e82 (HS.out 11 (by decide) h)
          e83 := fun h => F.e83 (HS.out 12 (by decide) h)
          e84 := fun h => F.e84 (HS.out 13 (by decide) h)
          e85 := fun h => F.e85 (HS.out 14 (by decide) h)
          e86 := fun h => F.e86 (HS.out 15 (by decide) h)
          e87 := fun h => F.e87 (HS.out 16 (by decide) h)
          e88 := fun h => F.e88 (HS.out 17 (by decide) h)
          e89 := fun _ => ⟨B1, rfl, hB2, (hkw.block B1 (Array.getElem?_eq_some_iff.1 hB1).1 (fun hr => by have := hrlt B1 hr; omega)).trans hB1⟩
          e90 := fun _ => ⟨_, _, rfl, hown3, hat.imp id (fun e => ⟨_, e, hz2⟩)⟩
          e91 := fun h => F.e91 (HS.out 20 (by decide) h) }⟩⟩
    · refine wpOp_open rfl (fun K hK => ?_)
      go_simp
      exact hK.out _ _ ⟨_, _, _, _, _, _, _, _, _, _, _, _, _, _, _, _, _, _, _, _, _, rfl, .inl ⟨by rw [HSET.out, if_neg (by decide)]; exact hlast,
        { kept := F.kept
          calm := fun h => F.calm (by rw [HSET.out, if_neg (by decide)] at h; exact h)
          e71 := fun h => F.e71 (HS.out 0 (by decide) h)
          e72 := fun h => F.e72 (HS.out 1 (by decide) h)
          e73 := fun h => F.e73 (HS.out 2 (by decide) h)
          e74 := fun h => F.e74 (HS.out 3 (by decide) h)
          e75 := fun h => F.e75 (HS.out 4 (by decide) h)
          e76 := fun h => F.e76 (HS.out 5 (by decide) h)
          e77 := fun h => F.e77 (HS.out 6 (by decide) h)
          e78 := fun h => F.e78 (HS.out 7 (by decide) h)
          e79 := fun h => F.e79 (HS.out 8 (by decide) h)
          e80 := fun h => F.e80 (HS.out 9 (by decide) h)
          e81 := fun h => F.e81 (HS.out 10 (by decide) h)
          e82 := fun h => F.e82 (HS.out 11 (by decide) h)
          e83 := fun h => F.e83 (HS.out 12 (by decide) h)
          e84 := fun h => F.e84 (HS.out 13 (by decide) h)
          e85 := fun h => F.e85 (HS.out 14 (by decide) h)
          e86 := fun h => F.e86 (HS.out 15 (by decide) h)
          e87 := fun h => F.e87 (HS.out 16 (by decide) h)
          e88 := fun h => F.e88 (HS.out 17 (by decide) h)
          e89 := fun h => F.e89 (HS.out 18 (by decide) h)
          e90 := fun h => F.e90 (HS.out 19 (by decide) h)
          e91 := fun _ => rfl }⟩⟩
    · have d19 : l2.getD 19 false = true := by simp [Region.binds] at hd; simp [hd]
      have d20 : l2.getD 20 false = true := by simp [Region.binds] at hd; simp [hd]
      obtain rfl := F.e91 d20
      obtain ⟨s5, c5, rfl, hrest⟩ := F.e90 d19
      have hall : ∀ j, j < 21 → l2.getD j false = true := by
        simp [Region.binds] at hd
        intro j hj
        have hj' : j = 0 ∨ j = 1 ∨ j = 2 ∨ j = 3 ∨ j = 4 ∨ j = 5 ∨ j = 6 ∨ j = 7 ∨ j = 8 ∨ j = 9 ∨ j = 10 ∨ j = 11 ∨ j = 12 ∨ j = 13 ∨ j = 14 ∨ j = 15 ∨ j = 16 ∨ j = 17 ∨ j = 18 ∨ j = 19 ∨ j = 20 := by omega
        rcases hj' with rfl | rfl | rfl | rfl | rfl | rfl | rfl | rfl | rfl | rfl | rfl | rfl | rfl | rfl | rfl | rfl | rfl | rfl | rfl | rfl | rfl <;> simp [hd]
      have hbk := HB.out _ F.kept
      have c1 : w2.cell? ⟨w.heap.size + 1, 0, none⟩ = some (.slice y.os y.obs.length y.oc) := by rw [cell_at w2 _ 0 _ _ hbk]; rfl
      have f1 := frozen_at w2 (w.heap.size + 1) 0 _ _ hbk
      clear hbk
      refine wpOp_open rfl (fun K hK => ?_)
      go_simp
      exact hK.out _ _ ⟨_, _, _, _, _, _, _, _, _, _, _, _, _, _, _, _, _, _, _, _, _, rfl, .inr ⟨by rw [HSET.out, if_pos rfl], fun j hj => by rw [HSET.out]; split; rfl; exact hall j hj, l2, w2, hall, F, rfl⟩⟩
  case hend =>
    intro l2 a2 w2 hs hI hr
    have hs' : l2.size = 22 := hs
    obtain ⟨v71, v72, v73, v74, v75, v76, v77, v78, v79, v80, v81, v82, v83, v84, v85, v86, v87, v88, v89, v90, v91, rfl, ⟨hlast, F⟩ | ⟨_, _, l0, w0, hall0, F, rfl⟩⟩ := hI
    case inl =>
      exfalso
      have e0 : l2.getD 0 false = true := getD_same (by omega) (ready_in (i := 0) hr (by decide) (by simp [Region.binds]))
      have q0 : l2[0]?.getD false = true := by simpa using e0
      have e1 : l2.getD 1 false = true := getD_same (by omega) (ready_in (i := 1) hr (by decide) (by simp [Region.binds, q0]))
      have q1 : l2[1]?.getD false = true := by simpa using e1
      have e2 : l2.getD 2 false = true := getD_same (by omega) (ready_in (i := 2) hr (by decide) (by simp [Region.binds]))
      have q2 : l2[2]?.getD false = true := by simpa using e2
      have e3 : l2.getD 3 false = true := getD_same (by omega) (ready_in (i := 3) hr (by decide) (by simp [Region.binds]))
      have q3 : l2[3]?.getD false = true := by simpa using e3
      have e4 : l2.getD 4 false = true := getD_same (by omega) (ready_in (i := 4) hr (by decide) (by simp [Region.binds, q2, q3]))
      have q4 : l2[4]?.getD false = true := by simpa using e4
      have e5 : l2.getD 5 false = true := getD_same (by omega) (ready_in (i := 5) hr (by decide) (by simp [Region.binds, q4]))
      have q5 : l2[5]?.getD false = true := by simpa using e5
      have e6 : l2.getD 6 false = true := getD_same (by omega) (ready_in (i := 6) hr (by decide) (by simp [Region.binds]))
      have q6 : l2[6]?.getD false = true := by simpa using e6
      have e7 : l2.getD 7 false = true := getD_same (by omega) (ready_in (i := 7) hr (by decide) (by simp [Region.binds]))
      have q7 : l2[7]?.getD false = true := by simpa using e7
      have e8 : l2.getD 8 false = true := getD_same (by omega) (ready_in (i := 8) hr (by decide) (by simp [Region.binds, q7]))
      have q8 : l2[8]?.getD false = true := by simpa using e8
      have e9 : l2.getD 9 false = true := getD_same (by omega) (ready_in (i := 9) hr (by decide) (by simp [Region.binds, q6, q8]))
      have q9 : l2[9]?.getD false = true := by simpa using e9
      have e10 : l2.getD 10 false = true := getD_same (by omega) (ready_in (i := 10) hr (by decide) (by simp [Region.binds, q9]))
      have q10 : l2[10]?.getD false = true := by simpa using e10
      have e11 : l2.getD 11 false = true := getD_same (by omega) (ready_in (i := 11) hr (by decide) (by simp [Region.binds, q10]))
      have q11 : l2[11]?.getD false = true := by simpa using e11
      have e12 : l2.getD 12 false = true := getD_same (by omega) (ready_in (i := 12) hr (by decide) (by simp [Region.binds]))
      have q12 : l2[12]?.getD false = true := by simpa using e12
      have e13 : l2.getD 13 false = true := getD_same (by omega) (ready_in (i := 13) hr (by decide) (by simp [Region.binds]))
      have q13 : l2[13]?.getD false = true := by simpa using e13
      have e14 : l2.getD 14 false = true := getD_same (by omega) (ready_in (i := 14) hr (by decide) (by simp [Region.binds, q13]))
      have q14 : l2[14]?.getD false = true := by simpa using e14
      have e15 : l2.getD 15 false = true := getD_same (by omega) (ready_in (i := 15) hr (by decide) (by simp [Region.binds, q12, q14]))
      have q15 : l2[15]?.getD false = true := by simpa using e15
      have e16 : l2.getD 16 false = true := getD_same (by omega) (ready_in (i := 16) hr (by decide) (by simp [Region.binds, q15]))
      have q16 : l2[16]?.getD false = true := by simpa using e16
      have e17 : l2.getD 17 false = true := getD_same (by omega) (ready_in (i := 17) hr (by decide) (by simp [Region.binds, q5, q11, q16]))
      have q17 : l2[17]?.getD false = true := by simpa using e17
      have e18 : l2.getD 18 false = true := getD_same (by omega) (ready_in (i := 18) hr (by decide) (by simp [Region.binds, q17]))
      have q18 : l2[18]?.getD false = true := by simpa using e18
      have e19 : l2.getD 19 false = true := getD_same (by omega) (ready_in (i := 19) hr (by decide) (by simp [Region.binds, q1, q18]))
      have q19 : l2[19]?.getD false = true := by simpa using e19
      have e20 : l2.getD 20 false = true := getD_same (by omega) (ready_in (i := 20) hr (by decide) (by simp [Region.binds, q0, q1, q2, q3, q4, q5, q6, q7, q8, q9, q10, q11, q12, q13, q14, q15, q16, q17, q18, q19]))
      have q20 : l2[20]?.getD false = true := by simpa using e20
      have e21 : l2.getD 21 false = true := getD_same (by omega) (ready_in (i := 21) hr (by decide) (by simp [Region.binds, q0, q1, q2, q3, q4, q5, q6, q7, q8, q9, q10, q11, q12, q13, q14, q15, q16, q17, q18, q19, q20]))
      have q21 : l2[21]?.getD false = true := by simpa using e21
      rw [e21] at hlast
      cases hlast
    subst_vars
    obtain ⟨s5, c5, rfl, hrow, hoff⟩ := F.e90 (hall0 19 (by decide))
    have hkS : Kept (fun q => q = w.heap.size + 1) w0 (w0.setCell ⟨w.heap.size + 1, 0, none⟩ (.slice s5 (y.obs.length + 1) c5)) := (Kept.refl (fun q => q = w.heap.size + 1) w0).setCell _ _ (fun _ => rfl)
    have hb2 := HB.out _ F.kept
    have hkk : Kept (fun q => q = w.heap.size + 1 ∨ (Value.slice y.os y.obs.length y.oc).ownBlock = some q) wr (w0.setCell ⟨w.heap.size + 1, 0, none⟩ (.slice s5 (y.obs.length + 1) c5)) := (F.kept.mono (fun _ _ e => .inr e)).trans hkS (fun _ _ e => .inl e)
    refine hnext.out _ _ (frS_of (by kernel_rfl)) ⟨⟨s5, c5, y.obs ++ [x], y.ps, y.pc, y.prs, y.ks, y.kc, y.pis⟩, rfl, ⟨rfl, rfl, rfl, rfl, rfl, rfl⟩, ⟨?_, ?_, ?_⟩, ?_, hkk, ?_⟩
    · have := set_block (o := 0) (v := .slice s5 (y.obs.length + 1) c5) hb2
      show _ = some (Obj.cells #[.slice s5 (y.obs ++ [x]).length c5, .slice y.ps y.prs.length y.pc, .slice y.ks y.pis.length y.kc] _ _)
      rw [this]
      simp
    · refine (hkk.block _ (by have := HVLT.out; omega) (fun e => ?_)).trans HV.out.res
      rcases e with e | e
      · omega
      · have := HRB.out _ e; omega
    · refine HV.out.kept.trans hkk (fun q hq e => ?_)
      rcases e with e | e
      · omega
      · have := HRB.out _ e; omega
    · have hl1 : (y.obs ++ [x]).length = y.obs.length + 1 := by simp
      show World.ownsRow _ _ _ _ (.slice s5 (y.obs ++ [x]).length c5) (y.obs ++ [x]).length _
      rw [hl1]
      exact own_kept hrow hkS (fun q hq e => by have := (World.ownsRow.lt hrow q hq).1; omega)
    · rw [own_slice _ _ _ (y.obs.length + 1) c5]
      exact hoff

end Go.Proofs.Ytkicpbnphbcdaaa
