/-
  What package pack's Put comes to.
  Conditions: the script lies in blocks that were there.
-/
import Derived.Test.YtkicpbnphbcdaaaPutAll
namespace Go.Proofs.Ytkicpbnphbcdaaa
open Go.RowKit

/-- What a script reads as. -/
def partsOf (x : Sc) : Parts := ⟨x.obs, x.prs.map Pr.ops, x.pis⟩

theorem flat_le {α β : Type} (enc : α → List β) (b : Nat) : ∀ (xs : List α), (∀ x ∈ xs, (enc x).length ≤ b) → (xs.flatMap enc).length ≤ xs.length * b
  | [], _ => by simp
  | x :: xs, h => by
    have h1 := h x (by simp)
    have h2 := flat_le enc b xs (fun y hy => h y (by simp [hy]))
    rw [List.flatMap_cons, List.length_append, List.length_cons, Nat.add_mul]
    omega

theorem obE_len {x : Ob} (h : obOk x) : (obE byteTok x).length ≤ 30 := by
  have h1 := numB_len h.1
  have h2 := numB_len h.2
  have h3 := numB_len (truth_in x.fair)
  show (numB x.kind ++ numB (truthN x.fair) ++ numB x.n).length ≤ 30
  simp only [List.length_append]; omega
theorem clE_len {x : Cl} (h : clOk x) : (clE byteTok x).length ≤ 50 := by
  have h1 := numB_len h.1
  have h2 := numB_len h.2.1
  have h3 := numB_len h.2.2.1
  have h4 := numB_len h.2.2.2
  have h5 := numB_len (truth_in x.breaks)
  show (numB x.kind ++ numB x.obj ++ numB x.n ++ numB x.wait ++ numB (truthN x.breaks)).length ≤ 50
  simp only [List.length_append]; omega
theorem piE_len {x : Pi} (h : piOk x) : (piE byteTok x).length ≤ 20 := by
  have h1 := numB_len h.1
  have h2 := numB_len h.2
  show (numB x.kind ++ numB x.n).length ≤ 20
  simp only [List.length_append]; omega
theorem listE_len {α : Type} {enc : α → List Nat} {b : Nat} {xs : List α} (hl : xs.length ≤ 65536) (h : ∀ x ∈ xs, (enc x).length ≤ b) : (listE byteTok enc xs).length ≤ 10 + xs.length * b := by
  have h1 := numB_len (n := (xs.length : Int)) ⟨by omega, by omega⟩
  have h2 := flat_le enc b xs h
  show (numB xs.length ++ xs.flatMap enc).length ≤ _
  rw [List.length_append]; omega

theorem cnt_range {n : Int} (h : cntF n = true) : 0 ≤ n ∧ n ≤ 1000 := by simpa [cntF] using h
theorem ob_range {x : Ob} (h : obF x = true) : obOk x := by
  obtain ⟨kind, fair, n⟩ := x
  unfold obF at h
  unfold obOk InR
  dsimp only at h ⊢
  split at h
  · have : n = 0 := by simpa using h
    omega
  · split at h
    · have := cnt_range h; omega
    · split at h
      · have := cnt_range (n := n) (by rw [Bool.and_eq_true] at h; exact h.1); omega
      · split at h
        · have : n = 0 := by rw [Bool.and_eq_true] at h; simpa using h.1
          omega
        · cases h
theorem of_range {k : Int} (h : ofF k ≠ 0) : 1 ≤ k ∧ k ≤ 19 := by
  unfold ofF at h
  split at h
  · omega
  · split at h
    · omega
    · split at h
      · omega
      · split at h
        · omega
        · split at h
          · omega
          · exact absurd rfl h
theorem num_range {x : Cl} (h : numF x = true) : 0 ≤ x.n ∧ x.n ≤ 1000 := by
  unfold numF at h
  split at h
  · rw [Bool.and_eq_true] at h; exact cnt_range h.1
  · split at h
    · exact cnt_range h
    · have : x.n = 0 := by simpa using h
      omega
theorem stay_range {x : Cl} (h : stayF x = true) : -1 ≤ x.wait ∧ x.wait ≤ 1099511627776 := by
  unfold stayF at h
  split at h
  · simpa using h
  · rw [Bool.and_eq_true] at h
    have : x.wait = 0 := by simpa using h.1
    omega
theorem cl_range {m : Nat} (hm : m ≤ 9223372036854775807) {x : Cl} (h : clF m x = true) : clOk x := by
  unfold clF at h
  simp only [Bool.and_eq_true, decide_eq_true_eq, bne_iff_ne, ne_eq] at h
  obtain ⟨⟨⟨⟨h1, h2⟩, h3⟩, h4⟩, h5⟩ := h
  have k1 := of_range h1
  have k2 := num_range h4
  have k3 := stay_range h5
  unfold clOk InR
  omega
theorem pi_range {x : Pi} (h : piF x = true) : piOk x := by
  unfold piF at h
  unfold piOk InR
  split at h
  · simp only [Bool.and_eq_true, decide_eq_true_eq] at h; omega
  · split at h
    · simp only [Bool.and_eq_true, decide_eq_true_eq] at h; omega
    · cases h

theorem small_len {x : Sc} (h : largeF x = false) : x.obs.length ≤ 6 ∧ x.prs.length ≤ 8 ∧ x.pis.length ≤ 4000 ∧ ∀ p ∈ x.prs, p.ops.length ≤ 16 := by
  unfold largeF at h
  simp only [Bool.not_eq_false', Bool.and_eq_true, decide_eq_true_eq] at h
  obtain ⟨⟨⟨h1, h2⟩, h3⟩, h4⟩ := h
  refine ⟨h1, h2, h3, fun p hp => ?_⟩
  have := List.all_eq_true.1 h4 p hp
  simpa [smallF] using this
theorem good_parts {x : Sc} (h : goodF x = true) : (∀ y ∈ x.obs, obF y = true) ∧ (∀ p ∈ x.prs, ∀ y ∈ p.ops, clF x.obs.length y = true) ∧ ∀ y ∈ x.pis, piF y = true := by
  unfold goodF at h
  simp only [Bool.and_eq_true] at h
  obtain ⟨⟨⟨⟨_, _⟩, h1⟩, h2⟩, h3⟩ := h
  exact ⟨List.all_eq_true.1 h1, fun p hp => List.all_eq_true.1 (List.all_eq_true.1 h2 p hp), List.all_eq_true.1 h3⟩

/-- A script that may be is one that can be written, in few bytes. -/
theorem good_ok {x : Sc} (hl : largeF x = false) (h : goodF x = true) : scOk (partsOf x) ∧ (scE byteTok (partsOf x)).length ≤ 100000 := by
  obtain ⟨l1, l2, l3, l4⟩ := small_len hl
  obtain ⟨g1, g2, g3⟩ := good_parts h
  have o1 : ∀ y ∈ x.obs, obOk y := fun y hy => ob_range (g1 y hy)
  have o2 : ∀ p ∈ x.prs, ∀ y ∈ p.ops, clOk y := fun p hp y hy => cl_range (by omega) (g2 p hp y hy)
  have o3 : ∀ y ∈ x.pis, piOk y := fun y hy => pi_range (g3 y hy)
  have o4 : ∀ p ∈ x.prs, prOk p.ops := fun p hp => ⟨by have := l4 p hp; omega, o2 p hp⟩
  have o5 : ∀ q ∈ x.prs.map Pr.ops, prOk q := by
    intro q hq
    obtain ⟨p, hp, rfl⟩ := List.mem_map.1 hq
    exact o4 p hp
  refine ⟨⟨⟨by show x.obs.length ≤ 65536; omega, o1⟩, ⟨by show (x.prs.map Pr.ops).length ≤ 65536; rw [List.length_map]; omega, o5⟩, ⟨by show x.pis.length ≤ 65536; omega, o3⟩⟩, ?_⟩
  have k1 := listE_len (enc := obE byteTok) (b := 30) (xs := x.obs) (by omega) (fun y hy => obE_len (o1 y hy))
  have k3 := listE_len (enc := piE byteTok) (b := 20) (xs := x.pis) (by omega) (fun y hy => piE_len (o3 y hy))
  have k2 := listE_len (enc := prE byteTok) (b := 810) (xs := x.prs.map Pr.ops) (by rw [List.length_map]; omega) (fun q hq => by
    obtain ⟨p, hp, rfl⟩ := List.mem_map.1 hq
    have a := listE_len (enc := clE byteTok) (b := 50) (xs := p.ops) (by have := l4 p hp; omega) (fun y hy => clE_len (o2 p hp y hy))
    have b := l4 p hp
    show (listE byteTok (clE byteTok) p.ops).length ≤ 810
    omega)
  rw [List.length_map] at k2
  show (listE byteTok (obE byteTok) x.obs ++ listE byteTok (prE byteTok) (x.prs.map Pr.ops) ++ listE byteTok (piE byteTok) x.pis).length ≤ 100000
  simp only [List.length_append]
  omega

section
variable {w : World} {B : Nat} {x : Sc}

/-- What Put leaves of a script that may not be. -/
def PutNot (w : World) (c : Int) (e : Ending) (w' : World) : Prop := e = .returned (.tuple #[.slice none 0 0, .iface 43 (.int .i64 c)]) ∧ Kept (fun _ => False) w w'
/-- What Put leaves of a script that may be: its bytes, in new memory. -/
def PutYes (w : World) (bs : List Nat) (e : Ending) (w' : World) : Prop := ∃ A c, e = .returned (.tuple #[.slice A bs.length c, .nilIface]) ∧ Own w.heap.size w' (.slice A bs.length c) bs ∧ Kept (fun _ => False) w w'

theorem putTop_large (h : Lies w B x) (hB : B ≤ w.heap.size) (hl : largeF x = true) : Calls Try.prog 10 #[x.agg] w (PutNot w 8) := by
  have HC := Lib.hid (check_large (h.kept ((Kept.refl (fun _ => False) w).alloc (.cells #[.slice x.os x.obs.length x.oc, .slice x.ps x.prs.length x.pc, .slice x.ks x.pis.length x.kc] 26)) hB (fun _ _ f => f)) (by simp; omega) hl)
  clear h hl
  go_enter Try.func10, Try.ntmps10
  go_wp2_with fail
  refine (HC.out).mono ?_
  rintro e w2 ⟨rfl, hk2⟩
  have HF : Hid (PutNot w 8 (.returned (.tuple #[.slice none 0 0, .iface 43 (.int .i64 8)])) w2) := Lib.hid ⟨rfl, ((Kept.refl _ w).alloc _).trans hk2 (fun _ _ f => f)⟩
  clear hk2
  go_wp2_with fail
  go_ret2
  exact HF.out

theorem putTop_bad (h : Lies w B x) (hB : B ≤ w.heap.size) (hl : largeF x = false) (hg : goodF x = false) : Calls Try.prog 10 #[x.agg] w (PutNot w 1) := by
  have HC := Lib.hid (check_small (h.kept ((Kept.refl (fun _ => False) w).alloc (.cells #[.slice x.os x.obs.length x.oc, .slice x.ps x.prs.length x.pc, .slice x.ks x.pis.length x.kc] 26)) hB (fun _ _ f => f)) (by simp; omega) hl false hg)
  clear h hl hg
  go_enter Try.func10, Try.ntmps10
  go_wp2_with fail
  refine (HC.out).mono ?_
  rintro e w2 ⟨rfl, hk2⟩
  have HF : Hid (PutNot w 1 (.returned (.tuple #[.slice none 0 0, .iface 43 (.int .i64 1)])) w2) := Lib.hid ⟨rfl, ((Kept.refl _ w).alloc _).trans hk2 (fun _ _ f => f)⟩
  clear hk2
  go_wp2_with fail
  go_ret2
  exact HF.out

set_option maxHeartbeats 1000000 in
theorem putTop_good (h : Lies w B x) (hB : B ≤ w.heap.size) (hl : largeF x = false) (hg : goodF x = true) : Calls Try.prog 10 #[x.agg] w (PutYes w (scE byteTok (partsOf x))) := by
  obtain ⟨hok, hlen⟩ := good_ok hl hg
  obtain ⟨os, oc, obs, ps, pc, prs, ks, kc, pis⟩ := x
  unfold Sc.agg
  obtain ⟨wb, hwb⟩ : ∃ wb, w.alloc (.cells #[.slice os obs.length oc, .slice ps prs.length pc, .slice ks pis.length kc] 26) = wb := ⟨_, rfl⟩
  have hkb : Kept (fun _ => False) w wb := by rw [← hwb]; exact (Kept.refl _ w).alloc _
  have hsb : wb.heap.size = w.heap.size + 1 := by rw [← hwb]; simp
  have hbb : wb.heap[w.heap.size]? = some (.cells #[.slice os obs.length oc, .slice ps prs.length pc, .slice ks pis.length kc] 26 (0, 0)) := by rw [← hwb]; exact heap_alloc_new w _
  have HC := Lib.hid (check_small (h.kept hkb hB (fun _ _ f => f)) (by omega) hl true hg)
  have hbytes : (listE byteTok (obE byteTok) obs).length + (listE byteTok (prE byteTok) (prs.map Pr.ops)).length + (listE byteTok (piE byteTok) pis).length ≤ 100000 := by
    have e : (scE byteTok (partsOf ⟨os, oc, obs, ps, pc, prs, ks, kc, pis⟩)).length = _ := rfl
    unfold scE partsOf at hlen
    simp only [List.length_append] at hlen
    exact hlen
  have HX := Lib.hid h
  have HBY := Lib.hid hbytes
  have HOK1 : Hid (∀ y ∈ obs, obOk y) := Lib.hid hok.1.2
  have HOK2 : Hid (∀ p ∈ prs, ∀ y ∈ p.ops, clOk y) := Lib.hid (fun p hp => (hok.2.1.2 p.ops (List.mem_map.2 ⟨p, hp, rfl⟩)).2)
  have HOK3 : Hid (∀ y ∈ pis, piOk y) := Lib.hid hok.2.2.2
  have HKB := Lib.hid hkb
  have HSB := Lib.hid hsb
  have HBB := Lib.hid hbb
  have hq : (Value.slice none 0 0).ownBlock ≠ some w.heap.size := by simp [Value.ownBlock]
  have HQ := Lib.hid hq
  have p0 : wb.cell? ⟨w.heap.size, 0, none⟩ = some (.slice os obs.length oc) := by rw [cell_at wb _ 0 _ _ hbb]; rfl
  have p1 : wb.cell? ⟨w.heap.size, 1, none⟩ = some (.slice ps prs.length pc) := by rw [cell_at wb _ 1 _ _ hbb]; rfl
  have p2 : wb.cell? ⟨w.heap.size, 2, none⟩ = some (.slice ks pis.length kc) := by rw [cell_at wb _ 2 _ _ hbb]; rfl
  clear h hl hg hok hlen hbytes hkb hsb hbb hq
  go_enter Try.func10, Try.ntmps10
  go_wp2_with fail
  clear hwb p0 p1 p2
  refine (HC.out).mono ?_
  rintro e w1 ⟨rfl, hk1⟩
  have hb1 := (hk1.block w.heap.size (by have := HSB.out; omega) (fun f => f)).trans HBB.out
  have c0 : w1.cell? ⟨w.heap.size, 0, none⟩ = some (.slice os obs.length oc) := by rw [cell_at w1 _ 0 _ _ hb1]; rfl
  have HB1 := Lib.hid hb1
  have HK1 := Lib.hid (HKB.out.trans hk1 (fun _ _ f => f))
  have HS1 : Hid (w.heap.size < w1.heap.size) := Lib.hid (by have := hk1.size; have := HSB.out; omega)
  clear hb1 hk1
  have HP0 := Lib.hid (Put.refl (own_nil w.heap.size w1))
  go_wp2_with fail
  refine (putObjects_any (B := B) oc (HX.out.kept HK1.out hB (fun _ _ f => f)).obs HOK1.out HP0.out.own hB (by have := HBY.out; simp only [List.length_nil]; omega) (by have := HS1.out; omega)).mono ?_
  rintro e w2 ⟨v2, rfl, hp2⟩
  have hb2 := hp2.block (b := w.heap.size) HS1.out HQ.out
  have c1 : w2.cell? ⟨w.heap.size, 1, none⟩ = some (.slice ps prs.length pc) := by rw [cell_at w2 _ 1 _ _ (hb2.1.trans HB1.out)]; rfl
  have HB2 := Lib.hid (hb2.1.trans HB1.out)
  have HQ2 := Lib.hid hb2.2
  have HP2 := Lib.hid hp2
  have HK2 : Hid (Kept (fun _ => False) w w2) := Lib.hid (HK1.out.trans hp2.kept (fun i hi e => by simp [Value.ownBlock] at e))
  have HS2 := Lib.hid (Nat.lt_of_lt_of_le HS1.out hp2.kept.size)
  clear hb2 hp2 c0
  go_wp2_with fail
  refine (putPrograms_any (B := B) pc (HX.out.kept HK2.out hB (fun _ _ f => f)).prs HOK2.out HP2.out.own hB (by have := HBY.out; simp only [List.length_append, List.length_nil]; omega) (by have := HS2.out; omega)).mono ?_
  rintro e w3 ⟨v3, rfl, hp3⟩
  have hb3 := hp3.block (b := w.heap.size) HS2.out HQ2.out
  have c2 : w3.cell? ⟨w.heap.size, 2, none⟩ = some (.slice ks pis.length kc) := by rw [cell_at w3 _ 2 _ _ (hb3.1.trans HB2.out)]; rfl
  have HP3 := Lib.hid (HP2.out.trans hp3)
  have HK3 : Hid (Kept (fun _ => False) w w3) := Lib.hid (HK1.out.trans (HP2.out.trans hp3).kept (fun i hi e => by simp [Value.ownBlock] at e))
  have HS3 := Lib.hid (Nat.lt_of_lt_of_le HS2.out hp3.kept.size)
  clear hb3 hp3 c1
  go_wp2_with fail
  refine (putPicks_any (B := B) kc (HX.out.kept HK3.out hB (fun _ _ f => f)).pis HOK3.out HP3.out.own hB (by have := HBY.out; simp only [List.length_append, List.length_nil]; omega) (by have := HS3.out; omega)).mono ?_
  rintro e w4 ⟨v4, rfl, hp4⟩
  have hp := HP3.out.trans hp4
  have hel := hp.own.elems (by have := HBY.out; unfold maxLen; simp only [List.length_append, List.length_nil]; omega)
  obtain ⟨A, c, rfl, _, _⟩ := hel
  have hbs : [] ++ listE byteTok (obE byteTok) obs ++ listE byteTok (prE byteTok) (prs.map Pr.ops) ++ listE byteTok (piE byteTok) pis = scE byteTok (partsOf ⟨os, oc, obs, ps, pc, prs, ks, kc, pis⟩) := rfl
  have HF : Hid (PutYes w (scE byteTok (partsOf ⟨os, oc, obs, ps, pc, prs, ks, kc, pis⟩)) (.returned (.tuple #[.slice A (scE byteTok (partsOf ⟨os, oc, obs, ps, pc, prs, ks, kc, pis⟩)).length c, .nilIface])) w4) :=
    Lib.hid ⟨A, c, rfl, hp.own, HK1.out.trans hp.kept (fun i hi e => by simp [Value.ownBlock] at e)⟩
  rw [hbs]
  clear hp hp4 hbs
  go_wp2_with fail
  go_ret2
  exact HF.out
end

end Go.Proofs.Ytkicpbnphbcdaaa
