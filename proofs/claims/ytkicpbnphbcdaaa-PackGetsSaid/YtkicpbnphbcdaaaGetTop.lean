/-
  What package pack's Get comes to.
  Conditions: the bytes lie in blocks that were there.
-/
import Derived.Test.YtkicpbnphbcdaaaGetProgs
import Derived.Test.YtkicpbnphbcdaaaPutTop
namespace Go.Proofs.Ytkicpbnphbcdaaa
open Go.RowKit

def largeP (p : Parts) : Bool := !(decide (p.obs.length ≤ 6) && decide (p.prs.length ≤ 8) && decide (p.pis.length ≤ 4000) && p.prs.all (fun ops => decide (ops.length ≤ 16)))
def goodP (p : Parts) : Bool := p.obs.length != 0 && p.prs.length != 0 && p.obs.all obF && p.prs.all (fun ops => ops.all (clF p.obs.length)) && p.pis.all piF
theorem large_parts (x : Sc) : largeF x = largeP (partsOf x) := by
  unfold largeF largeP partsOf
  simp only [List.length_map, List.all_map]
  rfl
theorem good_partsP (x : Sc) : goodF x = goodP (partsOf x) := by
  unfold goodF goodP partsOf
  simp only [List.length_map, List.all_map]
  rfl

theorem loop_few {β α : Type} (get : Option (List β) → α × Option (List β)) : ∀ (n : Nat) (acc : List α) (s : Option (List β)), (loopP get n acc s).1.length ≤ acc.length + n
  | 0, acc, s => by simp [loopP]
  | n + 1, acc, s => by
    simp only [loopP]
    split
    · simp
    · have := loop_few get n (acc ++ [‹α›]) (some ‹List β›)
      simp only [List.length_append, List.length_cons, List.length_nil] at this
      omega
theorem list_few {β α : Type} (T : Tok β) (get : Option (List β) → α × Option (List β)) (s : Option (List β)) : (listP T get s).1.length ≤ 65536 := by
  have := loop_few get (cntP T s).1 [] (cntP T s).2
  have h2 : (cntP T s).1 ≤ 65536 := by unfold cntP; split <;> dsimp only <;> omega
  unfold listP
  simp only [List.length_nil] at this
  omega

/-- What Get leaves of bytes that are none's, or of a script that may not be. -/
def GetNot (w : World) (c : Int) (e : Ending) (w' : World) : Prop := e = .returned (.tuple #[.agg #[.slice none 0 0, .slice none 0 0, .slice none 0 0], .iface 43 (.int .i64 c)]) ∧ Kept (fun _ => False) w w'
/-- What Get leaves of a script's bytes: the script, in new memory. -/
def GetYes (w : World) (p : Parts) (e : Ending) (w' : World) : Prop := ∃ y : Sc, e = .returned (.tuple #[y.agg, .nilIface]) ∧ partsOf y = p ∧ Owned w.heap.size (fun _ => False) w' y ∧ Kept (fun _ => False) w w'
/-- All of it. -/
def GetOut (w : World) (bs : List Nat) (e : Ending) (w' : World) : Prop :=
  ((scP byteTok (some bs)).2 ≠ some [] → GetNot w 2 e w') ∧
  ((scP byteTok (some bs)).2 = some [] → largeP (scP byteTok (some bs)).1 = true → GetNot w 8 e w') ∧
  ((scP byteTok (some bs)).2 = some [] → largeP (scP byteTok (some bs)).1 = false → goodP (scP byteTok (some bs)).1 = false → GetNot w 1 e w') ∧
  ((scP byteTok (some bs)).2 = some [] → largeP (scP byteTok (some bs)).1 = false → goodP (scP byteTok (some bs)).1 = true → GetYes w (scP byteTok (some bs)).1 e w')

theorem getOut_form {w w' : World} {bs : List Nat} {e : Ending} (h : (scP byteTok (some bs)).2 ≠ some []) (hn : GetNot w 2 e w') : GetOut w bs e w' := ⟨fun _ => hn, fun h' => absurd h' h, fun h' => absurd h' h, fun h' => absurd h' h⟩
theorem getOut_large {w w' : World} {bs : List Nat} {e : Ending} (h : (scP byteTok (some bs)).2 = some []) (hl : largeP (scP byteTok (some bs)).1 = true) (hn : GetNot w 8 e w') : GetOut w bs e w' :=
  ⟨fun h' => absurd h h', fun _ _ => hn, (fun _ h2 => by rw [hl] at h2; cases h2), (fun _ h2 => by rw [hl] at h2; cases h2)⟩
theorem getOut_bad {w w' : World} {bs : List Nat} {e : Ending} (h : (scP byteTok (some bs)).2 = some []) (hl : largeP (scP byteTok (some bs)).1 = false) (hg : goodP (scP byteTok (some bs)).1 = false) (hn : GetNot w 1 e w') : GetOut w bs e w' :=
  ⟨fun h' => absurd h h', (fun _ h2 => by rw [hl] at h2; cases h2), fun _ _ _ => hn, (fun _ _ h3 => by rw [hg] at h3; cases h3)⟩
theorem getOut_good {w w' : World} {bs : List Nat} {e : Ending} (h : (scP byteTok (some bs)).2 = some []) (hl : largeP (scP byteTok (some bs)).1 = false) (hg : goodP (scP byteTok (some bs)).1 = true) (hn : GetYes w (scP byteTok (some bs)).1 e w') : GetOut w bs e w' :=
  ⟨fun h' => absurd h h', (fun _ h2 => by rw [hl] at h2; cases h2), (fun _ _ h3 => by rw [hg] at h3; cases h3), fun _ _ _ => hn⟩

theorem owned_of {W r c1 c2 c3 : Nat} {w0 w1 w2 w3 : World} {a1 a2 a3 : Option Addr} {obs : List Ob} {prs : List Pr} {pis : List Pi} (hW : W ≤ w0.heap.size) (hr : r < w0.heap.size) (hM1 : Made w0.heap.size w1 a1 c1 3 Ob.cells obs)
    (k1 : Kept (fun k => k = r) w0 w1) (k2 : Kept (fun k => k = r) w1 w2) (k3 : Kept (fun k => k = r) w2 w3)
    (hrow : w2.ownsRow w1.heap.size 49 1 (.slice a2 prs.length c2) prs.length (flat Pr.cells prs)) (hoff : ∀ p ∈ prs, Off w1.heap.size (fun g => g = r ∨ (Value.slice a2 prs.length c2).ownBlock = some g) w2 p.s p.cap 5 Cl.cells p.ops)
    (hM3 : Made w2.heap.size w3 a3 c3 2 Pi.cells pis) (hfew : prs.length ≤ maxLen) : Owned W (fun _ => False) w3 ⟨a1, c1, obs, a2, c2, prs, a3, c3, pis⟩ := by
  have z1 := k1.size
  have z2 := k2.size
  have z3 := k3.size
  have hb : ∀ g, (Value.slice a2 prs.length c2).ownBlock = some g → w1.heap.size ≤ g ∧ g < w2.heap.size := fun g e => World.ownsRow.lt hrow g e
  have hM1' : Made w0.heap.size w3 a1 c1 3 Ob.cells obs := by
    refine (hM1.kept k2 (fun hne g hg hl e hh => by omega)).kept k3 (fun hne g hg hl e hh => by omega)
  refine ⟨⟨hM1'.since hW, fun hne g e hq => ?_⟩, ⟨hM3.since (by omega), fun hne g e hq => ?_⟩, fun p hp => ⟨((hoff p hp).1.kept k3 (fun hne g hg hl e hh => by omega)).since (by omega), fun hne g e hq => ?_⟩, ?_, fun g _ f => f.elim, hfew⟩
  · obtain ⟨g', e', hw, hl⟩ := hM1.new hne
    replace e : a1 = some ⟨g, 0, none⟩ := e
    rw [e] at e'
    simp only [Option.some.injEq, Addr.mk.injEq, and_true] at e'
    rcases hq with hq | hq
    · exact hq.elim
    · have := hb g hq; omega
  · obtain ⟨g', e', hw, hl⟩ := hM3.new hne
    replace e : a3 = some ⟨g, 0, none⟩ := e
    rw [e] at e'
    simp only [Option.some.injEq, Addr.mk.injEq, and_true] at e'
    rcases hq with hq | hq
    · exact hq.elim
    · have := hb g hq; omega
  · rcases hq with hq | hq
    · exact hq.elim
    · exact (hoff p hp).2 hne g e (.inr hq)
  · have h := own_kept hrow k3 (fun g hg e => by have := hb g hg; omega)
    refine ⟨h.1, ?_⟩
    rcases h.2 with h2 | ⟨g, cap, cur, h3, hbb, h4⟩
    · exact .inl h2
    · exact .inr ⟨g, cap, cur, h3, by omega, h4⟩

theorem Owned.avoid {W : Nat} {R : Nat → Prop} {w : World} {y : Sc} (h : Owned W (fun _ => False) w y) (hR : ∀ g, R g → g < W) : Owned W R w y := by
  have key : ∀ {α : Type} {A : Option Addr} {c m : Nat} {f : α → List Value} {ys : List α}, Off W (fun g => False ∨ y.row = some g) w A c m f ys → Off W (fun g => R g ∨ y.row = some g) w A c m f ys := by
    intro α A c m f ys h
    refine ⟨h.1, fun hne g e hq => ?_⟩
    rcases hq with hq | hq
    · obtain ⟨g', e', hw, _⟩ := h.1.new hne
      rw [e] at e'
      simp only [Option.some.injEq, Addr.mk.injEq, and_true] at e'
      have := hR g hq
      omega
    · exact h.2 hne g e (.inr hq)
  exact ⟨key h.obs, key h.pis, fun p hp => key (h.ops p hp), h.own, fun g hg hr => by have := (World.ownsRow.lt h.own g hg).1; have := hR g hr; omega, h.few⟩

theorem res_set {w w4 : World} {T : TypeId} {a b c : Value} (h : w4.heap[w.heap.size]? = some (.cells #[a, b, c] T (0, 0))) (hk : Kept (fun _ => False) w w4) (x y z : Value) :
    (((w4.setCell ⟨w.heap.size, 0, none⟩ x).setCell ⟨w.heap.size, 1, none⟩ y).setCell ⟨w.heap.size, 2, none⟩ z).heap[w.heap.size]? = some (.cells #[x, y, z] T (0, 0)) ∧
    Kept (fun _ => False) w (((w4.setCell ⟨w.heap.size, 0, none⟩ x).setCell ⟨w.heap.size, 1, none⟩ y).setCell ⟨w.heap.size, 2, none⟩ z) :=
  ⟨blk_set (blk_set (blk_set h 0 x) 1 y) 2 z, ((hk.setCell ⟨w.heap.size, 0, none⟩ x (fun h => absurd h (Nat.lt_irrefl _))).setCell ⟨w.heap.size, 1, none⟩ y (fun h => absurd h (Nat.lt_irrefl _))).setCell ⟨w.heap.size, 2, none⟩ z (fun h => absurd h (Nat.lt_irrefl _))⟩
theorem res_cells {w4 : World} {g : Nat} {T : TypeId} {a b c : Value} (h : w4.heap[g]? = some (.cells #[a, b, c] T (0, 0))) : w4.cell? ⟨g, 0, none⟩ = some a ∧ w4.cell? ⟨g, 1, none⟩ = some b ∧ w4.cell? ⟨g, 2, none⟩ = some c :=
  ⟨by rw [cell_at w4 _ 0 _ _ h]; rfl, by rw [cell_at w4 _ 1 _ _ h]; rfl, by rw [cell_at w4 _ 2 _ _ h]; rfl⟩

set_option maxHeartbeats 4000000 in
set_option maxRecDepth 100000 in
theorem getTop_any {w : World} {B c : Nat} {A : Option Addr} {bs : List Nat} (h : Elems w B A 1 bC bs) (hb : ∀ b ∈ bs, b < 256) (hc : bs.length ≤ c) (hB : B ≤ w.heap.size) :
    Calls Try.prog 14 #[.slice A bs.length c] w (GetOut w bs) := by
  obtain ⟨W0, hW0⟩ : ∃ W0, (w.alloc (.cells #[.slice none 0 0, .slice none 0 0, .slice none 0 0] 26)).alloc (.cells #[.slice A bs.length c, .bool false] 68) = W0 := ⟨_, rfl⟩
  have hs0 : W0.heap.size = w.heap.size + 1 + 1 := by rw [← hW0]; simp
  have hb0 : W0.heap[w.heap.size + 1]? = some (.cells #[.slice A bs.length c, .bool false] 68 (0, 0)) := by
    rw [← hW0]
    have := heap_alloc_new (w.alloc (.cells #[.slice none 0 0, .slice none 0 0, .slice none 0 0] 26)) (.cells #[.slice A bs.length c, .bool false] 68)
    rwa [World.size_alloc] at this
  have hr0 : W0.heap[w.heap.size]? = some (.cells #[.slice none 0 0, .slice none 0 0, .slice none 0 0] 26 (0, 0)) := by
    rw [← hW0]
    exact ((Kept.refl (fun _ => False) (w.alloc (.cells #[.slice none 0 0, .slice none 0 0, .slice none 0 0] 26))).alloc _).block _ (by simp) (fun f => f) |>.trans (heap_alloc_new w _)
  have hk0 : Kept (fun _ => False) w W0 := by rw [← hW0]; exact ((Kept.refl _ w).alloc _).alloc _
  have HR0 : Hid (Rd W0 (w.heap.size + 1) B (some bs)) := Lib.hid ⟨⟨A, c, hb0, hc, h.kept hk0 hB (fun _ _ f => f)⟩, hb⟩
  have HS0 := Lib.hid hs0
  have HQ0 := Lib.hid hr0
  have HK0 := Lib.hid hk0
  have HBR : Hid (B ≤ w.heap.size + 1) := Lib.hid (by omega)
  have HW0 := Lib.hid hW0
  clear h hb hc hs0 hb0 hr0 hk0 hW0
  go_enter Try.func14, Try.ntmps14
  go_wp2_with fail
  rw [HW0.out]
  clear HW0
  refine (getObjects_any HR0.out HBR.out).mono ?_
  rintro e w1 ⟨v1, rfl, ho1, hr1, hk1⟩
  have HSC : ∀ (o : List Ob) (p : List (List Cl)) (q : List Pi) (s1 s2 s3 : Option (List Nat)), listP byteTok (obP byteTok) (some bs) = (o, s1) → listP byteTok (prP byteTok) s1 = (p, s2) → listP byteTok (piP byteTok) s2 = (q, s3) → scP byteTok (some bs) = (⟨o, p, q⟩, s3) := by
    intro o p q s1 s2 s3 h1 h2 h3
    unfold scP
    rw [h1]; dsimp only; rw [h2]; dsimp only; rw [h3]
  have f1 := list_few byteTok (obP byteTok) (some bs)
  obtain ⟨l1, hl1⟩ : ∃ l, listP byteTok (obP byteTok) (some bs) = l := ⟨_, rfl⟩
  obtain ⟨obs, s1⟩ := l1
  rw [hl1] at ho1 hr1 f1
  obtain ⟨a1, c1, rfl, hM1⟩ := Made.of_own Ob.three ho1 rfl (by unfold maxLen; dsimp only at f1 ⊢; omega)
  have HL1 := Lib.hid hl1
  have HM1 := Lib.hid hM1
  have HR1 := Lib.hid hr1
  have HK1 := Lib.hid hk1
  have HSCC := Lib.hid HSC
  clear hl1 ho1 hM1 hr1 hk1 f1 HSC
  go_wp2_with fail
  refine (getPrograms_any HR1.out HBR.out (fun s => list_few byteTok (clP byteTok) s)).mono ?_
  rintro e w2 ⟨v2, prs, rfl, hmap, ho2, hoff, hr2, hk2⟩
  have f2 := list_few byteTok (prP byteTok) s1
  obtain ⟨l2, hl2⟩ : ∃ l, listP byteTok (prP byteTok) s1 = l := ⟨_, rfl⟩
  obtain ⟨ps, s2⟩ := l2
  rw [hl2] at hmap hr2 f2
  have hpl : prs.length ≤ 65536 := by
    have e := congrArg List.length hmap
    simp only [List.length_map] at e
    dsimp only at f2 e
    omega
  obtain ⟨a2, c2, rfl, _⟩ := Made.of_own Pr.one ho2 rfl (by unfold maxLen; omega)
  have HL2 := Lib.hid hl2
  have HMAP := Lib.hid hmap
  have HO2 := Lib.hid ho2
  have HOFF := Lib.hid hoff
  have HR2 := Lib.hid hr2
  have HK2 := Lib.hid hk2
  have HPL := Lib.hid hpl
  clear hl2 hmap ho2 hoff hr2 hk2 hpl f2
  go_wp2_with fail
  refine (getPicks_any HR2.out HBR.out).mono ?_
  rintro e w3 ⟨v3, rfl, ho3, hr3, hk3⟩
  have f3 := list_few byteTok (piP byteTok) s2
  obtain ⟨l3, hl3⟩ : ∃ l, listP byteTok (piP byteTok) s2 = l := ⟨_, rfl⟩
  obtain ⟨pis, s3⟩ := l3
  rw [hl3] at ho3 hr3 f3
  obtain ⟨a3, c3, rfl, hM3⟩ := Made.of_own Pi.two ho3 rfl (by unfold maxLen; dsimp only at f3 ⊢; omega)
  have hscp := HSCC.out obs ps pis s1 s2 s3 HL1.out HL2.out hl3
  have hmp : prs.map Pr.ops = ps := HMAP.out
  rw [← hmp] at hscp
  have HSCP := Lib.hid hscp
  have HOW : Hid (Owned W0.heap.size (fun _ => False) w3 ⟨a1, c1, obs, a2, c2, prs, a3, c3, pis⟩) := Lib.hid (owned_of (w0 := W0) (r := w.heap.size + 1) (Nat.le_refl _) (by have := HS0.out; omega) HM1.out HK1.out HK2.out hk3 HO2.out HOFF.out hM3 (by have := HPL.out; unfold maxLen; omega))
  have hk03 : Kept (fun k => k = w.heap.size + 1) W0 w3 := (HK1.out.trans HK2.out (fun _ _ e => e)).trans hk3 (fun _ _ e => e)
  have hkw : Kept (fun _ => False) w w3 := HK0.out.trans hk03 (fun i hi e => by omega)
  have hq3 := (hk03.block w.heap.size (by have := HS0.out; omega) (by omega)).trans HQ0.out
  have HQ3 := Lib.hid hq3
  have HKW := Lib.hid hkw
  have hz3 : w.heap.size + 1 < w3.heap.size := by have := HS0.out; have := hk03.size; omega
  have HZ3 := Lib.hid hz3
  have HRD := Lib.hid hr3
  clear hscp hl3 hmp ho3 hM3 hr3 hk3 f3 hk03 hkw hq3 HL1 HM1 HR1 HK1 HSCC HL2 HMAP HO2 HOFF HR2 HK2 HPL HR0 HK0
  obtain ⟨wy, hwy⟩ : ∃ wy, w3.alloc (.cells #[.slice a1 obs.length c1, .slice a2 prs.length c2, .slice a3 pis.length c3] 26) = wy := ⟨_, rfl⟩
  have hky : Kept (fun _ => False) w3 wy := by rw [← hwy]; exact (Kept.refl _ w3).alloc _
  have hzy : wy.heap.size = w3.heap.size + 1 := by rw [← hwy]; simp
  have hqy := (hky.block w.heap.size (by omega) (fun f => f)).trans HQ3.out
  have HQY := Lib.hid hqy
  have HKY := Lib.hid hky
  have HZY := Lib.hid hzy
  have HRDY : Hid (Rd wy (w.heap.size + 1) B s3) := Lib.hid (HRD.out.kept hky HBR.out (fun _ _ f => f))
  have HWY := Lib.hid hwy
  clear hky hzy hqy hwy HRD
  -- what the result's variable holds, in a world where nothing has turned since
  have hres : ∀ w4, Kept (fun _ => False) wy w4 → w4.heap[w.heap.size]? = some (.cells #[.slice none 0 0, .slice none 0 0, .slice none 0 0] 26 (0, 0)) := fun w4 hk => (hk.block _ (by have := HZY.out; have := HZ3.out; omega) (fun f => f)).trans HQY.out
  have HRES := Lib.hid hres
  clear hres
  match s3, HRDY with
  | none, HRDY =>
    have hb : wy.heap[w.heap.size + 1]? = some (.cells #[.slice none 0 0, .bool true] 68 (0, 0)) := HRDY.out
    have d1 : w3.cell? ⟨w.heap.size + 1, 1, none⟩ = some (.bool true) := by
      have := HKY.out.cell (p := ⟨w.heap.size + 1, 1, none⟩) HZ3.out (fun f => f)
      rw [← this, cell_at wy _ 1 _ _ hb]; rfl
    clear hb
    have g0 : w3.frozen? ⟨w.heap.size, 0, none⟩ = false := frozen_at w3 _ 0 _ _ HQ3.out
    have g1 : w3.frozen? ⟨w.heap.size, 1, none⟩ = false := frozen_at w3 _ 1 _ _ HQ3.out
    have g2 : w3.frozen? ⟨w.heap.size, 2, none⟩ = false := frozen_at w3 _ 2 _ _ HQ3.out
    obtain ⟨q0, q1, q2⟩ := res_cells HQ3.out
    have hz4 : w.heap.size < w3.heap.size := by have := HZ3.out; omega
    have hs := res_set HQ3.out HKW.out (.slice none 0 0) (.slice none 0 0) (.slice none 0 0)
    have hs2 := (((Kept.refl (fun _ => False) _).alloc (.cells #[.slice a1 obs.length c1, .slice a2 prs.length c2, .slice a3 pis.length c3] 26)).block w.heap.size (Array.getElem?_eq_some_iff.1 hs.1).1 (fun f => f)).trans hs.1
    obtain ⟨rb0, rb1, rb2⟩ := res_cells hs2
    have HF := Lib.hid (getOut_form (bs := bs) (by rw [HSCP.out]; simp) ⟨rfl, hs.2.alloc (.cells #[.slice a1 obs.length c1, .slice a2 prs.length c2, .slice a3 pis.length c3] 26)⟩)
    clear hs hs2
    go_wp2_with fail
    exact bodyPost_ret (v := .tuple #[.agg #[.slice none 0 0, .slice none 0 0, .slice none 0 0], .iface 43 (.int .i64 2)]) (by simp [results, Try.results14, go_sem, rb0, rb1, rb2]) rfl HF.out
  | some (x :: xs), HRDY =>
    obtain ⟨⟨A9, c9, hb, _, _⟩, _⟩ := HRDY.out
    have hb3 : w3.heap[w.heap.size + 1]? = some (.cells #[.slice A9 (x :: xs).length c9, .bool false] 68 (0, 0)) := (HKY.out.block (w.heap.size + 1) HZ3.out (fun f => f)).symm.trans hb
    have d1 : w3.cell? ⟨w.heap.size + 1, 1, none⟩ = some (.bool false) := by rw [cell_at w3 _ 1 _ _ hb3]; rfl
    have d0 : w3.cell? ⟨w.heap.size + 1, 0, none⟩ = some (.slice A9 (xs.length + 1) c9) := by rw [cell_at w3 _ 0 _ _ hb3]; rfl
    have hpos : (0 : Int) < (xs.length : Int) + 1 := by omega
    clear hb3
    clear hb
    have g0 : w3.frozen? ⟨w.heap.size, 0, none⟩ = false := frozen_at w3 _ 0 _ _ HQ3.out
    have g1 : w3.frozen? ⟨w.heap.size, 1, none⟩ = false := frozen_at w3 _ 1 _ _ HQ3.out
    have g2 : w3.frozen? ⟨w.heap.size, 2, none⟩ = false := frozen_at w3 _ 2 _ _ HQ3.out
    obtain ⟨q0, q1, q2⟩ := res_cells HQ3.out
    have hz4 : w.heap.size < w3.heap.size := by have := HZ3.out; omega
    have hs := res_set HQ3.out HKW.out (.slice none 0 0) (.slice none 0 0) (.slice none 0 0)
    have hs2 := (((Kept.refl (fun _ => False) _).alloc (.cells #[.slice a1 obs.length c1, .slice a2 prs.length c2, .slice a3 pis.length c3] 26)).block w.heap.size (Array.getElem?_eq_some_iff.1 hs.1).1 (fun f => f)).trans hs.1
    obtain ⟨rb0, rb1, rb2⟩ := res_cells hs2
    have HF := Lib.hid (getOut_form (bs := bs) (by rw [HSCP.out]; simp) ⟨rfl, hs.2.alloc (.cells #[.slice a1 obs.length c1, .slice a2 prs.length c2, .slice a3 pis.length c3] 26)⟩)
    clear hs hs2
    go_wp2_with fail
    exact bodyPost_ret (v := .tuple #[.agg #[.slice none 0 0, .slice none 0 0, .slice none 0 0], .iface 43 (.int .i64 2)]) (by simp [results, Try.results14, go_sem, rb0, rb1, rb2]) rfl HF.out
  | some [], HRDY =>
    obtain ⟨⟨A9, c9, hb, _, _⟩, _⟩ := HRDY.out
    have hb3 : w3.heap[w.heap.size + 1]? = some (.cells #[.slice A9 0 c9, .bool false] 68 (0, 0)) := (HKY.out.block (w.heap.size + 1) HZ3.out (fun f => f)).symm.trans hb
    have d1 : w3.cell? ⟨w.heap.size + 1, 1, none⟩ = some (.bool false) := by rw [cell_at w3 _ 1 _ _ hb3]; rfl
    have d0 : w3.cell? ⟨w.heap.size + 1, 0, none⟩ = some (.slice A9 0 c9) := by rw [cell_at w3 _ 0 _ _ hb3]; rfl
    clear hb hb3
    have hlies : Lies wy w3.heap.size ⟨a1, c1, obs, a2, c2, prs, a3, c3, pis⟩ := HOW.out.lies.kept HKY.out (Nat.le_refl _) (fun _ _ f => f)
    have HLIES := Lib.hid hlies
    clear hlies
    have hend : ∀ w4, Kept (fun _ => False) wy w4 → ∀ c, (∀ w5, GetNot w c (.returned (.tuple #[.agg #[.slice none 0 0, .slice none 0 0, .slice none 0 0], .iface 43 (.int .i64 c)])) w5 → GetOut w bs (.returned (.tuple #[.agg #[.slice none 0 0, .slice none 0 0, .slice none 0 0], .iface 43 (.int .i64 c)])) w5) →
        (w4.frozen? ⟨w.heap.size, 0, none⟩ = false ∧ w4.frozen? ⟨w.heap.size, 1, none⟩ = false ∧ w4.frozen? ⟨w.heap.size, 2, none⟩ = false) ∧
        (w4.cell? ⟨w.heap.size, 0, none⟩ = some (.slice none 0 0) ∧ w4.cell? ⟨w.heap.size, 1, none⟩ = some (.slice none 0 0) ∧ w4.cell? ⟨w.heap.size, 2, none⟩ = some (.slice none 0 0)) ∧
        ((((w4.setCell ⟨w.heap.size, 0, none⟩ (.slice none 0 0)).setCell ⟨w.heap.size, 1, none⟩ (.slice none 0 0)).setCell ⟨w.heap.size, 2, none⟩ (.slice none 0 0)).cell? ⟨w.heap.size, 0, none⟩ = some (.slice none 0 0) ∧ (((w4.setCell ⟨w.heap.size, 0, none⟩ (.slice none 0 0)).setCell ⟨w.heap.size, 1, none⟩ (.slice none 0 0)).setCell ⟨w.heap.size, 2, none⟩ (.slice none 0 0)).cell? ⟨w.heap.size, 1, none⟩ = some (.slice none 0 0) ∧
          (((w4.setCell ⟨w.heap.size, 0, none⟩ (.slice none 0 0)).setCell ⟨w.heap.size, 1, none⟩ (.slice none 0 0)).setCell ⟨w.heap.size, 2, none⟩ (.slice none 0 0)).cell? ⟨w.heap.size, 2, none⟩ = some (.slice none 0 0)) ∧
        GetOut w bs (.returned (.tuple #[.agg #[.slice none 0 0, .slice none 0 0, .slice none 0 0], .iface 43 (.int .i64 c)])) (((w4.setCell ⟨w.heap.size, 0, none⟩ (.slice none 0 0)).setCell ⟨w.heap.size, 1, none⟩ (.slice none 0 0)).setCell ⟨w.heap.size, 2, none⟩ (.slice none 0 0)) := by
      intro w4 hk4 c hout
      have hb4 := HRES.out w4 hk4
      have hs := res_set hb4 ((HKW.out.trans HKY.out (fun _ _ f => f)).trans hk4 (fun _ _ f => f)) (.slice none 0 0) (.slice none 0 0) (.slice none 0 0)
      exact ⟨⟨frozen_at w4 _ 0 _ _ hb4, frozen_at w4 _ 1 _ _ hb4, frozen_at w4 _ 2 _ _ hb4⟩, res_cells hb4, res_cells hs.1, hout _ ⟨rfl, hs.2⟩⟩
    have HEND := Lib.hid hend
    clear hend
    have hpe : partsOf ⟨a1, c1, obs, a2, c2, prs, a3, c3, pis⟩ = (scP byteTok (some bs)).1 := by rw [HSCP.out]; rfl
    have hs2 : (scP byteTok (some bs)).2 = some [] := by rw [HSCP.out]
    have HPE := Lib.hid hpe
    have HSE := Lib.hid hs2
    clear hpe hs2
    cases hl : largeF ⟨a1, c1, obs, a2, c2, prs, a3, c3, pis⟩
    · cases hg : goodF ⟨a1, c1, obs, a2, c2, prs, a3, c3, pis⟩
      · have HLP : Hid (largeP (scP byteTok (some bs)).1 = false) := Lib.hid (by rw [← HPE.out, ← large_parts, hl])
        have HGP : Hid (goodP (scP byteTok (some bs)).1 = false) := Lib.hid (by rw [← HPE.out, ← good_partsP, hg])
        have HC := Lib.hid (check_small HLIES.out (by have := HZY.out; omega) hl false hg)
        clear hl hg
        go_wp2_with fail
        rw [HWY.out]
        refine (HC.out).mono ?_
        rintro e w4 ⟨rfl, hk4⟩
        obtain ⟨⟨g0, g1, g2⟩, ⟨q0, q1, q2⟩, ⟨rb0, rb1, rb2⟩, hout⟩ := HEND.out w4 hk4 1 (fun w5 hn => getOut_bad HSE.out HLP.out HGP.out hn)
        have HF := Lib.hid hout
        clear hk4 hout
        go_wp2_with fail
        exact bodyPost_ret (v := .tuple #[.agg #[.slice none 0 0, .slice none 0 0, .slice none 0 0], .iface 43 (.int .i64 1)]) (by simp [results, Try.results14, go_sem, rb0, rb1, rb2]) rfl HF.out
      · have HLP : Hid (largeP (scP byteTok (some bs)).1 = false) := Lib.hid (by rw [← HPE.out, ← large_parts, hl])
        have HGP : Hid (goodP (scP byteTok (some bs)).1 = true) := Lib.hid (by rw [← HPE.out, ← good_partsP, hg])
        have HC := Lib.hid (check_small HLIES.out (by have := HZY.out; omega) hl true hg)
        clear hl hg
        go_wp2_with fail
        rw [HWY.out]
        refine (HC.out).mono ?_
        rintro e w4 ⟨rfl, hk4⟩
        have hb4 := HRES.out w4 hk4
        have g0 := frozen_at w4 _ 0 _ _ hb4
        have g1 := frozen_at w4 _ 1 _ _ hb4
        have g2 := frozen_at w4 _ 2 _ _ hb4
        obtain ⟨q0, q1, q2⟩ := res_cells hb4
        have hy4 : w4.heap[w3.heap.size]? = some (.cells #[.slice a1 obs.length c1, .slice a2 prs.length c2, .slice a3 pis.length c3] 26 (0, 0)) := (hk4.block w3.heap.size (by have := HZY.out; omega) (fun f => f)).trans (by rw [← HWY.out]; exact heap_alloc_new w3 _)
        obtain ⟨p0, p1, p2⟩ := res_cells hy4
        have hkk := (HKW.out.trans HKY.out (fun _ _ f => f)).trans hk4 (fun _ _ f => f)
        have hs := res_set hb4 hkk (.slice a1 obs.length c1) (.slice a2 prs.length c2) (.slice a3 pis.length c3)
        obtain ⟨rb0, rb1, rb2⟩ := res_cells hs.1
        have how : Owned w.heap.size (fun g => g = w.heap.size) w4 ⟨a1, c1, obs, a2, c2, prs, a3, c3, pis⟩ := (((HOW.out.avoid (R := fun g => g = w.heap.size) (fun g e => by have := HS0.out; omega)).kept (HKY.out.mono (T := fun g => g = w.heap.size) (fun _ _ f => f.elim)) (fun _ e => e)).kept (hk4.mono (T := fun g => g = w.heap.size) (fun _ _ f => f.elim)) (fun _ e => e)).less (fun _ e => e) (by have := HS0.out; omega)
        have HF := Lib.hid (getOut_good HSE.out HLP.out HGP.out ⟨⟨a1, c1, obs, a2, c2, prs, a3, c3, pis⟩, rfl, HPE.out, ((how.kept (S := fun g => g = w.heap.size) (((Kept.refl (fun g => g = w.heap.size) w4).setCell ⟨w.heap.size, 0, none⟩ (.slice a1 obs.length c1) (fun _ => rfl) |>.setCell ⟨w.heap.size, 1, none⟩ (.slice a2 prs.length c2) (fun _ => rfl)).setCell ⟨w.heap.size, 2, none⟩ (.slice a3 pis.length c3) (fun _ => rfl)) (fun _ e => e)).less (fun _ f => f.elim) (Nat.le_refl _)), hs.2⟩)
        clear hk4 hb4 hy4 hkk hs how
        go_wp2_with fail
        exact bodyPost_ret (v := .tuple #[.agg #[.slice a1 obs.length c1, .slice a2 prs.length c2, .slice a3 pis.length c3], .nilIface]) (by simp [results, Try.results14, go_sem, rb0, rb1, rb2]) rfl HF.out
    · have HLP : Hid (largeP (scP byteTok (some bs)).1 = true) := Lib.hid (by rw [← HPE.out, ← large_parts, hl])
      have HC := Lib.hid (check_large HLIES.out (by have := HZY.out; omega) hl)
      clear hl
      go_wp2_with fail
      rw [HWY.out]
      refine (HC.out).mono ?_
      rintro e w4 ⟨rfl, hk4⟩
      obtain ⟨⟨g0, g1, g2⟩, ⟨q0, q1, q2⟩, ⟨rb0, rb1, rb2⟩, hout⟩ := HEND.out w4 hk4 8 (fun w5 hn => getOut_large HSE.out HLP.out hn)
      have HF := Lib.hid hout
      clear hk4 hout
      go_wp2_with fail
      exact bodyPost_ret (v := .tuple #[.agg #[.slice none 0 0, .slice none 0 0, .slice none 0 0], .iface 43 (.int .i64 8)]) (by simp [results, Try.results14, go_sem, rb0, rb1, rb2]) rfl HF.out

end Go.Proofs.Ytkicpbnphbcdaaa
