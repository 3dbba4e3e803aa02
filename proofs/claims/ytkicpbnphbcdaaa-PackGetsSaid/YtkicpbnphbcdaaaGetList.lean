/-
  What package pack's readers of lists come to.
  Conditions: the bytes lie in blocks that were there before the reader.
-/
import Derived.Test.YtkicpbnphbcdaaaGetOne
import Derived.Test.YtkicpbnphbcdaaaPutAll
namespace Go.Proofs.Ytkicpbnphbcdaaa
open Go.RowKit

theorem Try.infoOb : (Try.prog.info? 48).map (fun i => (i.zero, i.size, i.bytes)) = some (some (.agg #[.int .i64 0, .bool false, .int .i64 0]), 3, 24) := by kernel_rfl
theorem Try.infoCl : (Try.prog.info? 62).map (fun i => (i.zero, i.size, i.bytes)) = some (some (.agg #[.int .i64 0, .int .i64 0, .int .i64 0, .int .i64 0, .bool false]), 5, 40) := by kernel_rfl
theorem Try.infoPi : (Try.prog.info? 57).map (fun i => (i.zero, i.size, i.bytes)) = some (some (.agg #[.int .i64 0, .int .i64 0]), 2, 16) := by kernel_rfl
theorem Try.infoPr : (Try.prog.info? 49).map (fun i => (i.zero, i.size, i.bytes)) = some (some (.slice none 0 0), 1, 24) := by kernel_rfl

theorem one_ob (xs : List Ob) : ∀ u ∈ flat Ob.cells xs, u.oneCell' = true := by
  intro u hu
  simp only [flat, List.mem_flatMap, Ob.cells] at hu
  obtain ⟨p, _, hu⟩ := hu
  simp only [List.mem_cons, List.not_mem_nil, or_false] at hu
  rcases hu with rfl | rfl | rfl <;> rfl
theorem one_cl (xs : List Cl) : ∀ u ∈ flat Cl.cells xs, u.oneCell' = true := by
  intro u hu
  simp only [flat, List.mem_flatMap, Cl.cells] at hu
  obtain ⟨p, _, hu⟩ := hu
  simp only [List.mem_cons, List.not_mem_nil, or_false] at hu
  rcases hu with rfl | rfl | rfl | rfl | rfl <;> rfl
theorem one_pi (xs : List Pi) : ∀ u ∈ flat Pi.cells xs, u.oneCell' = true := by
  intro u hu
  simp only [flat, List.mem_flatMap, Pi.cells] at hu
  obtain ⟨p, _, hu⟩ := hu
  simp only [List.mem_cons, List.not_mem_nil, or_false] at hu
  rcases hu with rfl | rfl <;> rfl

/-- A list that was read, in new memory, and what is left. -/
def ListTo {α : Type} (T : TypeId) (m : Nat) (f : α → List Value) (g : Option (List Nat) → List α × Option (List Nat)) (w : World) (r B : Nat) (st : Option (List Nat)) (e : Ending) (w' : World) : Prop :=
  ∃ v, e = .returned v ∧ w'.ownsRow w.heap.size T m v (g st).1.length (flat f (g st).1) ∧ Rd w' r B (g st).2 ∧ Kept (fun k => k = r) w w'

theorem listTo_of {α : Type} {T : TypeId} {m : Nat} {f : α → List Value} {g : Option (List Nat) → List α × Option (List Nat)} {w : World} {r B : Nat} {st : Option (List Nat)} {v : Value} {w' : World} {ys : List α} {s : Option (List Nat)}
    (hg : g st = (ys, s)) (h1 : w'.ownsRow w.heap.size T m v ys.length (flat f ys)) (h2 : Rd w' r B s) (h3 : Kept (fun k => k = r) w w') : ListTo T m f g w r B st (.returned v) w' := by
  refine ⟨v, rfl, ?_, ?_, h3⟩ <;> rw [hg] <;> assumption

set_option maxHeartbeats 2000000 in
theorem getObjects_any {w : World} {r B : Nat} {st : Option (List Nat)} (h : Rd w r B st) (hB : B ≤ r) :
    Calls Try.prog 30 #[.pointer (some ⟨r, 0, none⟩), .func (.func 31) #[] #[]] w (ListTo 48 3 Ob.cells (listP byteTok (obP byteTok)) w r B st) := by
  obtain ⟨i0, hi, hz, hn, hby⟩ := info_parts Try.infoOb
  have HI := Lib.hid hi
  have HZ := Lib.hid hz
  have HN := Lib.hid hn
  have HBY := Lib.hid hby
  have hlt := h.lt
  have HC := Lib.hid (count_any' h hB)
  have HRW := Lib.hid hlt
  clear hi hz hn hby h hlt
  go_enter Try.func30, Try.ntmps30
  go_wp2_with fail
  refine (HC.out).mono ?_
  rintro e w1 ⟨rfl, h1, hk1⟩
  have hn6 : (cntP byteTok st).1 ≤ 65536 := by unfold cntP; split <;> dsimp only <;> omega
  have hst : listP byteTok (obP byteTok) st = loopP (obP byteTok) (cntP byteTok st).1 [] (cntP byteTok st).2 := rfl
  have HST := Lib.hid hst
  have H1 := Lib.hid h1
  have HK1 := Lib.hid hk1
  clear hst h1 hk1
  generalize (cntP byteTok st).1 = n at *
  generalize (cntP byteTok st).2 = s1 at *
  go_wp2_with fail
  go_loopw [5, 9] (fun v i wr => ∃ (k : Nat) (acc : List Ob) (s : Option (List Nat)), i = .int .i64 k ∧ k ≤ n ∧ acc.length = k ∧ loopP (obP byteTok) n [] s1 = loopP (obP byteTok) (n - k) acc s ∧ wr.ownsRow w.heap.size 48 3 v acc.length (flat Ob.cells acc) ∧ Rd wr r B s ∧ Kept (fun k => k = r) w wr) (fun _ i _ => n - (intOf i).toNat)
  case atStart => exact ⟨0, [], s1, rfl, by omega, rfl, rfl, World.ownsRow_nil _ _ _ _, H1.out, HK1.out⟩
  case round =>
    clear H1 HK1
    obtain ⟨k, acc, s, rfl, hkn, hacc, hloop, hown, hrd, hk⟩ := hrel
    have HACC := Lib.hid hacc
    have HL := Lib.hid hloop
    have HO := Lib.hid hown
    have HR := Lib.hid hrd
    have HK := Lib.hid hk
    clear hacc hloop hown hrd hk
    by_cases hkk : k < n
    · go_wp2_with fail
      refine (getObject_any HR.out hB).mono ?_
      rintro e w2 ⟨rfl, hr2, hk2⟩
      obtain ⟨xs', hxs⟩ : ∃ xs', obP byteTok s = xs' := ⟨_, rfl⟩
      obtain ⟨⟨kind, fair, n0⟩, s2⟩ := xs'
      rw [hxs] at hr2
      have HXS := Lib.hid hxs
      rw [show (obP byteTok s).1 = ⟨kind, fair, n0⟩ from by rw [hxs]]
      unfold Ob.agg
      have HK2 := Lib.hid (HK.out.trans hk2 (fun _ _ e => e))
      have HO2 := Lib.hid (own_kept HO.out hk2 (fun g hg e => by have := (HO.out.lt g hg).1; have := HRW.out; omega))
      have HS2 : Hid (w.heap.size ≤ w2.heap.size) := Lib.hid (HK2.out.size)
      clear hxs hk2
      match s2, hr2 with
      | none, hr2 =>
        have hb : w2.heap[r]? = some (.cells #[.slice none 0 0, .bool true] 68 (0, 0)) := hr2
        have c1 : w2.cell? ⟨r, 1, none⟩ = some (.bool true) := by rw [cell_at w2 _ 1 _ _ hb]; rfl
        have HLT : Hid (r < w2.heap.size) := Lib.hid (by have := HS2.out; have := HRW.out; omega)
        have HF : ∀ w3, Kept (fun _ => False) w2 w3 → ListTo 48 3 Ob.cells (listP byteTok (obP byteTok)) w r B st (.returned (.slice none 0 0)) w3 := fun w3 hk3 => listTo_of (ys := []) (s := none) (by rw [HST.out, HL.out, show n - k = (n - k - 1) + 1 by omega, loopP, HXS.out]) (World.ownsRow_nil _ _ _ _) (Rd.kept (st := none) hb hk3 hB (fun _ _ f => f)) (HK2.out.trans hk3 (fun _ _ f => f.elim))
        have HFF := Lib.hid HF
        clear HF hb hr2
        have hlt2 := HLT.out
        go_wp2_with fail
        go_ret
        exact HFF.out _ ((Kept.refl _ w2).alloc _)
      | some rest, hr2 =>
        have HRD := Lib.hid hr2
        obtain ⟨⟨A, c, hb, _, _⟩, _⟩ := hr2
        have c1 : w2.cell? ⟨r, 1, none⟩ = some (.bool false) := by rw [cell_at w2 _ 1 _ _ hb]; rfl
        have hlt2 : r < w2.heap.size := by have := HS2.out; have := HRW.out; omega
        clear hb
        have HEL : Hid (Elems ((w2.alloc (.cells #[.int .i64 kind, .bool fair, .int .i64 n0] 48)).alloc (.cells #[.int .i64 kind, .bool fair, .int .i64 n0] 48)) (w2.heap.size + 1 + 1) (some ⟨w2.heap.size + 1, 0, none⟩) 3 Ob.cells [⟨kind, fair, n0⟩]) := Lib.hid (by
          have h0 := heap_alloc_new (w2.alloc (.cells #[.int .i64 kind, .bool fair, .int .i64 n0] 48)) (.cells #[.int .i64 kind, .bool fair, .int .i64 n0] 48)
          rw [World.size_alloc] at h0
          exact Elems.block Ob.three h0 rfl (by show 1 ≤ maxLen; decide))
        go_wp2_with (at_builtin; refine wpList_append_elems (ys := [⟨kind, fair, n0⟩]) _ rfl (.tmp 18) (.tmp 20) 22 rfl w.heap.size 48 i0 (.agg #[.int .i64 0, .bool false, .int .i64 0]) 3 24 Try.underlying22 HI.out HZ.out HN.out HBY.out rfl (by decide) Ob.three (one_ob _) _ acc.length (flat Ob.cells acc) rfl ?c1 (w2.heap.size + 1 + 1) _ 1 rfl ?c2 ?c3 ?c4 ?c5 ?_)
        case c1 => exact (HO2.out.alloc _).alloc _
        case c2 => exact HEL.out
        case c3 => have := HACC.out; unfold maxLen; simp; omega
        case c4 => have := HACC.out; simp; omega
        case c5 => have := HS2.out; simp; omega
        intro v' w3 h1 h2 h3
        have hk3 : Kept (fun k => k = r) w w3 := ((HK2.out.alloc _).alloc _).grown h2 (fun g hg e => by have := (HO2.out.lt g e).1; omega)
        have hk4 : Kept (fun k => w.heap.size ≤ k) w2 w3 := (((Kept.refl (fun k => w.heap.size ≤ k) w2).alloc _).alloc _).grown h2 (fun g hg e => (HO2.out.lt g e).1)
        have hfin : ∃ (k' : Nat) (acc' : List Ob) (s' : Option (List Nat)), Value.int .i64 ((k : Int) + 1) = .int .i64 k' ∧ k' ≤ n ∧ acc'.length = k' ∧ loopP (obP byteTok) n [] s1 = loopP (obP byteTok) (n - k') acc' s' ∧ w3.ownsRow w.heap.size 48 3 v' acc'.length (flat Ob.cells acc') ∧ Rd w3 r B s' ∧ Kept (fun k => k = r) w w3 :=
          ⟨k + 1, acc ++ [⟨kind, fair, n0⟩], some rest, by go_num, by omega, by rw [List.length_append, HACC.out]; rfl, by rw [HL.out, show n - k = (n - (k + 1)) + 1 by omega, loopP, HXS.out], by rw [List.length_append, flat_append]; exact h1, HRD.out.kept hk4 hB (fun k hk e => by have := HRW.out; omega), hk3⟩
        have HF := Lib.hid hfin
        clear hfin h1 h2 h3 hk3 hk4 HEL
        go_wp2_with fail
        go_roundw
        case rel => exact HF.out
        case measure => simp [intOf]; omega
    · have HF := Lib.hid (listTo_of (T := 48) (m := 3) (f := Ob.cells) (g := listP byteTok (obP byteTok)) (st := st) (by rw [HST.out, HL.out, show n - k = 0 by omega]; rfl) HO.out HR.out HK.out)
      clear HO
      go_wp2_with fail
      go_ret
      exact HF.out

set_option maxHeartbeats 2000000 in
theorem getOps_any {w : World} {r B : Nat} {st : Option (List Nat)} (h : Rd w r B st) (hB : B ≤ r) :
    Calls Try.prog 52 #[.pointer (some ⟨r, 0, none⟩), .func (.func 53) #[] #[]] w (ListTo 62 5 Cl.cells (listP byteTok (clP byteTok)) w r B st) := by
  obtain ⟨i0, hi, hz, hn, hby⟩ := info_parts Try.infoCl
  have HI := Lib.hid hi
  have HZ := Lib.hid hz
  have HN := Lib.hid hn
  have HBY := Lib.hid hby
  have hlt := h.lt
  have HC := Lib.hid (count_any' h hB)
  have HRW := Lib.hid hlt
  clear hi hz hn hby h hlt
  go_enter Try.func52, Try.ntmps52
  go_wp2_with fail
  refine (HC.out).mono ?_
  rintro e w1 ⟨rfl, h1, hk1⟩
  have hn6 : (cntP byteTok st).1 ≤ 65536 := by unfold cntP; split <;> dsimp only <;> omega
  have hst : listP byteTok (clP byteTok) st = loopP (clP byteTok) (cntP byteTok st).1 [] (cntP byteTok st).2 := rfl
  have HST := Lib.hid hst
  have H1 := Lib.hid h1
  have HK1 := Lib.hid hk1
  clear hst h1 hk1
  generalize (cntP byteTok st).1 = n at *
  generalize (cntP byteTok st).2 = s1 at *
  go_wp2_with fail
  go_loopw [5, 9] (fun v i wr => ∃ (k : Nat) (acc : List Cl) (s : Option (List Nat)), i = .int .i64 k ∧ k ≤ n ∧ acc.length = k ∧ loopP (clP byteTok) n [] s1 = loopP (clP byteTok) (n - k) acc s ∧ wr.ownsRow w.heap.size 62 5 v acc.length (flat Cl.cells acc) ∧ Rd wr r B s ∧ Kept (fun k => k = r) w wr) (fun _ i _ => n - (intOf i).toNat)
  case atStart => exact ⟨0, [], s1, rfl, by omega, rfl, rfl, World.ownsRow_nil _ _ _ _, H1.out, HK1.out⟩
  case round =>
    clear H1 HK1
    obtain ⟨k, acc, s, rfl, hkn, hacc, hloop, hown, hrd, hk⟩ := hrel
    have HACC := Lib.hid hacc
    have HL := Lib.hid hloop
    have HO := Lib.hid hown
    have HR := Lib.hid hrd
    have HK := Lib.hid hk
    clear hacc hloop hown hrd hk
    by_cases hkk : k < n
    · go_wp2_with fail
      refine (getOp_any HR.out hB).mono ?_
      rintro e w2 ⟨rfl, hr2, hk2⟩
      obtain ⟨xs', hxs⟩ : ∃ xs', clP byteTok s = xs' := ⟨_, rfl⟩
      obtain ⟨⟨kind, obj, n0, wait, breaks⟩, s2⟩ := xs'
      rw [hxs] at hr2
      have HXS := Lib.hid hxs
      rw [show (clP byteTok s).1 = ⟨kind, obj, n0, wait, breaks⟩ from by rw [hxs]]
      unfold Cl.agg
      have HK2 := Lib.hid (HK.out.trans hk2 (fun _ _ e => e))
      have HO2 := Lib.hid (own_kept HO.out hk2 (fun g hg e => by have := (HO.out.lt g hg).1; have := HRW.out; omega))
      have HS2 : Hid (w.heap.size ≤ w2.heap.size) := Lib.hid (HK2.out.size)
      clear hxs hk2
      match s2, hr2 with
      | none, hr2 =>
        have hb : w2.heap[r]? = some (.cells #[.slice none 0 0, .bool true] 68 (0, 0)) := hr2
        have c1 : w2.cell? ⟨r, 1, none⟩ = some (.bool true) := by rw [cell_at w2 _ 1 _ _ hb]; rfl
        have HLT : Hid (r < w2.heap.size) := Lib.hid (by have := HS2.out; have := HRW.out; omega)
        have HF : ∀ w3, Kept (fun _ => False) w2 w3 → ListTo 62 5 Cl.cells (listP byteTok (clP byteTok)) w r B st (.returned (.slice none 0 0)) w3 := fun w3 hk3 => listTo_of (ys := []) (s := none) (by rw [HST.out, HL.out, show n - k = (n - k - 1) + 1 by omega, loopP, HXS.out]) (World.ownsRow_nil _ _ _ _) (Rd.kept (st := none) hb hk3 hB (fun _ _ f => f)) (HK2.out.trans hk3 (fun _ _ f => f.elim))
        have HFF := Lib.hid HF
        clear HF hb hr2
        have hlt2 := HLT.out
        go_wp2_with fail
        go_ret
        exact HFF.out _ ((Kept.refl _ w2).alloc _)
      | some rest, hr2 =>
        have HRD := Lib.hid hr2
        obtain ⟨⟨A, c, hb, _, _⟩, _⟩ := hr2
        have c1 : w2.cell? ⟨r, 1, none⟩ = some (.bool false) := by rw [cell_at w2 _ 1 _ _ hb]; rfl
        have hlt2 : r < w2.heap.size := by have := HS2.out; have := HRW.out; omega
        clear hb
        have HEL : Hid (Elems ((w2.alloc (.cells #[.int .i64 kind, .int .i64 obj, .int .i64 n0, .int .i64 wait, .bool breaks] 62)).alloc (.cells #[.int .i64 kind, .int .i64 obj, .int .i64 n0, .int .i64 wait, .bool breaks] 62)) (w2.heap.size + 1 + 1) (some ⟨w2.heap.size + 1, 0, none⟩) 5 Cl.cells [⟨kind, obj, n0, wait, breaks⟩]) := Lib.hid (by
          have h0 := heap_alloc_new (w2.alloc (.cells #[.int .i64 kind, .int .i64 obj, .int .i64 n0, .int .i64 wait, .bool breaks] 62)) (.cells #[.int .i64 kind, .int .i64 obj, .int .i64 n0, .int .i64 wait, .bool breaks] 62)
          rw [World.size_alloc] at h0
          exact Elems.block Cl.five h0 rfl (by show 1 ≤ maxLen; decide))
        go_wp2_with (at_builtin; refine wpList_append_elems (ys := [⟨kind, obj, n0, wait, breaks⟩]) _ rfl (.tmp 18) (.tmp 20) 49 rfl w.heap.size 62 i0 (.agg #[.int .i64 0, .int .i64 0, .int .i64 0, .int .i64 0, .bool false]) 5 40 Try.underlying49 HI.out HZ.out HN.out HBY.out rfl (by decide) Cl.five (one_cl _) _ acc.length (flat Cl.cells acc) rfl ?c1 (w2.heap.size + 1 + 1) _ 1 rfl ?c2 ?c3 ?c4 ?c5 ?_)
        case c1 => exact (HO2.out.alloc _).alloc _
        case c2 => exact HEL.out
        case c3 => have := HACC.out; unfold maxLen; simp; omega
        case c4 => have := HACC.out; simp; omega
        case c5 => have := HS2.out; simp; omega
        intro v' w3 h1 h2 h3
        have hk3 : Kept (fun k => k = r) w w3 := ((HK2.out.alloc _).alloc _).grown h2 (fun g hg e => by have := (HO2.out.lt g e).1; omega)
        have hk4 : Kept (fun k => w.heap.size ≤ k) w2 w3 := (((Kept.refl (fun k => w.heap.size ≤ k) w2).alloc _).alloc _).grown h2 (fun g hg e => (HO2.out.lt g e).1)
        have hfin : ∃ (k' : Nat) (acc' : List Cl) (s' : Option (List Nat)), Value.int .i64 ((k : Int) + 1) = .int .i64 k' ∧ k' ≤ n ∧ acc'.length = k' ∧ loopP (clP byteTok) n [] s1 = loopP (clP byteTok) (n - k') acc' s' ∧ w3.ownsRow w.heap.size 62 5 v' acc'.length (flat Cl.cells acc') ∧ Rd w3 r B s' ∧ Kept (fun k => k = r) w w3 :=
          ⟨k + 1, acc ++ [⟨kind, obj, n0, wait, breaks⟩], some rest, by go_num, by omega, by rw [List.length_append, HACC.out]; rfl, by rw [HL.out, show n - k = (n - (k + 1)) + 1 by omega, loopP, HXS.out], by rw [List.length_append, flat_append]; exact h1, HRD.out.kept hk4 hB (fun k hk e => by have := HRW.out; omega), hk3⟩
        have HF := Lib.hid hfin
        clear hfin h1 h2 h3 hk3 hk4 HEL
        go_wp2_with fail
        go_roundw
        case rel => exact HF.out
        case measure => simp [intOf]; omega
    · have HF := Lib.hid (listTo_of (T := 62) (m := 5) (f := Cl.cells) (g := listP byteTok (clP byteTok)) (st := st) (by rw [HST.out, HL.out, show n - k = 0 by omega]; rfl) HO.out HR.out HK.out)
      clear HO
      go_wp2_with fail
      go_ret
      exact HF.out

set_option maxHeartbeats 2000000 in
theorem getPicks_any {w : World} {r B : Nat} {st : Option (List Nat)} (h : Rd w r B st) (hB : B ≤ r) :
    Calls Try.prog 34 #[.pointer (some ⟨r, 0, none⟩), .func (.func 35) #[] #[]] w (ListTo 57 2 Pi.cells (listP byteTok (piP byteTok)) w r B st) := by
  obtain ⟨i0, hi, hz, hn, hby⟩ := info_parts Try.infoPi
  have HI := Lib.hid hi
  have HZ := Lib.hid hz
  have HN := Lib.hid hn
  have HBY := Lib.hid hby
  have hlt := h.lt
  have HC := Lib.hid (count_any' h hB)
  have HRW := Lib.hid hlt
  clear hi hz hn hby h hlt
  go_enter Try.func34, Try.ntmps34
  go_wp2_with fail
  refine (HC.out).mono ?_
  rintro e w1 ⟨rfl, h1, hk1⟩
  have hn6 : (cntP byteTok st).1 ≤ 65536 := by unfold cntP; split <;> dsimp only <;> omega
  have hst : listP byteTok (piP byteTok) st = loopP (piP byteTok) (cntP byteTok st).1 [] (cntP byteTok st).2 := rfl
  have HST := Lib.hid hst
  have H1 := Lib.hid h1
  have HK1 := Lib.hid hk1
  clear hst h1 hk1
  generalize (cntP byteTok st).1 = n at *
  generalize (cntP byteTok st).2 = s1 at *
  go_wp2_with fail
  go_loopw [5, 9] (fun v i wr => ∃ (k : Nat) (acc : List Pi) (s : Option (List Nat)), i = .int .i64 k ∧ k ≤ n ∧ acc.length = k ∧ loopP (piP byteTok) n [] s1 = loopP (piP byteTok) (n - k) acc s ∧ wr.ownsRow w.heap.size 57 2 v acc.length (flat Pi.cells acc) ∧ Rd wr r B s ∧ Kept (fun k => k = r) w wr) (fun _ i _ => n - (intOf i).toNat)
  case atStart => exact ⟨0, [], s1, rfl, by omega, rfl, rfl, World.ownsRow_nil _ _ _ _, H1.out, HK1.out⟩
  case round =>
    clear H1 HK1
    obtain ⟨k, acc, s, rfl, hkn, hacc, hloop, hown, hrd, hk⟩ := hrel
    have HACC := Lib.hid hacc
    have HL := Lib.hid hloop
    have HO := Lib.hid hown
    have HR := Lib.hid hrd
    have HK := Lib.hid hk
    clear hacc hloop hown hrd hk
    by_cases hkk : k < n
    · go_wp2_with fail
      refine (getPick_any HR.out hB).mono ?_
      rintro e w2 ⟨rfl, hr2, hk2⟩
      obtain ⟨xs', hxs⟩ : ∃ xs', piP byteTok s = xs' := ⟨_, rfl⟩
      obtain ⟨⟨kind, n0⟩, s2⟩ := xs'
      rw [hxs] at hr2
      have HXS := Lib.hid hxs
      rw [show (piP byteTok s).1 = ⟨kind, n0⟩ from by rw [hxs]]
      unfold Pi.agg
      have HK2 := Lib.hid (HK.out.trans hk2 (fun _ _ e => e))
      have HO2 := Lib.hid (own_kept HO.out hk2 (fun g hg e => by have := (HO.out.lt g hg).1; have := HRW.out; omega))
      have HS2 : Hid (w.heap.size ≤ w2.heap.size) := Lib.hid (HK2.out.size)
      clear hxs hk2
      match s2, hr2 with
      | none, hr2 =>
        have hb : w2.heap[r]? = some (.cells #[.slice none 0 0, .bool true] 68 (0, 0)) := hr2
        have c1 : w2.cell? ⟨r, 1, none⟩ = some (.bool true) := by rw [cell_at w2 _ 1 _ _ hb]; rfl
        have HLT : Hid (r < w2.heap.size) := Lib.hid (by have := HS2.out; have := HRW.out; omega)
        have HF : ∀ w3, Kept (fun _ => False) w2 w3 → ListTo 57 2 Pi.cells (listP byteTok (piP byteTok)) w r B st (.returned (.slice none 0 0)) w3 := fun w3 hk3 => listTo_of (ys := []) (s := none) (by rw [HST.out, HL.out, show n - k = (n - k - 1) + 1 by omega, loopP, HXS.out]) (World.ownsRow_nil _ _ _ _) (Rd.kept (st := none) hb hk3 hB (fun _ _ f => f)) (HK2.out.trans hk3 (fun _ _ f => f.elim))
        have HFF := Lib.hid HF
        clear HF hb hr2
        have hlt2 := HLT.out
        go_wp2_with fail
        go_ret
        exact HFF.out _ ((Kept.refl _ w2).alloc _)
      | some rest, hr2 =>
        have HRD := Lib.hid hr2
        obtain ⟨⟨A, c, hb, _, _⟩, _⟩ := hr2
        have c1 : w2.cell? ⟨r, 1, none⟩ = some (.bool false) := by rw [cell_at w2 _ 1 _ _ hb]; rfl
        have hlt2 : r < w2.heap.size := by have := HS2.out; have := HRW.out; omega
        clear hb
        have HEL : Hid (Elems ((w2.alloc (.cells #[.int .i64 kind, .int .i64 n0] 57)).alloc (.cells #[.int .i64 kind, .int .i64 n0] 57)) (w2.heap.size + 1 + 1) (some ⟨w2.heap.size + 1, 0, none⟩) 2 Pi.cells [⟨kind, n0⟩]) := Lib.hid (by
          have h0 := heap_alloc_new (w2.alloc (.cells #[.int .i64 kind, .int .i64 n0] 57)) (.cells #[.int .i64 kind, .int .i64 n0] 57)
          rw [World.size_alloc] at h0
          exact Elems.block Pi.two h0 rfl (by show 1 ≤ maxLen; decide))
        go_wp2_with (at_builtin; refine wpList_append_elems (ys := [⟨kind, n0⟩]) _ rfl (.tmp 18) (.tmp 20) 24 rfl w.heap.size 57 i0 (.agg #[.int .i64 0, .int .i64 0]) 2 16 Try.underlying24 HI.out HZ.out HN.out HBY.out rfl (by decide) Pi.two (one_pi _) _ acc.length (flat Pi.cells acc) rfl ?c1 (w2.heap.size + 1 + 1) _ 1 rfl ?c2 ?c3 ?c4 ?c5 ?_)
        case c1 => exact (HO2.out.alloc _).alloc _
        case c2 => exact HEL.out
        case c3 => have := HACC.out; unfold maxLen; simp; omega
        case c4 => have := HACC.out; simp; omega
        case c5 => have := HS2.out; simp; omega
        intro v' w3 h1 h2 h3
        have hk3 : Kept (fun k => k = r) w w3 := ((HK2.out.alloc _).alloc _).grown h2 (fun g hg e => by have := (HO2.out.lt g e).1; omega)
        have hk4 : Kept (fun k => w.heap.size ≤ k) w2 w3 := (((Kept.refl (fun k => w.heap.size ≤ k) w2).alloc _).alloc _).grown h2 (fun g hg e => (HO2.out.lt g e).1)
        have hfin : ∃ (k' : Nat) (acc' : List Pi) (s' : Option (List Nat)), Value.int .i64 ((k : Int) + 1) = .int .i64 k' ∧ k' ≤ n ∧ acc'.length = k' ∧ loopP (piP byteTok) n [] s1 = loopP (piP byteTok) (n - k') acc' s' ∧ w3.ownsRow w.heap.size 57 2 v' acc'.length (flat Pi.cells acc') ∧ Rd w3 r B s' ∧ Kept (fun k => k = r) w w3 :=
          ⟨k + 1, acc ++ [⟨kind, n0⟩], some rest, by go_num, by omega, by rw [List.length_append, HACC.out]; rfl, by rw [HL.out, show n - k = (n - (k + 1)) + 1 by omega, loopP, HXS.out], by rw [List.length_append, flat_append]; exact h1, HRD.out.kept hk4 hB (fun k hk e => by have := HRW.out; omega), hk3⟩
        have HF := Lib.hid hfin
        clear hfin h1 h2 h3 hk3 hk4 HEL
        go_wp2_with fail
        go_roundw
        case rel => exact HF.out
        case measure => simp [intOf]; omega
    · have HF := Lib.hid (listTo_of (T := 57) (m := 2) (f := Pi.cells) (g := listP byteTok (piP byteTok)) (st := st) (by rw [HST.out, HL.out, show n - k = 0 by omega]; rfl) HO.out HR.out HK.out)
      clear HO
      go_wp2_with fail
      go_ret
      exact HF.out

end Go.Proofs.Ytkicpbnphbcdaaa
