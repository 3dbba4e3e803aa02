/-
  What the program's parseInstruction comes to.
  Conditions: the table lies as the program's text lays it; strings of at most 100000 bytes.
-/
import Derived.Test.YtlhnbihpefgcbaaGreatDoorInsTake
import Derived.Test.YtlhnbihpefgcbaaGreatDoorInsOp
import Derived.Test.YtlhnbihpefgcbaaGreatDoorInsMayL
import Derived.Test.YtlhnbihpefgcbaaGreatDoorInsLabel
import Derived.Deep.RegionHeld3
namespace Go.Proofs.YtlhnbihpefgcbaaGreatDoor
open Go.RowKit

/-- What the parts of a line come to. -/
def partsL (ps : List Str) : Option Ln := match ps with
  | [] => none
  | w :: r => if 1 ≤ opL w ∧ (hasAt (opL w)).length = r.length then (argsL (hasAt (opL w)) r { zeroLn with op := (opL w : Nat) }).bind (fun x => if fitsAt (opL w) x.a x.b x.c x.n then some x else none) else none

theorem opL_le (l : Str) : opL l ≤ 22 := by
  unfold opL
  rcases h : (List.range 23).find? (fun i => wordAt i == l) with _ | k
  · exact Nat.zero_le _
  · have := List.mem_of_find?_eq_some h
    rw [List.mem_range] at this
    show k ≤ 22
    omega
theorem has_letters (i : Nat) (hi : i ≤ 22) : ∀ h ∈ hasAt i, h = 65 ∨ h = 66 ∨ h = 67 ∨ h = 78 ∨ h = 84 := by
  have : i = 0 ∨ i = 1 ∨ i = 2 ∨ i = 3 ∨ i = 4 ∨ i = 5 ∨ i = 6 ∨ i = 7 ∨ i = 8 ∨ i = 9 ∨ i = 10 ∨ i = 11 ∨ i = 12 ∨ i = 13 ∨ i = 14 ∨ i = 15 ∨ i = 16 ∨ i = 17 ∨ i = 18 ∨ i = 19 ∨ i = 20 ∨ i = 21 ∨ i = 22 := by omega
  rcases this with rfl | rfl | rfl | rfl | rfl | rfl | rfl | rfl | rfl | rfl | rfl | rfl | rfl | rfl | rfl | rfl | rfl | rfl | rfl | rfl | rfl | rfl | rfl <;> decide

/-- How it stands. -/
structure InsAt (w : World) (bp bs bl : Nat) (ps : List Str) (c k : Nat) (x : Ln) (wr : World) : Prop where
  laid : Laid wr
  parts : wr.heap[bp]? = some (.cells ((ps.map (fun p => Value.string (strS p)) ++ List.replicate (c - ps.length) (Value.string ByteArray.empty)).toArray) 9 (0, 0))
  shape : wr.heap[bs]? = some (.cells #[.string (strS (wordAt k)), .string (strS (hasAt k)), .int .i64 (behindAt k)] 130 (0, 0))
  line : wr.heap[bl]? = some (.cells (lnCells x) 59 (0, 0))
  res : wr.heap[w.heap.size]? = some (.cells (lnCells zeroLn) 59 (0, 0))
  kept : Kept (fun _ => False) w wr
theorem InsAt.on {w wr w' : World} {bp bs bl c k : Nat} {ps : List Str} {x y : Ln} (h : InsAt w bp bs bl ps c k x wr) (hw : w.heap.size < bp) (hb : bp < bs) (hbl : bs < bl) (hg : ∀ g, Glob g → g < w.heap.size) (hk : Kept (fun q => q = bl) wr w') (hy : w'.heap[bl]? = some (.cells (lnCells y) 59 (0, 0))) : InsAt w bp bs bl ps c k y w' :=
  ⟨h.laid.on hk (fun g h e => by have := hg g h; omega), (hk.block _ (Array.getElem?_eq_some_iff.1 h.parts).1 (by omega)).trans h.parts, (hk.block _ (Array.getElem?_eq_some_iff.1 h.shape).1 (by omega)).trans h.shape, hy, (hk.block _ (Array.getElem?_eq_some_iff.1 h.res).1 (by omega)).trans h.res, h.kept.trans hk (fun q hq e => by omega)⟩
theorem InsAt.part {w wr : World} {bp bs bl c k i : Nat} {ps : List Str} {x : Ln} {p : Str} (h : InsAt w bp bs bl ps c k x wr) (hp : ps[i]? = some p) : wr.cell? ⟨bp, i, none⟩ = some (.string (strS p)) := by
  rw [cell_at _ _ _ _ _ h.parts, List.getElem?_toArray, List.getElem?_append_left (by rw [List.length_map]; exact (List.getElem?_eq_some_iff.1 hp).1), List.getElem?_map, hp]
  rfl

set_option maxHeartbeats 4000000 in
set_option maxRecDepth 100000 in
theorem parseIns_any (s : ByteArray) (w : World) (hL : Laid w) (hs0 : 0 < s.size) (hs : s.size ≤ 100000) (r : Option Ln) (hr : partsL (Lib.splitK [32] 0 (min 4 (s.size + 1) - 1) (bytesS s)) = r) (hlen : ∀ p ∈ Lib.splitK [32] 0 (min 4 (s.size + 1) - 1) (bytesS s), p.length ≤ 100000) :
    Calls Tryz.prog 47 #[.string s] w (PartTo w r) := by
  have hB := heap_new1 w (.cells (lnCells zeroLn) 59)
  have hG := hL.low
  have HS := Lib.hid (split_any s (w.alloc (.cells (lnCells zeroLn) 59)) (hL.on0 ((Kept.refl _ w).alloc _)) hs)
  have HL := Lib.hid (hL.on0 ((Kept.refl _ w).alloc (.cells (lnCells zeroLn) 59)))
  have HK0 := Lib.hid ((Kept.refl (fun _ => False) w).alloc (.cells (lnCells zeroLn) 59))
  have HB := Lib.hid hB
  have HG := Lib.hid hG
  have HRR := Lib.hid hr
  have HLEN := Lib.hid hlen
  clear hB hG hL hr hlen
  go_enter Tryz.func47, Tryz.ntmps47
  go_wp2_with fail
  refine HS.out.mono ?_
  rintro e w1 ⟨ps, c, hps, h4, hpc, hc4, hcn, rfl, hk1, hP⟩
  have hc1 : ¬ c = 1 := hcn hs0
  clear hcn
  rw [World.size_alloc] at hP
  rw [World.size_alloc]
  have hr := HRR.out
  rw [← hps] at hr
  have hlen : ∀ p ∈ ps, p.length ≤ 100000 := fun p hp => HLEN.out p (by rw [← hps]; exact hp)
  have hps0 : ps ≠ [] := by
    rw [hps]
    rcases h : min 4 (s.size + 1) - 1 with _ | j
    · rw [Lib.splitK]; simp
    · rw [Lib.splitK]; split <;> simp
  obtain ⟨p0, pr, hpp⟩ : ∃ p0 pr, ps = p0 :: pr := by
    rcases ps with _ | ⟨a, b⟩
    · exact absurd rfl hps0
    · exact ⟨a, b, rfl⟩
  have HPP := Lib.hid hpp
  have HLN := Lib.hid hlen
  have HP := Lib.hid hP
  have hL1 := HL.out.on0 hk1
  have hK1 := HK0.out.trans hk1 (fun _ _ f => f)
  have hB1 := (hk1.block _ (Array.getElem?_eq_some_iff.1 HB.out).1 (fun f => f)).trans HB.out
  have hc0 : w1.cell? ⟨w.heap.size + 1, 0, none⟩ = some (.string (strS p0)) := by
    rw [cell_at _ _ _ _ _ hP, hpp]; rfl
  have hn0 : 0 < ps.length := by rw [hpp]; simp
  have hn0' : (0 : Int) < (ps.length : Int) := by omega
  obtain ⟨k, hk⟩ : ∃ k, opL p0 = k := ⟨_, rfl⟩
  have hk22 : k ≤ 22 := by rw [← hk]; exact opL_le p0
  have HOP := Lib.hid (opOf_any (strS p0) w1 hL1)
  rw [bytesS_str, hk] at HOP
  have HKK := Lib.hid hk
  have HRP := Lib.hid hr
  have hbp : w.heap.size + 1 < w1.heap.size := (Array.getElem?_eq_some_iff.1 hP).1
  have HL1 := Lib.hid hL1
  have HK1 := Lib.hid hK1
  have HB1 := Lib.hid hB1
  clear hr hlen hps0 hpp hP hL1 hK1 hB1 hk hk1 hps HS HL HK0 HB HRR HLEN
  go_wp2_with fail
  refine HOP.out.mono ?_
  rintro e w2 ⟨rfl, hk2⟩
  have HO := Lib.hid (shapeOf_any (k : Int) w2 (HL1.out.on0 hk2) (by omega) (by omega))
  have HK2 := Lib.hid (HK1.out.trans hk2 (fun _ _ f => f))
  have HL2 := Lib.hid (HL1.out.on0 hk2)
  have HB2 := Lib.hid (hk2.at0 HB1.out)
  have HP2 := Lib.hid (hk2.at0 HP.out)
  have hbp2 : w.heap.size + 1 < w2.heap.size := Nat.lt_of_lt_of_le hbp hk2.size
  clear hk2 hc0 hbp HP HK1 HL1 HB1 HOP
  go_wp2_with fail
  refine HO.out.mono ?_
  rintro e w3 ⟨i, ok, rfl, hi, hcase, hk3⟩
  have hbp3 : w.heap.size + 1 < w3.heap.size := Nat.lt_of_lt_of_le hbp2 hk3.size
  have HK3 := Lib.hid (HK2.out.trans hk3 (fun _ _ f => f))
  have HL3 := Lib.hid (HL2.out.on0 hk3)
  have HB3 := Lib.hid (hk3.at0 HB2.out)
  have HP3 := Lib.hid (hk3.at0 HP2.out)
  clear hk3 hbp2 HK2 HL2 HB2 HP2 HO
  -- the shape's box
  obtain ⟨W4, hW4⟩ : ∃ W4, w3.alloc (.cells #[.string (strS (wordAt i)), .string (strS (hasAt i)), .int .i64 (behindAt i)] 130) = W4 := ⟨_, rfl⟩
  have hKa : Kept (fun _ => False) w3 W4 := by rw [← hW4]; exact (Kept.refl _ w3).alloc _
  have HS4 := Lib.hid (show W4.heap[w3.heap.size]? = some (.cells #[.string (strS (wordAt i)), .string (strS (hasAt i)), .int .i64 (behindAt i)] 130 (0, 0)) by rw [← hW4]; exact heap_new1 w3 _)
  have HZ4 := Lib.hid (show W4.heap.size = w3.heap.size + 1 by rw [← hW4]; simp)
  have HK4 := Lib.hid (HK3.out.trans hKa (fun _ _ f => f))
  have HL4 := Lib.hid (HL3.out.on0 hKa)
  have HB4 := Lib.hid (hKa.at0 HB3.out)
  have HP4 := Lib.hid (hKa.at0 HP3.out)
  clear hKa HK3 HL3 HB3 HP3
  rcases hcase with ⟨g1, g2, g3, rfl⟩ | ⟨g1, rfl, rfl⟩
  case inr =>
    have hk0 : k = 0 := by omega
    have hrn : r = none := by
      have h := HRP.out
      rw [HPP.out] at h
      unfold partsL at h
      simp only [HKK.out, hk0] at h
      rw [if_neg (by omega)] at h
      exact h.symm
    obtain ⟨E1, E2⟩ := part_end (r := r) (y := zeroLn) (ok := false) HB4.out HK4.out (fun z hz => by rw [hrn] at hz; cases hz) (fun _ => rfl)
    have HE1 := Lib.hid E1
    have HE2 := Lib.hid E2
    obtain ⟨⟨t0, t1, t2, t3, t4, t5, t6⟩, f0, f1, f2, f3, f4, f5, f6⟩ := cells7 HB4.out
    clear E1 E2 hk0 hrn
    go_wp2_with fail
    exact bodyPost_ret (res_line rfl _ w.heap.size zeroLn _ rfl HE1.out) rfl HE2.out
  obtain rfl : i = k := by omega
  obtain ⟨t, ht⟩ : ∃ t, strS (hasAt i) = t := ⟨_, rfl⟩
  have htb : bytesS t = hasAt i := by rw [← ht]; rfl
  have hts : t.size = (hasAt i).length := by rw [← bytesS_len, htb]
  have ht4 : t.size ≤ 3 := by
    rw [hts]
    have : i = 0 ∨ i = 1 ∨ i = 2 ∨ i = 3 ∨ i = 4 ∨ i = 5 ∨ i = 6 ∨ i = 7 ∨ i = 8 ∨ i = 9 ∨ i = 10 ∨ i = 11 ∨ i = 12 ∨ i = 13 ∨ i = 14 ∨ i = 15 ∨ i = 16 ∨ i = 17 ∨ i = 18 ∨ i = 19 ∨ i = 20 ∨ i = 21 ∨ i = 22 := by omega
    rcases this with rfl | rfl | rfl | rfl | rfl | rfl | rfl | rfl | rfl | rfl | rfl | rfl | rfl | rfl | rfl | rfl | rfl | rfl | rfl | rfl | rfl | rfl | rfl <;> decide
  have hw : IntKind.i64.wrap (1 + (t.size : Int)) = 1 + (t.size : Int) := IntWalk.i64_in _ (by omega)
  have HTB := Lib.hid htb
  have HTS := Lib.hid hts
  rw [ht] at HS4 hW4
  have hsh : shV i = .agg #[.string (strS (wordAt i)), .string t, .int .i64 (behindAt i)] := by rw [← ht]
  rw [hsh]
  clear hsh
  have HTT := Lib.hid ht
  clear htb hts ht
  obtain ⟨c0, c1, c2⟩ := cells3 HS4.out
  by_cases hlen : ps.length = 1 + t.size
  case neg =>
    have hne : ((ps.length : Int) != 1 + (t.size : Int)) = true := by rw [bne_iff_ne]; omega
    have hrn : r = none := by
      have h := HRP.out
      rw [HPP.out] at h
      unfold partsL at h
      simp only [HKK.out] at h
      rw [if_neg (by rintro ⟨_, h2⟩; rw [HPP.out, List.length_cons] at hlen; have := HTS.out; omega)] at h
      exact h.symm
    obtain ⟨E1, E2⟩ := part_end (r := r) (y := zeroLn) (ok := false) HB4.out HK4.out (fun z hz => by rw [hrn] at hz; cases hz) (fun _ => rfl)
    have HE1 := Lib.hid E1
    have HE2 := Lib.hid E2
    obtain ⟨⟨t0, t1, t2, t3, t4, t5, t6⟩, f0, f1, f2, f3, f4, f5, f6⟩ := cells7 HB4.out
    clear E1 E2 hrn hlen
    go_wp2_with fail
    exact bodyPost_ret (res_line rfl _ w.heap.size zeroLn _ rfl HE1.out) rfl HE2.out
  have hne : ((ps.length : Int) != 1 + (t.size : Int)) = false := by rw [bne_eq_false_iff_eq]; omega
  have hprl : pr.length = t.size := by rw [HPP.out, List.length_cons] at hlen; omega
  have hKa : Kept (fun _ => False) W4 (W4.alloc (.cells #[.string { data := #[] }, .int .i64 (i : Int), .int .i64 0, .int .i64 0, .int .i64 0, .int .i64 0, .string { data := #[] }] 59)) := (Kept.refl _ W4).alloc _
  have hAt : InsAt w (w.heap.size + 1) w3.heap.size W4.heap.size ps c i { zeroLn with op := (i : Int) } (W4.alloc (.cells #[.string { data := #[] }, .int .i64 (i : Int), .int .i64 0, .int .i64 0, .int .i64 0, .int .i64 0, .string { data := #[] }] 59)) := by
    refine ⟨HL4.out.on0 hKa, hKa.at0 HP4.out, ?_, ?_, hKa.at0 HB4.out, HK4.out.trans hKa (fun _ _ f => f)⟩
    · rw [HTT.out]; exact hKa.at0 HS4.out
    · exact heap_new1 W4 _
  have hRA : r = (argsL (hasAt i) pr { zeroLn with op := (i : Int) }).bind (fun x => if fitsAt i x.a x.b x.c x.n then some x else none) := by
    have h := HRP.out
    rw [HPP.out] at h
    unfold partsL at h
    simp only [HKK.out] at h
    rw [if_pos ⟨by omega, by have := HTS.out; omega⟩] at h
    exact h.symm
  have HAT := Lib.hid hAt
  have hi22 : i ≤ 22 := by omega
  have hbl4 : w3.heap.size < W4.heap.size := by have := HZ4.out; omega
  have HRA := Lib.hid hRA
  clear hKa hAt hRA HP4 HB4 HL4 HK4
  go_wp2_with fail
  clear g1 g2 g3 hi c0 c1 c2 hne hw
  go_loopw [40] (fun j wr => ∃ (n : Nat) (x : Ln), j = .int .i64 n ∧ n ≤ t.size ∧ argsL (hasAt i) pr { zeroLn with op := (i : Int) } = argsL ((hasAt i).drop n) (pr.drop n) x ∧ InsAt w (w.heap.size + 1) w3.heap.size W4.heap.size ps c i x wr) (fun j _ => t.size - (intOf j).toNat)
  case atStart => exact ⟨0, _, rfl, by omega, rfl, HAT.out⟩
  case round =>
    obtain ⟨n, x, rfl, hn, hx, hat⟩ := hrel
    have HX := Lib.hid hx
    have HA := Lib.hid hat
    clear hx hat
    by_cases hnt : n < t.size
    · have hnt' : (n : Int) < (t.size : Int) := by omega
      obtain ⟨p, hp⟩ : ∃ p, pr[n]? = some p := ⟨_, List.getElem?_eq_getElem (by omega)⟩
      have hat := bytesS_at t n hnt
      rw [HTB.out] at hat
      have hc := HA.out.part (i := 1 + n) (p := p) (by rw [HPP.out, Nat.add_comm, List.getElem?_cons_succ]; exact hp)
      obtain ⟨c0, c1, c2⟩ := cells3 HA.out.shape
      rw [HTT.out] at c1
      have hpl : p.length ≤ 100000 := HLN.out p (by rw [HPP.out]; exact List.mem_cons_of_mem _ (List.mem_of_getElem? hp))
      have HT := Lib.hid (take_any t[n] (strS p) W4.heap.size x wr (has_letters i hi22 _ (List.mem_of_getElem? hat)) HA.out.line HA.out.laid (by rw [strS_size]; exact hpl))
      rw [bytesS_str] at HT
      have hd1 : (hasAt i).drop n = t[n] :: (hasAt i).drop (n + 1) := by
        obtain ⟨q1, q2⟩ := List.getElem?_eq_some_iff.1 hat
        rw [← q2]; exact List.drop_eq_getElem_cons q1
      have hd2 : pr.drop n = p :: pr.drop (n + 1) := by
        obtain ⟨q1, q2⟩ := List.getElem?_eq_some_iff.1 hp
        rw [← q2]; exact List.drop_eq_getElem_cons q1
      have hx2 := HX.out
      rw [hd1, hd2] at hx2
      have HX2 : Hid (argsL (hasAt i) pr { zeroLn with op := (i : Int) } = (argL t[n] p x).bind (argsL ((hasAt i).drop (n + 1)) (pr.drop (n + 1)))) := Lib.hid hx2
      clear hx2 hd1 hd2 hp hat hpl HX
      go_wp2_with fail
      refine HT.out.mono ?_
      rintro e w5 ⟨y, rfl, hy, hz, hk5⟩
      have HA5 := Lib.hid (HA.out.on (by omega) hbp3 hbl4 HG.out hk5 hy)
      have HZ := Lib.hid hz
      clear c0 c1 c2 hc hy hk5 hz HT
      cases ha : argL t[n] p x with
      | none =>
        have hrn : r = none := by
          rw [HRA.out, HX2.out, ha]; rfl
        obtain ⟨E1, E2⟩ := part_end (r := r) (y := zeroLn) (ok := false) HA5.out.res HA5.out.kept (fun z hz => by rw [hrn] at hz; cases hz) (fun _ => rfl)
        have HE1 := Lib.hid E1
        have HE2 := Lib.hid E2
        obtain ⟨⟨t0, t1, t2, t3, t4, t5, t6⟩, f0, f1, f2, f3, f4, f5, f6⟩ := cells7 HA5.out.res
        clear E1 E2 hrn ha
        go_wp2_with fail
        exact bodyPost_ret (res_line rfl _ w.heap.size zeroLn _ rfl HE1.out) rfl HE2.out
      | some z =>
        obtain rfl := HZ.out z ha
        have HX3 : Hid (argsL (hasAt i) pr { zeroLn with op := (i : Int) } = argsL ((hasAt i).drop (n + 1)) (pr.drop (n + 1)) y) := Lib.hid (by rw [HX2.out, ha]; rfl)
        clear ha HX2 HZ
        go_wp2_with fail
        go_roundw
        case rel => exact ⟨n + 1, _, by go_num, by omega, HX3.out, HA5.out⟩
        case measure => simp [intOf]; omega
    · obtain rfl : n = t.size := by omega
      have hx2 := HX.out
      have e1 : (hasAt i).drop t.size = [] := List.drop_of_length_le (by rw [← HTS.out]; exact Nat.le_refl _)
      have e2 : pr.drop t.size = [] := List.drop_of_length_le (by omega)
      rw [e1, e2] at hx2
      have hrx : r = if fitsAt i x.a x.b x.c x.n then some x else none := by rw [HRA.out, hx2]; rfl
      clear e1 e2 hx2 HX
      have hfin : ∀ w6, Kept (fun _ => False) wr w6 → (set7 w6 w.heap.size (.string (strS x.label)) (.int .i64 x.op) (.int .i64 x.a) (.int .i64 x.b) (.int .i64 x.c) (.int .i64 x.n) (.string (strS x.target))).heap[w.heap.size]? = some (.cells (lnCells x) 59 (0, 0)) ∧
          PartTo w r (.returned (.tuple #[lnV x, .bool (fitsAt i x.a x.b x.c x.n)])) (set7 w6 w.heap.size (.string (strS x.label)) (.int .i64 x.op) (.int .i64 x.a) (.int .i64 x.b) (.int .i64 x.c) (.int .i64 x.n) (.string (strS x.target))) := fun w6 hk => by
        refine part_end (hk.at0 HA.out.res) (HA.out.kept.trans hk (fun _ _ f => f)) (fun z hz => ?_) (fun hz => ?_)
        · rw [hrx] at hz
          cases hf : fitsAt i x.a x.b x.c x.n
          · rw [hf] at hz; cases hz
          · rw [hf] at hz
            exact ⟨rfl, by simpa using hz⟩
        · rw [hrx] at hz
          cases hf : fitsAt i x.a x.b x.c x.n
          · rfl
          · rw [hf] at hz; cases hz
      have HFIN := Lib.hid hfin
      have HCELL := Lib.hid (fun w6 (hk : Kept (fun _ => False) wr w6) => And.intro (cells3 (hk.at0 HA.out.shape)) (And.intro (cells7 (hk.at0 HA.out.line)) (cells7 (hk.at0 HA.out.res))))
      obtain ⟨⟨c0, c1, c2⟩, ⟨⟨l0, l1, l2, l3, l4, l5, l6⟩, _⟩, ⟨t0, t1, t2, t3, t4, t5, t6⟩, f0, f1, f2, f3, f4, f5, f6⟩ := HCELL.out wr (Kept.refl _ wr)
      clear hfin hrx
      go_wp2_with fail
      go_region_with (go_at_call 66; refine (fits_any i x.op x.a x.b x.c x.n _).mono ?_; rintro e w6 ⟨rfl, hk6⟩; have hk7 := (Kept.refl (fun _ => False) wr).drew.trans hk6 (fun _ _ f => f); clear c0 c1 c2 l0 l1 l2 l3 l4 l5 l6 t0 t1 t2 t3 t4 t5 t6 f0 f1 f2 f3 f4 f5 f6; obtain ⟨⟨c0, c1, c2⟩, ⟨⟨l0, l1, l2, l3, l4, l5, l6⟩, _⟩, ⟨t0, t1, t2, t3, t4, t5, t6⟩, f0, f1, f2, f3, f4, f5, f6⟩ := HCELL.out w6 hk7; have HF6 := Lib.hid (HFIN.out w6 hk7); clear hk6 hk7)
      all_goals go_wp2_with fail
      all_goals exact bodyPost_ret (res_line rfl _ w.heap.size x _ rfl HF6.out.1) rfl HF6.out.2

end Go.Proofs.YtlhnbihpefgcbaaGreatDoor
