/-
  What the document's Print of layer 7 comes to.
  Conditions: the line may be.
-/
import Derived.Test.YtibgkhfadlgonaaGreatDoorRefTabC
import Derived.Deep.RegionWith
import Derived.Test.YtibgkhfadlgonaaGreatDoorLineDig
import Derived.Test.YtibgkhfadlgonaaGreatDoorLineMem
import Derived.Test.YtibgkhfadlgonaaGreatDoorInsSame
namespace Go.Proofs.YtibgkhfadlgonaaGreatDoor
open Go.RowKit

theorem fits_small {x : Ln} (h : fitsL x = true) (hl : x.label = []) (h0 : x.op ≠ 0) : 1 ≤ x.op ∧ x.op ≤ 22 ∧ (0 ≤ x.a ∧ x.a ≤ 15) ∧ (0 ≤ x.b ∧ x.b ≤ 15) ∧ (0 ≤ x.c ∧ x.c ≤ 15) ∧ small x.n = true := by
  unfold fitsL at h
  rw [if_neg (by simp [hl]), if_neg h0, Bool.and_eq_true] at h
  obtain ⟨h1, h2⟩ := h
  have hr : 1 ≤ x.op ∧ x.op ≤ 22 ∧ (0 ≤ x.a ∧ x.a ≤ 15) ∧ (0 ≤ x.b ∧ x.b ≤ 15) ∧ (0 ≤ x.c ∧ x.c ≤ 15) := by
    unfold mayL at h1
    simp only [Bool.and_eq_true, decide_eq_true_eq] at h1
    omega
  refine ⟨hr.1, hr.2.1, hr.2.2.1, hr.2.2.2.1, hr.2.2.2.2, ?_⟩
  unfold mayL at h1
  simp only [Bool.and_eq_true, Bool.or_eq_true] at h1
  rcases h1.1.2 with h3 | h3
  · -- it goes to a name: its number is nothing
    obtain ⟨j, hj⟩ : ∃ j : Nat, x.op = ((j + 1 : Nat) : Int) := ⟨(x.op - 1).toNat, by omega⟩
    have hg := goes_op j (by omega)
    have e84 : hasL 84 ((j + 1 : Nat) : Int) = hasC (j + 1) 84 := has_same j (by omega) 84 (by decide)
    rw [hj, e84, hg] at h3
    simp only [Bool.and_eq_true, decide_eq_true_eq] at h3
    rw [if_pos (by omega), Bool.and_eq_true, beq_iff_eq] at h2
    rw [h2.1]; decide
  · exact h3

def accP (x : Ln) (wd hs : Str) (n : Nat) : Str := wd ++ (hs.take n).flatMap (fun h => 32 :: fieldL h x)
theorem accP_next {x : Ln} {wd hs : Str} {n : Nat} {h : UInt8} (hh : hs[n]? = some h) : accP x wd hs (n + 1) = accP x wd hs n ++ 32 :: fieldL h x := by
  unfold accP
  rw [List.take_add_one, hh, List.flatMap_append, List.append_assoc]
  simp
theorem accP_len {x : Ln} {wd hs : Str} {n : Nat} (hw : wd.length ≤ 10) (hs3 : hs.length ≤ 3) (ht : x.target.length ≤ 100000) : (accP x wd hs n).length ≤ 500000 := by
  have h1 := fields_len x ht (hs.take n)
  unfold accP
  rw [List.length_append]
  have h2 : (hs.take n).length ≤ 3 := by rw [List.length_take]; omega
  omega

theorem add_str {a b c : Str} (h : a ++ b = c) (hl : c.length ≤ 1000000) (w' : World) : (Op.stringOp .add (strS a) (strS b)).run Tryz.prog w' = .ok (.string (strS c)) w' := by
  have := run_string_add_sum (P := Tryz.prog) w' (strS a) (strS b) (by rw [strS_size, strS_size]; have := congrArg List.length h; rw [List.length_append] at this; omega)
  rw [strS_add, h] at this
  exact this

set_option maxHeartbeats 8000000 in
set_option maxRecDepth 100000 in
theorem refPrint_any (x : Ln) (w : World) (hf : fitsL x = true) (hl : x.label.length ≤ 100000) (ht : x.target.length ≤ 100000) :
    Calls Tryz.prog 12 #[.agg #[.string (strS x.label), .int .i64 x.op, .int .i64 x.a, .int .i64 x.b, .int .i64 x.c, .int .i64 x.n, .string (strS x.target)]] w fun e w' => e = .returned (.string (strS (printL x))) ∧ Kept (fun _ => False) w w' := by
  have HK := Lib.hid ((Kept.refl (fun _ => False) w).alloc (.cells (lnCells x) 25))
  have HB := Lib.hid (heap_new1 w (.cells (lnCells x) 25))
  by_cases hl0 : x.label = []
  case neg =>
    have hpl : printL x = x.label ++ [58] := by unfold printL; rw [if_pos hl0]
    have hadd : ∀ (w' : World), (Op.stringOp .add (strS x.label) ({ data := #[58] } : ByteArray)).run Tryz.prog w' = .ok (.string (strS (printL x))) w' := fun w' => add_str (b := [58]) hpl.symm (by rw [hpl]; simp; omega) w'
    obtain ⟨e1, e2⟩ := empty_no (s := strS x.label) (by rw [strS_size]; exact List.length_pos_iff.2 hl0)
    clear hpl hl0 hf
    go_enter Tryz.func12, Tryz.ntmps12
    go_wp2_with fail
    go_ret
    exact ⟨rfl, HK.out⟩
  obtain ⟨e1, e2⟩ := empty_yes (s := strS x.label) (by rw [hl0]; rfl)
  by_cases h0 : x.op = 0
  · have hpl : printL x = [] := by unfold printL; rw [if_neg (by simp [hl0]), if_pos (by omega)]
    have h1 : x.op < 1 := by omega
    rw [hpl]
    clear hpl hl0 h0 hf
    go_enter Tryz.func12, Tryz.ntmps12
    go_wp2_with fail
    go_ret
    exact ⟨rfl, HK.out⟩
  obtain ⟨o1, o2, ⟨r1, r2⟩, ⟨r3, r4⟩, ⟨r5, r6⟩, hsm⟩ := fits_small hf hl0 h0
  obtain ⟨j, hj⟩ : ∃ j : Nat, x.op = ((j + 1 : Nat) : Int) := ⟨(x.op - 1).toNat, by omega⟩
  have hj22 : j < 22 := by omega
  obtain ⟨wd, hwd⟩ : ∃ l, (specL ((j + 1 : Nat) : Int)).1 = l := ⟨_, rfl⟩
  obtain ⟨hs, hhs⟩ : ∃ l, (specL ((j + 1 : Nat) : Int)).2 = l := ⟨_, rfl⟩
  obtain ⟨q1, q2, q3, q4⟩ := spec_nosp j hj22
  have htab := tab_at j hj22
  rw [hwd] at q1 q2 htab
  rw [hhs] at q3 q4 htab
  have hpl : printL x = accP x wd hs hs.length := by
    unfold printL accP
    rw [if_neg (by simp [hl0]), if_neg (by omega), List.take_length, hj, hwd, hhs]
  obtain ⟨t, htt⟩ : ∃ t, strS hs = t := ⟨_, rfl⟩
  have htb : bytesS t = hs := by rw [← htt]; rfl
  have hts : t.size = hs.length := by rw [← bytesS_len, htb]
  have HSP := Lib.hid (fun w' => refSplit_any (strS (wd ++ 32 :: hs)) wd hs rfl (fun c hc => by have := List.all_eq_true.1 q1 c hc; rw [bne_iff_ne] at this; exact this) (by rw [strS_size]; simp; omega) w')
  rw [htt] at HSP
  have HTAB : Hid (∀ w' : World, w'.heap[w.heap.size + 1]? = some (.cells tabCells 9 (0, 0)) → w'.cell? ⟨w.heap.size + 1, j, none⟩ = some (.string (strS (wd ++ 32 :: hs)))) := Lib.hid (fun w' h => by rw [cell_at _ _ _ _ _ h, htab])
  have hcast : x.op - 1 = (j : Int) := by omega
  have hw1 : IntKind.i64.wrap (j : Int) = (j : Int) := IntWalk.i64_in _ (by omega)
  have hj0 : (0 : Int) ≤ (j : Int) := by omega
  have hj9 : (j : Int) < 22 := by omega
  have n1 : ¬ x.op < 1 := by omega
  have n2 : ¬ 22 < x.op := by omega
  have sm : ∀ v : Int, 0 ≤ v → v ≤ 15 → small v = true := fun v h1 h2 => by unfold small; rw [decide_eq_true (by omega), decide_eq_true (by omega)]; rfl
  have HDA := Lib.hid (fun w' => refDigits_any x.a (sm _ r1 r2) w')
  have HDB := Lib.hid (fun w' => refDigits_any x.b (sm _ r3 r4) w')
  have HDC := Lib.hid (fun w' => refDigits_any x.c (sm _ r5 r6) w')
  have HDN := Lib.hid (fun w' => refDigits_any x.n hsm w')
  have HPL := Lib.hid hpl
  have ht3 : t.size ≤ 3 := by omega
  have HTB := Lib.hid htb
  have HTS := Lib.hid hts
  have HLN := Lib.hid (fun n => accP_len (x := x) (n := n) q2 q3 ht)
  have HQ4 := Lib.hid q4
  have HXA := Lib.hid (fun w1 (hk : Kept (fun _ => False) (w.alloc (.cells (lnCells x) 25)) w1) => (cells7 (hk.at0 HB.out)).1)
  have hacc0 : accP x wd hs 0 = wd := by unfold accP; simp
  have HA0 := Lib.hid hacc0
  clear hpl htb hts q1 q2 q3 q4 htab hwd hhs o1 o2 r1 r2 r3 r4 r5 r6 hj htt hj22 sm hsm hf h0 hl0 hacc0
  go_enter Tryz.func12, Tryz.ntmps12
  go_wp2_with fail
  clear n1 n2 e1 e2
  go_region_with (first
    | (go_at_call 21; refine (refTableC_any _).mono ?_; rintro e w1 ⟨rfl, hT, hk1⟩; have hkw := ((Kept.refl (fun _ => False) (w.alloc (.cells (lnCells x) 25))).drew).trans hk1 (fun _ _ f => f); obtain ⟨c0, c1, c2, c3, c4, c5, c6⟩ := HXA.out w1 hkw; have hcell := HTAB.out w1 (by simpa using hT); have HKW := Lib.hid hkw; clear hT hk1 hkw)
    | (go_at_call 20; refine (HSP.out _).mono ?_; rintro e w2 ⟨rfl, hk2⟩; have HK2 := Lib.hid (HKW.out.trans hk2 (fun _ _ f => f)); clear hk2))
  all_goals (
    clear c0 c1 c2 c3 c4 c5 c6 hcell
    go_wp2_with fail
    go_loopw [3, 5] (fun v i wr => ∃ n : Nat, i = .int .i64 n ∧ n ≤ t.size ∧ v = .string (strS (accP x wd hs n)) ∧ Kept (fun _ => False) (w.alloc (.cells (lnCells x) 25)) wr) (fun _ i _ => t.size - (intOf i).toNat)
    case atStart => exact ⟨0, rfl, by omega, by rw [HA0.out], HK2.out⟩
    case round =>
      obtain ⟨n, rfl, hn, rfl, hkr⟩ := hrel
      have HKR := Lib.hid hkr
      obtain ⟨c0, c1, c2, c3, c4, c5, c6⟩ := HXA.out _ hkr
      clear hkr
      by_cases hnt : n < t.size
      case neg =>
        obtain rfl : n = t.size := by omega
        have hnt' : ¬ (t.size : Int) < (t.size : Int) := by omega
        have HF := Lib.hid (HK.out.trans HKR.out (fun _ _ f => f))
        go_wp2_with fail
        go_ret
        exact ⟨by rw [HPL.out, ← HTS.out]; rfl, HF.out⟩
      have hnt' : (n : Int) < (t.size : Int) := by omega
      have hat := bytesS_at t n hnt
      rw [HTB.out] at hat
      have hlet := List.all_eq_true.1 HQ4.out _ (List.mem_of_getElem? hat)
      simp only [Bool.or_eq_true, beq_iff_eq] at hlet
      have hnx := accP_next (x := x) (wd := wd) hat
      have hlen1 := HLN.out (n + 1)
      rcases hlet with (((hc | hc) | hc) | hc) | hc
      · have hlv : fieldL t[n] x = regT x.a := by unfold fieldL; rw [if_pos hc]
        have k1 : ((t[n].toNat : Int) == 65) = true := by rw [hc]; rfl
        rw [hlv] at hnx
        have a1 : ∀ w', (Op.stringOp .add (strS (accP x wd hs n)) ({ data := #[32, 114] } : ByteArray)).run Tryz.prog w' = .ok (.string (strS (accP x wd hs n ++ [32, 114]))) w' := fun w' => add_str (b := [32, 114]) rfl (by have := HLN.out n; simp; omega) w'
        have a2 : ∀ w', (Op.stringOp .add (strS (accP x wd hs n ++ [32, 114])) (strS (decI x.a))).run Tryz.prog w' = .ok (.string (strS (accP x wd hs (n + 1)))) w' := fun w' => add_str (by rw [hnx]; unfold regT; simp) (by omega) w'
        clear hat hc hlv hnx hlen1
        go_wp2_with fail
        refine (HDA.out _).mono ?_
        rintro e w3 ⟨rfl, hk3⟩
        have HF := Lib.hid (HKR.out.trans hk3 (fun _ _ f => f))
        clear hk3
        go_wp2_with fail
        go_roundw
        case rel => exact ⟨n + 1, by go_num, by omega, rfl, HF.out⟩
        case measure => simp [intOf]; omega
      · have hlv : fieldL t[n] x = regT x.b := by unfold fieldL; rw [if_neg (by omega), if_pos hc]
        have k1 : ((t[n].toNat : Int) == 65) = false := by rw [hc]; rfl
        have k2 : ((t[n].toNat : Int) == 66) = true := by rw [hc]; rfl
        rw [hlv] at hnx
        have a1 : ∀ w', (Op.stringOp .add (strS (accP x wd hs n)) ({ data := #[32, 114] } : ByteArray)).run Tryz.prog w' = .ok (.string (strS (accP x wd hs n ++ [32, 114]))) w' := fun w' => add_str (b := [32, 114]) rfl (by have := HLN.out n; simp; omega) w'
        have a2 : ∀ w', (Op.stringOp .add (strS (accP x wd hs n ++ [32, 114])) (strS (decI x.b))).run Tryz.prog w' = .ok (.string (strS (accP x wd hs (n + 1)))) w' := fun w' => add_str (by rw [hnx]; unfold regT; simp) (by omega) w'
        clear hat hc hlv hnx hlen1
        go_wp2_with fail
        refine (HDB.out _).mono ?_
        rintro e w3 ⟨rfl, hk3⟩
        have HF := Lib.hid (HKR.out.trans hk3 (fun _ _ f => f))
        clear hk3
        go_wp2_with fail
        go_roundw
        case rel => exact ⟨n + 1, by go_num, by omega, rfl, HF.out⟩
        case measure => simp [intOf]; omega
      · have hlv : fieldL t[n] x = regT x.c := by unfold fieldL; rw [if_neg (by omega), if_neg (by omega), if_pos hc]
        have k1 : ((t[n].toNat : Int) == 65) = false := by rw [hc]; rfl
        have k2 : ((t[n].toNat : Int) == 66) = false := by rw [hc]; rfl
        have k3 : ((t[n].toNat : Int) == 67) = true := by rw [hc]; rfl
        rw [hlv] at hnx
        have a1 : ∀ w', (Op.stringOp .add (strS (accP x wd hs n)) ({ data := #[32, 114] } : ByteArray)).run Tryz.prog w' = .ok (.string (strS (accP x wd hs n ++ [32, 114]))) w' := fun w' => add_str (b := [32, 114]) rfl (by have := HLN.out n; simp; omega) w'
        have a2 : ∀ w', (Op.stringOp .add (strS (accP x wd hs n ++ [32, 114])) (strS (decI x.c))).run Tryz.prog w' = .ok (.string (strS (accP x wd hs (n + 1)))) w' := fun w' => add_str (by rw [hnx]; unfold regT; simp) (by omega) w'
        clear hat hc hlv hnx hlen1
        go_wp2_with fail
        refine (HDC.out _).mono ?_
        rintro e w3 ⟨rfl, hk3⟩
        have HF := Lib.hid (HKR.out.trans hk3 (fun _ _ f => f))
        clear hk3
        go_wp2_with fail
        go_roundw
        case rel => exact ⟨n + 1, by go_num, by omega, rfl, HF.out⟩
        case measure => simp [intOf]; omega
      · have hlv : fieldL t[n] x = decI x.n := by unfold fieldL; rw [if_neg (by omega), if_neg (by omega), if_neg (by omega), if_pos hc]
        have k1 : ((t[n].toNat : Int) == 65) = false := by rw [hc]; rfl
        have k2 : ((t[n].toNat : Int) == 66) = false := by rw [hc]; rfl
        have k3 : ((t[n].toNat : Int) == 67) = false := by rw [hc]; rfl
        have k4 : ((t[n].toNat : Int) == 78) = true := by rw [hc]; rfl
        rw [hlv] at hnx
        have a1 : ∀ w', (Op.stringOp .add (strS (accP x wd hs n)) ({ data := #[32] } : ByteArray)).run Tryz.prog w' = .ok (.string (strS (accP x wd hs n ++ [32]))) w' := fun w' => add_str (b := [32]) rfl (by have := HLN.out n; simp; omega) w'
        have a2 : ∀ w', (Op.stringOp .add (strS (accP x wd hs n ++ [32])) (strS (decI x.n))).run Tryz.prog w' = .ok (.string (strS (accP x wd hs (n + 1)))) w' := fun w' => add_str (by rw [hnx]; simp) (by omega) w'
        clear hat hc hlv hnx hlen1
        go_wp2_with fail
        refine (HDN.out _).mono ?_
        rintro e w3 ⟨rfl, hk3⟩
        have HF := Lib.hid (HKR.out.trans hk3 (fun _ _ f => f))
        clear hk3
        go_wp2_with fail
        go_roundw
        case rel => exact ⟨n + 1, by go_num, by omega, rfl, HF.out⟩
        case measure => simp [intOf]; omega
      · have hlv : fieldL t[n] x = x.target := by unfold fieldL; rw [if_neg (by omega), if_neg (by omega), if_neg (by omega), if_neg (by omega)]
        have k1 : ((t[n].toNat : Int) == 65) = false := by rw [hc]; rfl
        have k2 : ((t[n].toNat : Int) == 66) = false := by rw [hc]; rfl
        have k3 : ((t[n].toNat : Int) == 67) = false := by rw [hc]; rfl
        have k4 : ((t[n].toNat : Int) == 78) = false := by rw [hc]; rfl
        have k5 : ((t[n].toNat : Int) == 84) = true := by rw [hc]; rfl
        rw [hlv] at hnx
        have a1 : ∀ w', (Op.stringOp .add (strS (accP x wd hs n)) ({ data := #[32] } : ByteArray)).run Tryz.prog w' = .ok (.string (strS (accP x wd hs n ++ [32]))) w' := fun w' => add_str (b := [32]) rfl (by have := HLN.out n; simp; omega) w'
        have a2 : ∀ w', (Op.stringOp .add (strS (accP x wd hs n ++ [32])) (strS x.target)).run Tryz.prog w' = .ok (.string (strS (accP x wd hs (n + 1)))) w' := fun w' => add_str (by rw [hnx]; simp) (by omega) w'
        clear hat hc hlv hnx hlen1
        go_wp2_with fail
        go_roundw
        case rel => exact ⟨n + 1, by go_num, by omega, rfl, HKR.out⟩
        case measure => simp [intOf]; omega)

end Go.Proofs.YtibgkhfadlgonaaGreatDoor
