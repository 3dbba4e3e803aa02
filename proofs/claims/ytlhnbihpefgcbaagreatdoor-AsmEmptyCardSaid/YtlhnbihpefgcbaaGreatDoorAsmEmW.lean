/-
  The walk of the statement AsmEmpty.
  Conditions: what the row lists lies as the texts lay it.
-/
import Derived.Test.YtlhnbihpefgcbaaGreatDoorAsmLaw
import Derived.WalkKit
import Derived.ProofKit
import Derived.OpenShut
namespace Go.Proofs.YtlhnbihpefgcbaaGreatDoor
namespace asmEmpty
open Go.ChangeShapes Go.WideShapes Go.ChangeAt Go.RowKit
set_option linter.unusedVariables false

def noteS : Str := [32, 59, 32, 120, 58, 32, 121, 32, 122]
theorem first_is (s : Str) (h : s = [] ∨ s = noteS) (ts : List Str) : asmA (textsL (s :: ts)) = upE (asmA (textsL ts)) 1 := by
  have hl : linesL s = [s] := by rcases h with rfl | rfl <;> kernel_rfl
  have hp : parseL s = some zeroLn := by rcases h with rfl | rfl <;> kernel_rfl
  have : textsL (s :: ts) = s :: textsL ts := by
    unfold textsL
    rw [List.flatMap_cons, hl]
    rfl
  rw [this]
  exact asm_empty hp (textsL ts)

theorem asm_at {LS : List Str} {p : Nat × Nat} (h : asmA LS = .error p) : p.2 ≤ LS.length := by
  have h1 : ∀ (ls : List Str) (i : Nat) (c : List Ln) (l : Labs) (q : Nat × Nat), oneA i ls c l = .error q → q.2 ≤ i + ls.length := by
    intro ls
    induction ls with
    | nil => intro i c l q h; cases h
    | cons s r ih =>
      intro i c l q h
      rw [one_cons] at h
      rw [List.length_cons]
      cases e : parseL s with
      | none => rw [e] at h; injection h with h; subst h; dsimp only; omega
      | some x =>
        rw [e] at h
        dsimp only at h
        split at h
        · injection h with h; subst h; dsimp only; omega
        split at h
        · injection h with h; subst h; dsimp only; omega
        have := ih _ _ _ _ h
        omega
  have h2 : ∀ (ls : List Str) (i : Nat) (l : Labs) (j : Nat), twoA i ls l = some j → j ≤ i + ls.length := by
    intro ls
    induction ls with
    | nil => intro i l j h; cases h
    | cons s r ih =>
      intro i l j h
      unfold twoA at h
      rw [List.length_cons]
      cases e : parseL s with
      | none => rw [e] at h; have := ih _ _ _ h; omega
      | some x =>
        rw [e] at h
        dsimp only at h
        split at h
        · injection h with h; omega
        have := ih _ _ _ h
        omega
  unfold asmA at h
  cases e : oneA 0 LS [] [] with
  | error q => rw [e] at h; injection h with h; subst h; have := h1 _ _ _ _ _ e; omega
  | ok q =>
    obtain ⟨c, l⟩ := q
    rw [e] at h
    dsimp only at h
    split at h
    · rename_i j e2; injection h with h; subst h; have := h2 _ _ _ _ e2; dsimp only; omega
    · cases h

set_option maxHeartbeats 16000000 in
set_option maxRecDepth 100000 in
theorem walk (ts : List Str) (sl : Option Addr) (cap : Nat) (comment : Bool) (w : World) (hE : Elems w w.heap.size sl 1 sC ts) (hC : Ctx w) :
    Calls Tryz.prog 5 #[.slice sl ts.length cap, .bool comment] w fun e w' => e = .returned (.bool true) ∧ Below w.heap.size w w' := by
  obtain ⟨i4, hi4, hz4, hn4, hb4⟩ := info_parts Tryz.infoStr
  have HI4 := Lib.hid hi4; clear hi4
  have HZ4 := Lib.hid hz4; clear hz4
  have HN4 := Lib.hid hn4; clear hn4
  have HB4 := Lib.hid hb4; clear hb4
  have HFIN := Lib.hid (fun w1 (hk : Kept (fun _ => False) w w1) => hk.below (Nat.le_refl _) (fun _ f => f.elim))
  have HE := Lib.hid (fun w1 (hk : Kept (fun _ => False) w w1) => (show Elems w1 w1.heap.size sl 1 sC ts from (hE.kept hk (Nat.le_refl _) (fun _ _ f => f)).more hk.size))
  have HC := Lib.hid (fun w1 (hk : Kept (fun _ => False) w w1) => hC.on0 hk)
  have HU := Lib.hid (upA_any w hC)
  obtain ⟨r, hr⟩ : ∃ r, shortL ts = r := ⟨_, rfl⟩
  have HS := Lib.hid (fun w1 (hk : Kept (fun _ => False) w w1) => short_any (cap := cap) w1 (HE.out w1 hk) rfl hr)
  clear hE hC
  cases r
  case false =>
    clear hr
    go_enter Tryz.func5, Tryz.ntmps5
    go_wp2_with fail
    refine (HU.out).mono ?_
    rintro e w1 ⟨rfl, hk1⟩
    have HK1 := Lib.hid hk1
    clear hk1
    go_wp2_with fail
    refine (HS.out _ HK1.out).mono ?_
    rintro e w2 ⟨rfl, hw2⟩
    subst w2
    go_wp2_with fail
    go_ret
    exact ⟨rfl, HFIN.out _ HK1.out⟩
  obtain ⟨hz, hz40, _⟩ := short_size hr
  have hz5 : sizeL ts ≤ 100000 := by omega
  have HLS : Hid ((textsL ts).length ≤ 100000) := Lib.hid (by have := texts_len ts; omega)
  clear hr
  by_cases hnm : ts.length ≤ 39
  case neg =>
    have q : (39 : Int) < (ts.length : Int) := by omega
    clear hnm hz hz40 hz5
    go_enter Tryz.func5, Tryz.ntmps5
    go_wp2_with fail
    refine (HU.out).mono ?_
    rintro e w1 ⟨rfl, hk1⟩
    have HK1 := Lib.hid hk1
    clear hk1
    go_wp2_with fail
    refine (HS.out _ HK1.out).mono ?_
    rintro e w2 ⟨rfl, hw2⟩
    subst w2
    go_wp2_with fail
    go_ret
    exact ⟨rfl, HFIN.out _ HK1.out⟩
  have q : ¬ (39 : Int) < (ts.length : Int) := by omega
  have HA := Lib.hid (fun w1 (hk : Kept (fun _ => False) w w1) => assemble_any ts sl cap w1 (HE.out w1 hk) hz5 (HC.out w1 hk).laid rfl)
  have HB := Lib.hid (fun (s : Str) (hs : s.length ≤ 9) (sl' : Option Addr) (cap' : Nat) (w1 : World) (hk : Kept (fun _ => False) w w1) (hE : Elems w1 w1.heap.size sl' 1 sC (s :: ts)) => assemble_any (n := 1 + ts.length) (s :: ts) sl' cap' w1 hE (by simp only [sizeL, List.map_cons, List.sum_cons] at hz ⊢; omega) (HC.out w1 hk).laid (by simp only [List.length_cons]; omega))
  have hz9 : sizeL ts ≤ 31000 := hz
  clear hz hz5 hz40
  cases comment
  case false =>
    go_enter Tryz.func5, Tryz.ntmps5
    go_wp2_with fail
    refine (HU.out).mono ?_
    rintro e w1 ⟨rfl, hk1⟩
    have HK1 := Lib.hid hk1
    clear hk1
    go_wp2_with fail
    refine (HS.out _ HK1.out).mono ?_
    rintro e w2 ⟨rfl, hw2⟩
    subst w2
    go_wp2_with fail
    refine (HA.out _ HK1.out).mono ?_
    rintro e w2 h2
    have HK2 := Lib.hid (HK1.out.trans h2.1 (fun _ _ f => f))
    have HOWN := Lib.hid (show World.ownsRow (w2.alloc (.cells #[.string (strS ([] : Str))] 9)) w2.heap.size 9 1 (.slice (some ⟨w2.heap.size, 0, none⟩) 1 1) 1 (flat sC [([] : Str)]) from ⟨rfl, .inr ⟨w2.heap.size, 1, #[.string (strS ([] : Str))], rfl, Nat.le_refl _, heap_new1 _ _, Nat.le_refl _, by decide, rfl, rfl⟩⟩)
    cases hr : asmA (textsL ts) with
    | error p =>
      rw [hr] at h2
      obtain ⟨hk2, g, _, hs, rfl⟩ := h2
      obtain ⟨p1, p8⟩ := asm_codes hr
      have hpl : p.2 ≤ 100000 := Nat.le_trans (asm_at hr) HLS.out
      have HA5 : Hid (asmA (textsL (([] : Str) :: ts)) = .error (p.1, p.2 + 1)) := Lib.hid (by rw [first_is ([] : Str) (.inl rfl) ts, hr]; rfl)
      have HSP := Lib.hid hs
      have hp0 : ((p.1 : Int) == 0) = false := by rw [beq_eq_false_iff_ne]; omega
      clear hr hk2 hs
      go_wp2_with (at_builtin; refine wpList_append_elems (f := sC) (ys := ts) _ rfl (.tmp 38) (.tmp 39) 22 rfl w2.heap.size 9 i4 (.string { data := #[] }) 1 16 Tryz.underlying22 HI4.out HZ4.out HN4.out HB4.out rfl (by decide) sC_one (sC_cell _) (.slice (some ⟨w2.heap.size, 0, none⟩) 1 1) 1 (flat sC [([] : Str)]) rfl ?c1 ?bb1 sl cap rfl ?c2 ?c3 ?c4 ?c5 ?_)
      case c1 => exact HOWN.out
      case c2 => exact HE.out _ (HK2.out.alloc _)
      case c3 => show 1 + ts.length ≤ maxLen; unfold maxLen; omega
      case c4 => show (1 + ts.length) * 16 ≤ _; omega
      case c5 => simp
      intro v' w3 h1 h2 h3
      have hk23 : Kept (fun _ => False) w2 w3 := ((Kept.refl _ w2).alloc _).grown h2 (fun g hg e => by have := (World.ownsRow.lt HOWN.out g e).1; omega)
      have hk3 : Kept (fun _ => False) w w3 := HK2.out.trans hk23 (fun _ _ f => f)
      have hln : (([] : Str) :: ts).length = 1 + ts.length := by rw [List.length_cons, Nat.add_comm]
      obtain ⟨sv, cv, hv, hM⟩ := Made.of_own (ys := ([] : Str) :: ts) sC_one (by rw [hln]; exact h1) rfl (by rw [hln]; unfold maxLen; omega)
      rw [hln] at hv
      subst hv
      clear h1 h2 h3 hln
      have HBB := HB.out ([] : Str) (by decide) sv cv w3 hk3 hM.elems
      rw [HA5.out] at HBB
      replace HBB := Lib.hid HBB
      have HK3 := Lib.hid hk3
      have HK23 := Lib.hid hk23
      clear hM hk3 hk23
      go_wp2_with fail
      refine HBB.out.mono ?_
      rintro e w5 ⟨hk5, g', _, hs', rfl⟩
      have HK5 := Lib.hid (HK3.out.trans hk5 (fun _ _ f => f))
      have HO1 := Lib.hid (of_spot (HSP.out.kept (HK23.out.trans hk5 (fun _ _ f => f)) (fun f => f)) (HC.out _ HK5.out).hnd p1 p8)
      have HSP' := Lib.hid hs'
      clear hk5 hs'
      go_wp2_with fail
      refine HO1.out.mono ?_
      rintro e w6 ⟨rfl, hk6⟩
      have HK6 := Lib.hid (HK5.out.trans hk6 (fun _ _ f => f))
      have HO2 := Lib.hid (of_spot (c := p.1) (a := p.2 + 1) (HSP'.out.kept hk6 (fun f => f)) (HC.out _ HK6.out).hnd p1 p8)
      clear hk6
      go_wp2_with fail
      refine HO2.out.mono ?_
      rintro e w7 ⟨rfl, hk7⟩
      have HK7 := Lib.hid (HK6.out.trans hk7 (fun _ _ f => f))
      have HS1 := Lib.hid (refSame_any (xs := []) (ys := []) (sa := none) (sb := none) (ca := 0) (cb := 0) (n := 0) (k := 0) (B := 0) (C := 0) (r := true) w7 Elems.nil Elems.nil rfl rfl (by simp))
      clear hk7
      go_wp2_with fail
      refine HS1.out.mono ?_
      rintro e w8 ⟨rfl, hk8⟩
      have HK8 := Lib.hid (HK7.out.trans hk8 (fun _ _ f => f))
      have HS2 := Lib.hid (lawSame_any (xs := []) (ys := []) (sa := none) (sb := none) (ca := 0) (cb := 0) (n := 0) (k := 0) (B := 0) (C := 0) (r := true) w8 Elems.nil Elems.nil rfl rfl (by simp))
      clear hk8
      go_wp2_with fail
      refine HS2.out.mono ?_
      rintro e w9 ⟨rfl, hk9⟩
      have HF := Lib.hid (HFIN.out _ (HK8.out.trans hk9 (fun _ _ f => f)))
      clear hk9
      go_wp2_with fail
      go_ret
      exact ⟨by simp, HF.out⟩
    | ok cl =>
      obtain ⟨c, l⟩ := cl
      rw [hr] at h2
      obtain ⟨hk2, v, u, rfl, hT⟩ := h2
      have hcl : c.length ≤ maxLen ∧ l.length ≤ maxLen := by have := asm_len (Nat.le_trans HLS.out (by decide)) hr; unfold maxLen; omega
      have HA5 : Hid (asmA (textsL (([] : Str) :: ts)) = .ok (c, l)) := Lib.hid (by rw [first_is ([] : Str) (.inl rfl) ts, hr]; rfl)
      obtain ⟨sv1, cv1, rfl, hMv⟩ := Made.of_own insC_five hT.code rfl hcl.1
      obtain ⟨su1, cu1, rfl, hMu⟩ := Made.of_own labC_two hT.labs rfl hcl.2
      have HMV := Lib.hid (fun w3 (hk : Kept (fun _ => False) w2 w3) => (show Elems w3 w3.heap.size sv1 5 insC c from (hMv.elems.kept hk (Nat.le_refl _) (fun _ _ f => f)).more hk.size))
      have HMU := Lib.hid (fun w3 (hk : Kept (fun _ => False) w2 w3) => (show Elems w3 w3.heap.size su1 2 labC l from (hMu.elems.kept hk (Nat.le_refl _) (fun _ _ f => f)).more hk.size))
      have HCL := Lib.hid hcl
      clear hr hk2 hT hMv hMu hcl
      obtain ⟨m, hm⟩ : ∃ m, l.length = m := ⟨_, rfl⟩
      obtain ⟨d, hd⟩ : ∃ d, c.length = d := ⟨_, rfl⟩
      have HM := Lib.hid hm
      have HD := Lib.hid hd
      rw [hm, hd]
      clear hm hd
      go_wp2_with (at_builtin; refine wpList_append_elems (f := sC) (ys := ts) _ rfl (.tmp 38) (.tmp 39) 22 rfl w2.heap.size 9 i4 (.string { data := #[] }) 1 16 Tryz.underlying22 HI4.out HZ4.out HN4.out HB4.out rfl (by decide) sC_one (sC_cell _) (.slice (some ⟨w2.heap.size, 0, none⟩) 1 1) 1 (flat sC [([] : Str)]) rfl ?c1 ?bb2 sl cap rfl ?c2 ?c3 ?c4 ?c5 ?_)
      case c1 => exact HOWN.out
      case c2 => exact HE.out _ (HK2.out.alloc _)
      case c3 => show 1 + ts.length ≤ maxLen; unfold maxLen; omega
      case c4 => show (1 + ts.length) * 16 ≤ _; omega
      case c5 => simp
      intro v' w3 h1 h2 h3
      have hk23 : Kept (fun _ => False) w2 w3 := ((Kept.refl _ w2).alloc _).grown h2 (fun g hg e => by have := (World.ownsRow.lt HOWN.out g e).1; omega)
      have hk3 : Kept (fun _ => False) w w3 := HK2.out.trans hk23 (fun _ _ f => f)
      have hln : (([] : Str) :: ts).length = 1 + ts.length := by rw [List.length_cons, Nat.add_comm]
      obtain ⟨sv, cv, hv, hM⟩ := Made.of_own (ys := ([] : Str) :: ts) sC_one (by rw [hln]; exact h1) rfl (by rw [hln]; unfold maxLen; omega)
      rw [hln] at hv
      subst hv
      clear h1 h2 h3 hln
      have HBB := HB.out ([] : Str) (by decide) sv cv w3 hk3 hM.elems
      rw [HA5.out] at HBB
      replace HBB := Lib.hid HBB
      have HK3 := Lib.hid hk3
      have HK23 := Lib.hid hk23
      clear hM hk3 hk23
      go_wp2_with fail
      refine HBB.out.mono ?_
      rintro e w5 ⟨hk5, v2, u2, rfl, hT5⟩
      obtain ⟨sw, cw, rfl, hMw⟩ := Made.of_own insC_five hT5.code rfl HCL.out.1
      obtain ⟨sy, cy, rfl, hMy⟩ := Made.of_own labC_two hT5.labs rfl HCL.out.2
      have HK5 := Lib.hid (HK3.out.trans hk5 (fun _ _ f => f))
      have HK25 := Lib.hid (HK23.out.trans hk5 (fun _ _ f => f))
      have HMW := Lib.hid (fun w4 (hk : Kept (fun _ => False) w5 w4) => (show Elems w4 w4.heap.size sw 5 insC c from (hMw.elems.kept hk (Nat.le_refl _) (fun _ _ f => f)).more hk.size))
      have HMY := Lib.hid (fun w4 (hk : Kept (fun _ => False) w5 w4) => (show Elems w4 w4.heap.size sy 2 labC l from (hMy.elems.kept hk (Nat.le_refl _) (fun _ _ f => f)).more hk.size))
      have HO1 := Lib.hid (of_nil w5)
      rw [HM.out, HD.out]
      clear hk5 hT5 hMw hMy
      go_wp2_with fail
      refine HO1.out.mono ?_
      rintro e w6 ⟨rfl, hk6⟩
      have HK6 := Lib.hid hk6
      have HO2 := Lib.hid (of_nil w6)
      clear hk6
      go_wp2_with fail
      refine HO2.out.mono ?_
      rintro e w7 ⟨rfl, hk7⟩
      have HK7 := Lib.hid (HK6.out.trans hk7 (fun _ _ f => f))
      have HS1 := Lib.hid (refSame_any (ca := cv1) (cb := cw) (r := true) w7 (HMV.out w7 (HK25.out.trans HK7.out (fun _ _ f => f))) (HMW.out w7 HK7.out) HD.out HD.out (by simp))
      clear hk7
      go_wp2_with fail
      refine HS1.out.mono ?_
      rintro e w8 ⟨rfl, hk8⟩
      have HK8 := Lib.hid (HK7.out.trans hk8 (fun _ _ f => f))
      have HS2 := Lib.hid (lawSame_any (ca := cu1) (cb := cy) (r := true) w8 (HMU.out w8 (HK25.out.trans HK8.out (fun _ _ f => f))) (HMY.out w8 HK8.out) HM.out HM.out (by simp))
      clear hk8
      go_wp2_with fail
      refine HS2.out.mono ?_
      rintro e w9 ⟨rfl, hk9⟩
      have HF := Lib.hid (HFIN.out _ (HK5.out.trans (HK8.out.trans hk9 (fun _ _ f => f)) (fun _ _ f => f)))
      clear hk9
      go_wp2_with fail
      go_ret
      exact ⟨by simp, HF.out⟩
  case true =>
    go_enter Tryz.func5, Tryz.ntmps5
    go_wp2_with fail
    refine (HU.out).mono ?_
    rintro e w1 ⟨rfl, hk1⟩
    have HK1 := Lib.hid hk1
    clear hk1
    go_wp2_with fail
    refine (HS.out _ HK1.out).mono ?_
    rintro e w2 ⟨rfl, hw2⟩
    subst w2
    go_wp2_with fail
    refine (HA.out _ HK1.out).mono ?_
    rintro e w2 h2
    have HK2 := Lib.hid (HK1.out.trans h2.1 (fun _ _ f => f))
    have HOWN := Lib.hid (show World.ownsRow (w2.alloc (.cells #[.string (strS noteS)] 9)) w2.heap.size 9 1 (.slice (some ⟨w2.heap.size, 0, none⟩) 1 1) 1 (flat sC [noteS]) from ⟨rfl, .inr ⟨w2.heap.size, 1, #[.string (strS noteS)], rfl, Nat.le_refl _, heap_new1 _ _, Nat.le_refl _, by decide, rfl, rfl⟩⟩)
    cases hr : asmA (textsL ts) with
    | error p =>
      rw [hr] at h2
      obtain ⟨hk2, g, _, hs, rfl⟩ := h2
      obtain ⟨p1, p8⟩ := asm_codes hr
      have hpl : p.2 ≤ 100000 := Nat.le_trans (asm_at hr) HLS.out
      have HA5 : Hid (asmA (textsL (noteS :: ts)) = .error (p.1, p.2 + 1)) := Lib.hid (by rw [first_is noteS (.inr rfl) ts, hr]; rfl)
      have HSP := Lib.hid hs
      have hp0 : ((p.1 : Int) == 0) = false := by rw [beq_eq_false_iff_ne]; omega
      clear hr hk2 hs
      go_wp2_with (at_builtin; refine wpList_append_elems (f := sC) (ys := ts) _ rfl (.tmp 38) (.tmp 39) 22 rfl w2.heap.size 9 i4 (.string { data := #[] }) 1 16 Tryz.underlying22 HI4.out HZ4.out HN4.out HB4.out rfl (by decide) sC_one (sC_cell _) (.slice (some ⟨w2.heap.size, 0, none⟩) 1 1) 1 (flat sC [noteS]) rfl ?c1 ?bb3 sl cap rfl ?c2 ?c3 ?c4 ?c5 ?_)
      case c1 => exact HOWN.out
      case c2 => exact HE.out _ (HK2.out.alloc _)
      case c3 => show 1 + ts.length ≤ maxLen; unfold maxLen; omega
      case c4 => show (1 + ts.length) * 16 ≤ _; omega
      case c5 => simp
      intro v' w3 h1 h2 h3
      have hk23 : Kept (fun _ => False) w2 w3 := ((Kept.refl _ w2).alloc _).grown h2 (fun g hg e => by have := (World.ownsRow.lt HOWN.out g e).1; omega)
      have hk3 : Kept (fun _ => False) w w3 := HK2.out.trans hk23 (fun _ _ f => f)
      have hln : (noteS :: ts).length = 1 + ts.length := by rw [List.length_cons, Nat.add_comm]
      obtain ⟨sv, cv, hv, hM⟩ := Made.of_own (ys := noteS :: ts) sC_one (by rw [hln]; exact h1) rfl (by rw [hln]; unfold maxLen; omega)
      rw [hln] at hv
      subst hv
      clear h1 h2 h3 hln
      have HBB := HB.out noteS (by decide) sv cv w3 hk3 hM.elems
      rw [HA5.out] at HBB
      replace HBB := Lib.hid HBB
      have HK3 := Lib.hid hk3
      have HK23 := Lib.hid hk23
      clear hM hk3 hk23
      go_wp2_with fail
      refine HBB.out.mono ?_
      rintro e w5 ⟨hk5, g', _, hs', rfl⟩
      have HK5 := Lib.hid (HK3.out.trans hk5 (fun _ _ f => f))
      have HO1 := Lib.hid (of_spot (HSP.out.kept (HK23.out.trans hk5 (fun _ _ f => f)) (fun f => f)) (HC.out _ HK5.out).hnd p1 p8)
      have HSP' := Lib.hid hs'
      clear hk5 hs'
      go_wp2_with fail
      refine HO1.out.mono ?_
      rintro e w6 ⟨rfl, hk6⟩
      have HK6 := Lib.hid (HK5.out.trans hk6 (fun _ _ f => f))
      have HO2 := Lib.hid (of_spot (c := p.1) (a := p.2 + 1) (HSP'.out.kept hk6 (fun f => f)) (HC.out _ HK6.out).hnd p1 p8)
      clear hk6
      go_wp2_with fail
      refine HO2.out.mono ?_
      rintro e w7 ⟨rfl, hk7⟩
      have HK7 := Lib.hid (HK6.out.trans hk7 (fun _ _ f => f))
      have HS1 := Lib.hid (refSame_any (xs := []) (ys := []) (sa := none) (sb := none) (ca := 0) (cb := 0) (n := 0) (k := 0) (B := 0) (C := 0) (r := true) w7 Elems.nil Elems.nil rfl rfl (by simp))
      clear hk7
      go_wp2_with fail
      refine HS1.out.mono ?_
      rintro e w8 ⟨rfl, hk8⟩
      have HK8 := Lib.hid (HK7.out.trans hk8 (fun _ _ f => f))
      have HS2 := Lib.hid (lawSame_any (xs := []) (ys := []) (sa := none) (sb := none) (ca := 0) (cb := 0) (n := 0) (k := 0) (B := 0) (C := 0) (r := true) w8 Elems.nil Elems.nil rfl rfl (by simp))
      clear hk8
      go_wp2_with fail
      refine HS2.out.mono ?_
      rintro e w9 ⟨rfl, hk9⟩
      have HF := Lib.hid (HFIN.out _ (HK8.out.trans hk9 (fun _ _ f => f)))
      clear hk9
      go_wp2_with fail
      go_ret
      exact ⟨by simp, HF.out⟩
    | ok cl =>
      obtain ⟨c, l⟩ := cl
      rw [hr] at h2
      obtain ⟨hk2, v, u, rfl, hT⟩ := h2
      have hcl : c.length ≤ maxLen ∧ l.length ≤ maxLen := by have := asm_len (Nat.le_trans HLS.out (by decide)) hr; unfold maxLen; omega
      have HA5 : Hid (asmA (textsL (noteS :: ts)) = .ok (c, l)) := Lib.hid (by rw [first_is noteS (.inr rfl) ts, hr]; rfl)
      obtain ⟨sv1, cv1, rfl, hMv⟩ := Made.of_own insC_five hT.code rfl hcl.1
      obtain ⟨su1, cu1, rfl, hMu⟩ := Made.of_own labC_two hT.labs rfl hcl.2
      have HMV := Lib.hid (fun w3 (hk : Kept (fun _ => False) w2 w3) => (show Elems w3 w3.heap.size sv1 5 insC c from (hMv.elems.kept hk (Nat.le_refl _) (fun _ _ f => f)).more hk.size))
      have HMU := Lib.hid (fun w3 (hk : Kept (fun _ => False) w2 w3) => (show Elems w3 w3.heap.size su1 2 labC l from (hMu.elems.kept hk (Nat.le_refl _) (fun _ _ f => f)).more hk.size))
      have HCL := Lib.hid hcl
      clear hr hk2 hT hMv hMu hcl
      obtain ⟨m, hm⟩ : ∃ m, l.length = m := ⟨_, rfl⟩
      obtain ⟨d, hd⟩ : ∃ d, c.length = d := ⟨_, rfl⟩
      have HM := Lib.hid hm
      have HD := Lib.hid hd
      rw [hm, hd]
      clear hm hd
      go_wp2_with (at_builtin; refine wpList_append_elems (f := sC) (ys := ts) _ rfl (.tmp 38) (.tmp 39) 22 rfl w2.heap.size 9 i4 (.string { data := #[] }) 1 16 Tryz.underlying22 HI4.out HZ4.out HN4.out HB4.out rfl (by decide) sC_one (sC_cell _) (.slice (some ⟨w2.heap.size, 0, none⟩) 1 1) 1 (flat sC [noteS]) rfl ?c1 ?bb4 sl cap rfl ?c2 ?c3 ?c4 ?c5 ?_)
      case c1 => exact HOWN.out
      case c2 => exact HE.out _ (HK2.out.alloc _)
      case c3 => show 1 + ts.length ≤ maxLen; unfold maxLen; omega
      case c4 => show (1 + ts.length) * 16 ≤ _; omega
      case c5 => simp
      intro v' w3 h1 h2 h3
      have hk23 : Kept (fun _ => False) w2 w3 := ((Kept.refl _ w2).alloc _).grown h2 (fun g hg e => by have := (World.ownsRow.lt HOWN.out g e).1; omega)
      have hk3 : Kept (fun _ => False) w w3 := HK2.out.trans hk23 (fun _ _ f => f)
      have hln : (noteS :: ts).length = 1 + ts.length := by rw [List.length_cons, Nat.add_comm]
      obtain ⟨sv, cv, hv, hM⟩ := Made.of_own (ys := noteS :: ts) sC_one (by rw [hln]; exact h1) rfl (by rw [hln]; unfold maxLen; omega)
      rw [hln] at hv
      subst hv
      clear h1 h2 h3 hln
      have HBB := HB.out noteS (by decide) sv cv w3 hk3 hM.elems
      rw [HA5.out] at HBB
      replace HBB := Lib.hid HBB
      have HK3 := Lib.hid hk3
      have HK23 := Lib.hid hk23
      clear hM hk3 hk23
      go_wp2_with fail
      refine HBB.out.mono ?_
      rintro e w5 ⟨hk5, v2, u2, rfl, hT5⟩
      obtain ⟨sw, cw, rfl, hMw⟩ := Made.of_own insC_five hT5.code rfl HCL.out.1
      obtain ⟨sy, cy, rfl, hMy⟩ := Made.of_own labC_two hT5.labs rfl HCL.out.2
      have HK5 := Lib.hid (HK3.out.trans hk5 (fun _ _ f => f))
      have HK25 := Lib.hid (HK23.out.trans hk5 (fun _ _ f => f))
      have HMW := Lib.hid (fun w4 (hk : Kept (fun _ => False) w5 w4) => (show Elems w4 w4.heap.size sw 5 insC c from (hMw.elems.kept hk (Nat.le_refl _) (fun _ _ f => f)).more hk.size))
      have HMY := Lib.hid (fun w4 (hk : Kept (fun _ => False) w5 w4) => (show Elems w4 w4.heap.size sy 2 labC l from (hMy.elems.kept hk (Nat.le_refl _) (fun _ _ f => f)).more hk.size))
      have HO1 := Lib.hid (of_nil w5)
      rw [HM.out, HD.out]
      clear hk5 hT5 hMw hMy
      go_wp2_with fail
      refine HO1.out.mono ?_
      rintro e w6 ⟨rfl, hk6⟩
      have HK6 := Lib.hid hk6
      have HO2 := Lib.hid (of_nil w6)
      clear hk6
      go_wp2_with fail
      refine HO2.out.mono ?_
      rintro e w7 ⟨rfl, hk7⟩
      have HK7 := Lib.hid (HK6.out.trans hk7 (fun _ _ f => f))
      have HS1 := Lib.hid (refSame_any (ca := cv1) (cb := cw) (r := true) w7 (HMV.out w7 (HK25.out.trans HK7.out (fun _ _ f => f))) (HMW.out w7 HK7.out) HD.out HD.out (by simp))
      clear hk7
      go_wp2_with fail
      refine HS1.out.mono ?_
      rintro e w8 ⟨rfl, hk8⟩
      have HK8 := Lib.hid (HK7.out.trans hk8 (fun _ _ f => f))
      have HS2 := Lib.hid (lawSame_any (ca := cu1) (cb := cy) (r := true) w8 (HMU.out w8 (HK25.out.trans HK8.out (fun _ _ f => f))) (HMY.out w8 HK8.out) HM.out HM.out (by simp))
      clear hk8
      go_wp2_with fail
      refine HS2.out.mono ?_
      rintro e w9 ⟨rfl, hk9⟩
      have HF := Lib.hid (HFIN.out _ (HK5.out.trans (HK8.out.trans hk9 (fun _ _ f => f)) (fun _ _ f => f)))
      clear hk9
      go_wp2_with fail
      go_ret
      exact ⟨by simp, HF.out⟩

end asmEmpty
end Go.Proofs.YtlhnbihpefgcbaaGreatDoor
