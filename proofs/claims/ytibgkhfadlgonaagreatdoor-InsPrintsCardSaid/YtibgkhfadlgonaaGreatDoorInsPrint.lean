/-
  What the program's Print comes to.
  Conditions: the tables lie as the texts lay them; numbers of 64 bits.
-/
import Derived.Test.YtibgkhfadlgonaaGreatDoorInsShPrint
import Derived.Test.YtibgkhfadlgonaaGreatDoorLineEq
namespace Go.Proofs.YtibgkhfadlgonaaGreatDoor
open Go.RowKit

def leadsAt (i : Nat) (t : Str) : Bool := if hasC i 84 then isName t else decide (t = [])
theorem leads_any (i : Nat) (t : Str) (ht : t.length ≤ 100000) (w : World) : Calls Tryz.prog 17 #[shV i, .string (strS t)] w (BoolTo w (leadsAt i t)) := by
  have HG := Lib.hid (fun w' => goes_any i w')
  have hsz : (strS t).size ≤ 9223372036854775807 := by rw [strS_size]; omega
  cases hc : hasC i 84
  · have HR : Hid (∀ w' x, Kept (fun _ => False) w w' → x = decide (t = []) → BoolTo w (leadsAt i t) (.returned (.bool x)) w') := Lib.hid (fun w' x hk hx => ⟨by unfold leadsAt; rw [hc, hx]; rfl, hk⟩)
    rw [hc] at HG
    have heq := str_eq2 t []
    clear hc hsz
    by_cases h0 : t = []
    · obtain ⟨e1, e2⟩ := empty_yes (s := strS t) (by rw [h0]; rfl)
      have HX : Hid (true = decide (t = [])) := Lib.hid (by rw [decide_eq_true h0])
      clear h0 heq
      go_enter Tryz.func17, Tryz.ntmps17
      go_wp2_with fail
      refine (HG.out _).mono ?_
      rintro e w1 ⟨rfl, hk⟩
      have HK := Lib.hid (((Kept.refl (fun _ => False) w).alloc _).trans hk (fun _ _ f => f))
      clear hk
      go_wp2_with fail
      go_ret
      exact HR.out _ _ HK.out HX.out
    · have hp : 0 < (strS t).size := by rw [strS_size]; exact List.length_pos_iff.2 h0
      obtain ⟨e1, e2⟩ := empty_no hp
      have HX : Hid (false = decide (t = [])) := Lib.hid (by rw [decide_eq_false h0])
      clear h0 hp heq
      go_enter Tryz.func17, Tryz.ntmps17
      go_wp2_with fail
      refine (HG.out _).mono ?_
      rintro e w1 ⟨rfl, hk⟩
      have HK := Lib.hid (((Kept.refl (fun _ => False) w).alloc _).trans hk (fun _ _ f => f))
      clear hk
      go_wp2_with fail
      go_ret
      exact HR.out _ _ HK.out HX.out
  · have HR : Hid (∀ w', Kept (fun _ => False) w w' → BoolTo w (leadsAt i t) (.returned (.bool (isName t))) w') := Lib.hid (fun w' hk => ⟨by unfold leadsAt; rw [hc]; rfl, hk⟩)
    rw [hc] at HG
    have HN := Lib.hid (fun w' => isName_any (strS t) w' hsz)
    clear hc hsz
    go_enter Tryz.func17, Tryz.ntmps17
    go_wp2_with fail
    refine (HG.out _).mono ?_
    rintro e w1 ⟨rfl, hk⟩
    go_wp2_with fail
    refine (HN.out _).mono ?_
    rintro e wx ⟨rfl, rfl⟩
    have HK := Lib.hid (((Kept.refl (fun _ => False) w).alloc _).trans hk (fun _ _ f => f))
    clear hk
    go_wp2_with fail
    go_ret
    exact HR.out _ HK.out

/-- What is printed, or that it may not be. -/
def printP (x : Ln) : Option Str :=
  if x = zeroLn then some []
  else if x = { zeroLn with label := x.label } ∧ isName x.label = true then some (x.label ++ [58])
  else if 1 ≤ x.op ∧ x.op ≤ 22 ∧ x.label = [] ∧ fitsAt x.op.toNat x.a x.b x.c x.n = true ∧ leadsAt x.op.toNat x.target = true then some (wordAt x.op.toNat ++ (hasAt x.op.toNat).flatMap (fun h => 32 :: fieldL h x))
  else none
def PrintedTo (w : World) (r : Option Str) (e : Ending) (w' : World) : Prop :=
  ((∃ s, r = some s ∧ e = .returned (.tuple #[.string (strS s), .nilIface])) ∨ (r = none ∧ e = .returned (.tuple #[.string (strS []), .iface 33 (.int .i64 1)]))) ∧ Kept (fun _ => False) w w'

theorem reg_told {i : Nat} {c : UInt8} {n b : Int} (hb : 0 ≤ b) (h : regOk i c n b = true) : 0 ≤ n ∧ n ≤ 15 := by
  unfold regOk at h
  split at h
  · simp only [Bool.and_eq_true, decide_eq_true_eq] at h; omega
  · rw [beq_iff_eq] at h; omega
theorem fits_told {i : Nat} {x : Ln} (h : fitsAt i x.a x.b x.c x.n = true) : Told x := by
  unfold fitsAt at h
  simp only [Bool.and_eq_true] at h
  refine ⟨reg_told (behind_le i).1 h.1.1.1, reg_told (by omega) h.1.1.2, reg_told (by omega) h.1.2, ?_⟩
  have hn := h.2
  unfold numOk at hn
  split at hn
  · unfold small at hn
    simp only [Bool.and_eq_true, decide_eq_true_eq] at hn
    omega
  · rw [beq_iff_eq] at hn; omega

theorem printed_no {x : Ln} {w w' : World} (h1 : x ≠ zeroLn) (h2 : ¬ (x = { zeroLn with label := x.label } ∧ isName x.label = true)) (h3 : ¬ (1 ≤ x.op ∧ x.op ≤ 22 ∧ x.label = [] ∧ fitsAt x.op.toNat x.a x.b x.c x.n = true ∧ leadsAt x.op.toNat x.target = true)) (hk : Kept (fun _ => False) w w') :
    PrintedTo w (printP x) (.returned (.tuple #[.string { data := #[] }, .iface 33 (.int .i64 1)])) w' := by
  refine ⟨.inr ⟨?_, rfl⟩, hk⟩
  unfold printP
  rw [if_neg h1, if_neg h2, if_neg h3]

set_option maxHeartbeats 8000000 in
set_option maxRecDepth 100000 in
theorem printTail_any (x : Ln) (w : World) (hL : LaidP w) (hl : x.label.length ≤ 100000) (ht : x.target.length ≤ 100000) (h0 : -9223372036854775808 ≤ x.op) (h1 : x.op ≤ 9223372036854775807) (hz : x ≠ zeroLn) (hlab : ¬ (x = { zeroLn with label := x.label } ∧ isName x.label = true)) (b : Bool)
    (he1 : ∀ w, (Op.equalIn 10000 25 (.agg #[.string (strS x.label), .int .i64 x.op, .int .i64 x.a, .int .i64 x.b, .int .i64 x.c, .int .i64 x.n, .string (strS x.target)]) (.agg #[.string { data := #[] }, .int .i64 0, .int .i64 0, .int .i64 0, .int .i64 0, .int .i64 0, .string { data := #[] }])).run Tryz.prog w = .ok false w)
    (he2 : ∀ w, (Op.equalIn 10000 25 (.agg #[.string (strS x.label), .int .i64 x.op, .int .i64 x.a, .int .i64 x.b, .int .i64 x.c, .int .i64 x.n, .string (strS x.target)]) (.agg #[.string (strS x.label), .int .i64 0, .int .i64 0, .int .i64 0, .int .i64 0, .int .i64 0, .string { data := #[] }])).run Tryz.prog w = .ok b w)
    (hn : b = true → isName x.label = false) :
    Calls Tryz.prog 7 #[.agg #[.string (strS x.label), .int .i64 x.op, .int .i64 x.a, .int .i64 x.b, .int .i64 x.c, .int .i64 x.n, .string (strS x.target)]] w (PrintedTo w (printP x)) := by
  have g1 := guard_line
  have HB := Lib.hid (heap_new1 w (.cells (lnCells x) 25))
  have HKW := Lib.hid ((Kept.refl (fun _ => False) w).alloc (.cells (lnCells x) 25))
  have HL := Lib.hid hL
  have HLAB := Lib.hid hlab
  have HZ := Lib.hid hz
  have HO := Lib.hid (shapeOf_any x.op (w.alloc (.cells (lnCells x) 25)) (HL.out.on0 HKW.out).laid h0 h1)
  have HCELL := Lib.hid (fun w1 (hk : Kept (fun _ => False) (w.alloc (.cells (lnCells x) 25)) w1) => (cells7 (hk.at0 HB.out)).1)
  have HNO := Lib.hid (fun w1 (hk : Kept (fun _ => False) (w.alloc (.cells (lnCells x) 25)) w1) h3 => printed_no HZ.out HLAB.out h3 (HKW.out.trans hk (fun _ _ f => f)))
  have HN := Lib.hid (fun w' => isName_any (strS x.label) w' (by rw [strS_size]; omega))
  clear hL hlab hz
  cases b
  case' true =>
    rw [bytesS_str, hn rfl] at HN
    go_enter Tryz.func7, Tryz.ntmps7
    go_wp2_with fail
    refine (HN.out _).mono ?_
    rintro e wx ⟨rfl, rfl⟩
  case' false =>
    go_enter Tryz.func7, Tryz.ntmps7
  all_goals (
    go_wp2_with fail
    refine HO.out.mono ?_
    rintro e w1 ⟨i, ok, rfl, hi, hcase, hk1⟩
    have hkS := hk1.alloc (.cells #[.string (strS (wordAt i)), .string (strS (hasAt i)), .int .i64 (behindAt i)] 41)
    have HKS := Lib.hid hkS
    have HSS := Lib.hid (heap_new1 w1 (.cells #[.string (strS (wordAt i)), .string (strS (hasAt i)), .int .i64 (behindAt i)] 41))
    have hlt : w.heap.size < w1.heap.size := (Array.getElem?_eq_some_iff.1 (hk1.at0 HB.out)).1
    obtain ⟨l0, l1, l2, l3, l4, l5, l6⟩ := HCELL.out _ hkS
    have HC := Lib.hid hcase
    clear hkS hk1 hcase
    cases ok
    · have HF := Lib.hid (HNO.out _ HKS.out (by rcases HC.out with ⟨_, _, _, h⟩ | ⟨h, _, _⟩; (· cases h); (· exact fun e => h ⟨e.1, e.2.1⟩)))
      go_wp2_with fail
      go_ret2
      exact HF.out
    have hop : x.op = (i : Int) ∧ 1 ≤ i := by
      rcases HC.out with ⟨q1, q2, q3, _⟩ | ⟨_, _, h⟩
      · exact ⟨q3.symm, by omega⟩
      · cases h
    have HOP := Lib.hid hop
    have htn : x.op.toNat = i := by omega
    have HTN := Lib.hid htn
    clear hop htn
    by_cases hlb : x.label = []
    case neg =>
      obtain ⟨e1, e2⟩ := empty_no (s := strS x.label) (by rw [strS_size]; exact List.length_pos_iff.2 hlb)
      have HF := Lib.hid (HNO.out _ HKS.out (fun e => hlb e.2.2.1))
      clear hlb
      go_wp2_with fail
      go_ret2
      exact HF.out
    obtain ⟨e1, e2⟩ := empty_yes (s := strS x.label) (by rw [hlb]; rfl)
    have HLB := Lib.hid hlb
    clear hlb
    obtain ⟨f, hf⟩ : ∃ f, fitsAt i x.a x.b x.c x.n = f := ⟨_, rfl⟩
    have HFT := Lib.hid (fits_any i x.op x.a x.b x.c x.n (w1.alloc (.cells #[.string (strS (wordAt i)), .string (strS (hasAt i)), .int .i64 (behindAt i)] 41)))
    rw [hf] at HFT
    have HFF := Lib.hid hf
    clear hf
    go_wp2_with fail
    refine HFT.out.mono ?_
    rintro e w2 ⟨rfl, hk2⟩
    have HK2 := Lib.hid (HKS.out.trans hk2 (fun _ _ f => f))
    have HS2 := Lib.hid (hk2.at0 HSS.out)
    clear l0 l1 l2 l3 l4 l5 l6 hk2 HFT
    obtain ⟨l0, l1, l2, l3, l4, l5, l6⟩ := HCELL.out _ HK2.out
    obtain ⟨s0, s1, s2⟩ := cells3 HS2.out
    cases f
    · have HF := Lib.hid (HNO.out _ HK2.out (fun e => by have h := e.2.2.2.1; rw [HTN.out, HFF.out] at h; cases h))
      go_wp2_with fail
      go_ret2
      exact HF.out
    obtain ⟨l, hl2⟩ : ∃ l, leadsAt i x.target = l := ⟨_, rfl⟩
    have HLD := Lib.hid (leads_any i x.target ht w2)
    rw [hl2] at HLD
    have HLL := Lib.hid hl2
    clear hl2
    go_wp2_with fail
    refine HLD.out.mono ?_
    rintro e w3 ⟨rfl, hk3⟩
    have HK3 := Lib.hid (HK2.out.trans hk3 (fun _ _ f => f))
    have HS3 := Lib.hid (hk3.at0 HS2.out)
    clear l0 l1 l2 l3 l4 l5 l6 s0 s1 s2 hk3 HLD
    obtain ⟨l0, l1, l2, l3, l4, l5, l6⟩ := HCELL.out _ HK3.out
    obtain ⟨s0, s1, s2⟩ := cells3 HS3.out
    cases l
    · have HF := Lib.hid (HNO.out _ HK3.out (fun e => by have h := e.2.2.2.2; rw [HTN.out, HLL.out] at h; cases h))
      go_wp2_with fail
      go_ret2
      exact HF.out
    have HPR := Lib.hid (shPrint_any i x w3 hi (fits_told HFF.out) (HL.out.on0 (HKW.out.trans HK3.out (fun _ _ f => f))) ht)
    go_wp2_with fail
    refine HPR.out.mono ?_
    rintro e w4 ⟨rfl, hk4⟩
    have HF : Hid (PrintedTo w (printP x) (.returned (.tuple #[.string (strS (wordAt i ++ (hasAt i).flatMap (fun h => 32 :: fieldL h x))), .nilIface])) w4) := Lib.hid ⟨.inl ⟨_, by
      unfold printP
      rw [if_neg HZ.out, if_neg HLAB.out, HTN.out, if_pos ⟨by have := HOP.out; omega, by have := HOP.out; omega, HLB.out, HFF.out, HLL.out⟩], rfl⟩, (HKW.out.trans HK3.out (fun _ _ f => f)).trans hk4 (fun _ _ f => f)⟩
    clear hk4 HPR
    go_wp2_with fail
    go_ret2
    exact HF.out)

set_option maxHeartbeats 4000000 in
set_option maxRecDepth 100000 in
theorem Print_any (x : Ln) (w : World) (hL : LaidP w) (hl : x.label.length ≤ 100000) (ht : x.target.length ≤ 100000) (h0 : -9223372036854775808 ≤ x.op) (h1 : x.op ≤ 9223372036854775807) :
    Calls Tryz.prog 7 #[.agg #[.string (strS x.label), .int .i64 x.op, .int .i64 x.a, .int .i64 x.b, .int .i64 x.c, .int .i64 x.n, .string (strS x.target)]] w (PrintedTo w (printP x)) := by
  have g1 := guard_line
  have hB := heap_new1 w (.cells (lnCells x) 25)
  have HB := Lib.hid hB
  have HKW := Lib.hid ((Kept.refl (fun _ => False) w).alloc (.cells (lnCells x) 25))
  have HL := Lib.hid hL
  have he1 : ∀ w, (Op.equalIn 10000 25 (.agg #[.string (strS x.label), .int .i64 x.op, .int .i64 x.a, .int .i64 x.b, .int .i64 x.c, .int .i64 x.n, .string (strS x.target)]) (.agg #[.string { data := #[] }, .int .i64 0, .int .i64 0, .int .i64 0, .int .i64 0, .int .i64 0, .string { data := #[] }])).run Tryz.prog w = .ok (decide (x = zeroLn)) w := fun w => eq_line x zeroLn w
  have he2 : ∀ w, (Op.equalIn 10000 25 (.agg #[.string (strS x.label), .int .i64 x.op, .int .i64 x.a, .int .i64 x.b, .int .i64 x.c, .int .i64 x.n, .string (strS x.target)]) (.agg #[.string (strS x.label), .int .i64 0, .int .i64 0, .int .i64 0, .int .i64 0, .int .i64 0, .string { data := #[] }])).run Tryz.prog w = .ok (decide (x = { zeroLn with label := x.label })) w := fun w => eq_line x { zeroLn with label := x.label } w
  clear hB hL
  by_cases hz : x = zeroLn
  · have HF : Hid (PrintedTo w (printP x) (.returned (.tuple #[.string { data := #[] }, .nilIface])) (w.alloc (.cells (lnCells x) 25))) := Lib.hid ⟨.inl ⟨[], by unfold printP; rw [if_pos hz], rfl⟩, HKW.out⟩
    rw [decide_eq_true hz] at he1
    clear hz he2
    go_enter Tryz.func7, Tryz.ntmps7
    go_wp2_with fail
    go_ret2
    exact HF.out
  rw [decide_eq_false hz] at he1
  have HZ : Hid (x ≠ zeroLn) := Lib.hid hz
  clear hz
  have hsz : (strS x.label).size ≤ 9223372036854775807 := by rw [strS_size]; omega
  have HN := Lib.hid (fun w' => isName_any (strS x.label) w' hsz)
  by_cases hlab : x = { zeroLn with label := x.label } ∧ isName x.label = true
  · have hadd : ∀ (w' : World), (Op.stringOp .add (strS x.label) ({ data := #[58] } : ByteArray)).run Tryz.prog w' = .ok (.string (strS (x.label ++ [58]))) w' := fun w' => by
      have := run_string_add_sum (P := Tryz.prog) w' (strS x.label) (strS [58]) (by rw [strS_size, strS_size]; simp; omega)
      rw [strS_add] at this
      exact this
    have HF : Hid (PrintedTo w (printP x) (.returned (.tuple #[.string (strS (x.label ++ [58])), .nilIface])) (w.alloc (.cells (lnCells x) 25))) := Lib.hid ⟨.inl ⟨_, by unfold printP; rw [if_neg HZ.out, if_pos hlab], rfl⟩, HKW.out⟩
    rw [decide_eq_true hlab.1] at he2
    rw [bytesS_str, hlab.2] at HN
    clear hlab hsz
    go_enter Tryz.func7, Tryz.ntmps7
    go_wp2_with fail
    refine (HN.out _).mono ?_
    rintro e wx ⟨rfl, rfl⟩
    go_wp2_with fail
    go_ret2
    exact HF.out
  exact printTail_any x w HL.out hl ht h0 h1 HZ.out hlab _ he1 he2 (fun hb => by
    have hb' := of_decide_eq_true hb
    cases hn : isName x.label
    · rfl
    · exact absurd ⟨hb', hn⟩ hlab)

end Go.Proofs.YtibgkhfadlgonaaGreatDoor
