/-
  The document's Plays of layer 13, its walk.
  Conditions: what a kind of objects has to say of its calls.
-/
import Derived.Test.YtofnomkedpagfaaPlays14
import Derived.Test.YtofnomkedpagfaaPlays11
import Derived.Deep.RegionLaw
import Derived.Deep.DeepCutAuto
namespace Go.Proofs.Ytofnomkedpagfaa
open Go.RowKit
set_option linter.unusedVariables false
set_option linter.unusedSimpArgs false

theorem cs_at {w : World} {B : Nat} {s : Option Addr} {xs : List Cs} (h : Elems w B s 6 Cs.cells xs) {k : Nat} {x : Cs} (hx : xs[k]? = some x) :
    ∃ g off, s = some ⟨g, off, none⟩ ∧ g < B ∧ w.cell? ⟨g, off + k * 6, none⟩ = some (.int .i64 x.t) ∧ w.cell? ⟨g, off + k * 6 + 1, none⟩ = some (.int .i64 x.k) ∧ w.cell? ⟨g, off + k * 6 + 2, none⟩ = some (.int .i64 x.o) ∧
      w.cell? ⟨g, off + k * 6 + 3, none⟩ = some (.int .i64 x.n) ∧ w.cell? ⟨g, off + k * 6 + 4, none⟩ = some (.int .i64 x.wt) ∧ w.cell? ⟨g, off + k * 6 + 5, none⟩ = some (.bool x.br) := by
  obtain ⟨g, off, e, hb, hc⟩ := h.2 k x hx
  exact ⟨g, off, e, hb, hc 0 _ rfl, hc 1 _ rfl, hc 2 _ rfl, hc 3 _ rfl, hc 4 _ rfl, hc 5 _ rfl⟩

theorem exit_lit {E : Exit → Act → World → Prop} {a : Act} {w : World} (i : Nat) (mk : Value → Act) (hf : mk (lett a i) = a) (h : ∀ v, E .normal (mk v) w) : E .normal a w := by rw [← hf]; exact h _
theorem step_call2 {ops : Array Oper} {o : Oper} {a : Act} {K : Act → World → Prop} {Q : Exit → Act → World → Prop} {E : Prop} {w : World} (hgd : o.guard = none) (fi : Operand) {aa : Array Operand} {tt : Array TypeId} (ho : o.op = .call { callee := .value fi, args := aa, argTypes := tt }) {f : FuncId} {args : Array Value} {v : Value} {T : Nat → Prop} (hc : Hid (∀ w', Calls Try.prog f args w' fun e w'' => e = .returned v ∧ Kept T w' w'')) (hrun : (execOp a.eval o).run Try.prog w = .ok (.enter f args) w)
    (h : ∀ w', Kept T w w' → K (a.put o.dst v) w') : if Region.wanted o (yielded ops a.tmps) = true then Oper.wp Try.prog o a w K Q else E := by
  rw [if_pos (by simp [Region.wanted, hgd])]
  unfold Oper.wp
  rw [hrun, Oper.upon_enter]
  refine (hc.out w).mono fun e w'' hh => ?_
  obtain ⟨rfl, hk⟩ := hh
  exact h w'' hk
section
variable {S : Type} {Y : Kd S}
theorem step_alone {ops : Array Oper} {o : Oper} {a : Act} {K : Act → World → Prop} {Q : Exit → Act → World → Prop} {E : Prop} {w : World} (hgd : o.guard = none) (fi : Operand) {aa : Array Operand} {tt : Array TypeId} (ho : o.op = .call { callee := .value fi, args := aa, argTypes := tt })
    {wq w1 : World} {P : Wp} {wb og xb t cl cc lc ll q : Nat} {so lo : Option Addr} {eb : ByteArray} {av vl : Int} {s1 s2 : S} {ws : List Nt}
    (HAL : Hid (∀ (w' : World) (ro : Option Addr) (rc : Nat), Kept (fun _ => False) wq w' → Elems w' w'.heap.size ro 1 intC [1, av, 0, 0] → Calls Try.prog 14 #[.pointer (some ⟨wb, 0, none⟩), .slice so cl cc, .slice lo ll lc, .int .i64 t, .string eb, .slice ro 4 rc] w' fun e w'' =>
        ∃ (sn : Option Addr) (cn og' oc' : Nat) (xs : List Nt), e = .returned (.tuple #[.int .i64 vl, .slice sn q cn, .bool true]) ∧ StP Y w1 P og' oc' xb s1 s2 w'' ∧ Elems w'' w''.heap.size sn 2 Nt.cells xs ∧ SameL xs ws ∧ Kept (P.foot og) w' w''))
    (hk : Kept (fun _ => False) wq w) {ro : Option Addr} {rc : Nat} (hE : Elems w w.heap.size ro 1 intC [1, av, 0, 0])
    (hrun : (execOp a.eval o).run Try.prog w = .ok (.enter 14 #[.pointer (some ⟨wb, 0, none⟩), .slice so cl cc, .slice lo ll lc, .int .i64 t, .string eb, .slice ro 4 rc]) w)
    (h : ∀ (sn : Option Addr) (cn og' oc' : Nat) (xs : List Nt) (w' : World), StP Y w1 P og' oc' xb s1 s2 w' → Elems w' w'.heap.size sn 2 Nt.cells xs → SameL xs ws → Kept (P.foot og) wq w' → K (a.put o.dst (.tuple #[.int .i64 vl, .slice sn q cn, .bool true])) w') : if Region.wanted o (yielded ops a.tmps) = true then Oper.wp Try.prog o a w K Q else E := by
  rw [if_pos (by simp [Region.wanted, hgd])]
  unfold Oper.wp
  rw [hrun, Oper.upon_enter]
  refine (HAL.out w ro rc hk hE).mono fun e w'' hh => ?_
  obtain ⟨sn, cn, og', oc', xs, rfl, h1, h2, h3, h4⟩ := hh
  exact h sn cn og' oc' xs w'' h1 h2 h3 (Kept.trans (hk.mono (fun _ _ f => f.elim)) h4 (fun _ _ e => e))

set_option maxHeartbeats 8000000 in
set_option maxRecDepth 100000 in
theorem plays_any (hY : KdOk Y) (w : World) (sl : Option Addr) (nt cap : Nat) (cl : Nat) (hcl : Y.code.length = cl)
    (hA : ∀ W, Kept (fun _ => False) w W → Calls Try.prog 8 #[.slice sl nt cap] W fun e w' => ∃ (so lo : Option Addr) (cc lc ll : Nat) (l : Labs), e = .returned (.tuple #[.slice so cl cc, .slice lo ll lc, .bool true]) ∧ l.length = ll ∧ Coded Y w' so lo l ∧ Kept (fun _ => False) W w')
    (s : Option Addr) (sc n : Nat) (L : List Cs) (hL : Elems w w.heap.size s 6 Cs.cells L) (hn : L.length = n) (h64 : ∀ x ∈ L, Cs64 x) (kd n0 : Int) (fair : Bool) (hkd : Y.kind = kd) (hn0 : Y.n0 = n0) (hfair : Y.fair = fair) :
    Calls Try.prog 6 #[.slice sl nt cap, .agg #[.int .i64 kd, .bool fair, .int .i64 n0], .slice s n sc] w fun e w' => e = .returned (.bool true) ∧ Kept (fun _ => False) w w' := by
  have HY := Lib.hid hY
  have HL := Lib.hid hL
  have HN := Lib.hid hn
  have H64 := Lib.hid h64
  have HA := Lib.hid hA
  have HCL := Lib.hid hcl
  have HKD := Lib.hid (And.intro hkd (And.intro hn0 hfair))
  have hnm := hL.1
  rw [hn] at hnm
  have HNM := Lib.hid hnm
  clear hA hL h64 hn hcl hkd hn0 hfair hY hnm
  go_enter Try.func6, Try.ntmps6
  go_wp2_with fail
  obtain ⟨ob, hob⟩ : ∃ ob, w.heap.size = ob := ⟨_, rfl⟩
  obtain ⟨W0, hW0⟩ : ∃ W0, w.alloc (.cells #[.int .i64 kd, .bool fair, .int .i64 n0] 23) = W0 := ⟨_, rfl⟩
  have hb0 : W0.heap[ob]? = some (.cells #[.int .i64 kd, .bool fair, .int .i64 n0] 23 (0, 0)) := by rw [← hW0, ← hob]; exact heap_new1 w _
  have HK0 : Hid (Kept (fun _ => False) w W0) := Lib.hid (by rw [← hW0]; exact (Kept.refl _ w).alloc _)
  rw [hW0, hob]
  clear hW0 hob
  refine (HA.out W0 HK0.out).mono ?_
  rintro e w1 ⟨so, lo, cc, lc, ll, l, rfl, hll, hco, hk1⟩
  have HLL := Lib.hid hll
  have HCO := Lib.hid hco
  have hb1 := hk1.at0 hb0
  have hob1 := (Array.getElem?_eq_some_iff.1 hb1).1
  have HK1 := Lib.hid (HK0.out.tr0 hk1)
  clear hll hco hk1 HK0 HA hb0
  have HNW := Lib.hid (new8 w1)
  go_wp2_with fail
  refine HNW.out.mono ?_
  rintro e w2 ⟨wb, tb, tg, rfl, hrw, hk2, hwb, htb, htg⟩
  have HWB := Lib.hid (And.intro hwb (And.intro htb htg))
  have hb2 := hk2.at0 hb1
  obtain ⟨o0, o1, o2⟩ := cells3 hb2
  have HLAY := Lib.hid (lay_any hrw rfl kd n0 fair)
  have HK12 := Lib.hid hk2
  have HB1 := Lib.hid hb1
  have hobw : ob ≠ wb := by omega
  have HOB := Lib.hid hob1
  clear hrw hk2 hwb htb htg HNW hb1 hob1
  go_wp2_with fail
  refine HLAY.out.mono ?_
  rintro e w3 ⟨rfl, g, gc, hrw, hk3, hg⟩
  have hb3 := hk3.at_ hb2 hobw
  clear o0 o1 o2 hb2
  obtain ⟨o0, o1, o2⟩ := cells3 hb3
  have HNEW := Lib.hid (thingNew_any kd n0 fair w3)
  have HRW := Lib.hid hrw
  have HK3 := Lib.hid hk3
  have HG := Lib.hid hg
  clear hrw hk3 HLAY hb3 hg
  go_wp2_with fail
  refine HNEW.out.mono ?_
  rintro e w4 ⟨rfl, hk4⟩
  have HK4 := Lib.hid hk4
  clear hk4 HNEW o0 o1 o2 hobw
  have HZT := Lib.hid (th_zero w4)
  go_wp2_with (refine wpList_storeTh rfl rfl rfl rfl HZT.out rfl rfl (idle_one kd n0) ?_; intro W5 hb5 hk5; have H5 := Lib.hid (And.intro hb5 hk5); clear hb5 hk5)
  obtain ⟨xb, hxb⟩ : ∃ xb, w4.heap.size = xb := ⟨_, rfl⟩
  have HST : Hid (StP Y w1 ⟨wb, tb, tg, 8, 4096, 0⟩ g gc xb Y.s0 Y.s0 W5 ∧ Y.ok 0 Y.s0) := Lib.hid (by
    obtain ⟨h1, h2, h3⟩ := HWB.out
    have hg2 : w1.heap.size ≤ g := Nat.le_trans HK12.out.size HG.out
    have hx1 : w3.heap.size ≤ xb := by rw [← hxb]; exact HK4.out.size
    have hx2 : w1.heap.size ≤ xb := Nat.le_trans (Nat.le_trans HK12.out.size HK3.out.size) hx1
    have hlow : ∀ q, (⟨wb, tb, tg, 8, 4096, 0⟩ : Wp).foot g q → w1.heap.size ≤ q := fun q hq => by
      rcases hq with e | e | e | e <;> (subst e; assumption)
    have k5 : Kept (fun _ => False) w3 W5 := (HK4.out.alloc _).trans H5.out.2 (fun i hi e => by have := HK4.out.size; have : i = w4.heap.size := e; omega)
    refine ⟨⟨?_, ?_, fun hq => ?_, ?_, hlow, hx2⟩, HY.out.ok0⟩
    · rw [HY.out.zs0, HY.out.ps0, HKD.out.1, HKD.out.2.1, HKD.out.2.2]; exact HRW.out.kept0 k5
    · rw [HY.out.cs0, HKD.out.1, HKD.out.2.1, ← hxb]; exact H5.out.1
    · have := HRW.out.foot_lt hq; omega
    · exact ((HK12.out.mono (T := fun k => w1.heap.size ≤ k) (fun _ _ f => f.elim)).trans HK3.out (fun i hi e => by have : i = wb := e; omega)).trans k5 (fun _ _ f => f.elim))
  rw [hxb]
  clear hxb HZT H5
  have HP : Hid (∀ wr, Kept (fun k => w1.heap.size ≤ k) w1 wr → Kept (fun _ => False) w wr) := Lib.hid (fun wr hk => HK1.out.trans hk (fun i hi h => by have := HK1.out.size; have : w1.heap.size ≤ i := h; omega))
  go_wp2_with fail
  go_loopw [13] (fun i wr => ∃ (k og oc : Nat) (st : S), i = .int .i64 k ∧ k ≤ 40 ∧ StP Y w1 ⟨wb, tb, tg, 8, 4096, 0⟩ og oc xb st st wr ∧ Y.ok k st) (fun i _ => 40 - (intOf i).toNat)
  case atStart => exact ⟨0, g, gc, Y.s0, rfl, by omega, HST.out.1, HST.out.2⟩
  case round =>
    obtain ⟨k, og, oc, st, rfl, hk, hst, hok⟩ := hrel
    have HSP := Lib.hid hst
    have HOK := Lib.hid hok
    clear hst hok HST
    have HEND : Hid (Kept (fun _ => False) w wr) := Lib.hid (HP.out wr HSP.out.k)
    by_cases hkn : k < n
    case neg =>
      have hkn' : ¬ (k : Int) < (n : Int) := by omega
      clear hkn hk
      go_wp2_with fail
      go_ret
      exact ⟨rfl, HEND.out⟩
    have hkn' : (k : Int) < (n : Int) := by omega
    by_cases hk4 : k < 40
    case neg =>
      have hk4' : ¬ (k : Int) < 40 := by omega
      clear hkn hk hk4
      go_wp2_with fail
      go_ret
      exact ⟨rfl, HEND.out⟩
    have hk4' : (k : Int) < 40 := by omega
    have HK := Lib.hid (And.intro hkn hk4)
    clear hkn hk4 hk
    obtain ⟨x, hx⟩ : ∃ x, L[k]? = some x := ⟨_, List.getElem?_eq_getElem (by rw [HN.out]; exact HK.out.1)⟩
    obtain ⟨ga, oa, rfl, hga, x0, x1, x2, x3, x4, x5⟩ := cs_at HL.out hx
    have hgx : ∀ o, wr.cell? ⟨ga, o, none⟩ = w.cell? ⟨ga, o, none⟩ := fun o => HEND.out.cell (p := ⟨ga, o, none⟩) hga (fun f => f)
    rw [← hgx] at x0 x1 x2 x3 x4 x5
    have HX0 := Lib.hid x0
    have H6 := Lib.hid (H64.out x (List.mem_of_getElem? hx))
    have HB := Lib.hid (HSP.out.k.at_ HB1.out (fun h => by have := HOB.out; omega))
    clear hx hgx x0
    go_wp2_with fail
    obtain ⟨cb, hcb⟩ : ∃ cb, wr.heap.size = cb := ⟨_, rfl⟩
    obtain ⟨W, hW⟩ : ∃ W, wr.alloc (.cells #[.int .i64 x.k, .int .i64 x.o, .int .i64 x.n, .int .i64 x.wt, .bool x.br] 32) = W := ⟨_, rfl⟩
    have hcb1 : W.heap[cb]? = some (.cells #[.int .i64 x.k, .int .i64 x.o, .int .i64 x.n, .int .i64 x.wt, .bool x.br] 32 (0, 0)) := by rw [← hW, ← hcb]; exact heap_new1 wr _
    have hwW : Kept (fun _ => False) wr W := by rw [← hW]; exact (Kept.refl _ wr).alloc _
    rw [hW, hcb]
    have HCB := Lib.hid hcb1
    have HWW := Lib.hid hwW
    have HCX := Lib.hid hcb
    have HBW := Lib.hid (hwW.at0 HB.out)
    clear hW hcb1 hwW x1 x2 x3 x4 x5 hcb
    obtain ⟨r0, hr0⟩ : ∃ r, ofI x.k = r := ⟨_, rfl⟩
    have HOF : Hid (∀ w', Calls Try.prog 12 #[.int .i64 x.k] w' fun e w'' => e = .returned (.int .i64 r0) ∧ Kept (fun _ => False) w' w'') := Lib.hid (fun w' => by rw [← hr0]; exact of13_any x.k w')
    have HR0 := Lib.hid hr0
    clear hr0
    obtain ⟨q0, hq0⟩ : ∃ b, (r0 == kd) = b := ⟨_, rfl⟩
    obtain ⟨e4, he4⟩ : ∃ b, (x.k == 4) = b := ⟨_, rfl⟩
    obtain ⟨e5, he5⟩ : ∃ b, (x.k == 5) = b := ⟨_, rfl⟩
    obtain ⟨e6, he6⟩ : ∃ b, (x.k == 6) = b := ⟨_, rfl⟩
    obtain ⟨e19, he19⟩ : ∃ b, (x.k == 19) = b := ⟨_, rfl⟩
    obtain ⟨z0, hz0⟩ : ∃ b, (x.n == 0) = b := ⟨_, rfl⟩
    have HV : Hid ((((!q0 || decide (x.n < 0)) || decide (1000 < x.n)) || ((e4 || e5 || e6) && z0) || (!e4 && !e5 && !e6 && !e19 && !z0)) = false → Valid kd x.k x.n) := Lib.hid (fun h => test_valid (by rw [HR0.out]; exact hq0) he4 he5 he6 he19 hz0 h)
    have HCO6 : Hid (∀ w', Kept (fun _ => False) W w' → w'.cell? ⟨cb, 0, none⟩ = some (.int .i64 x.k) ∧ w'.cell? ⟨cb, 2, none⟩ = some (.int .i64 x.n) ∧ w'.cell? ⟨ob, 0, none⟩ = some (.int .i64 kd)) := Lib.hid (fun w' hk => by
      have h1 := hk.at0 HCB.out
      have h2 := hk.at0 HBW.out
      exact ⟨by rw [cell_at w' cb 0 _ _ h1]; rfl, by rw [cell_at w' cb 2 _ _ h1]; rfl, by rw [cell_at w' ob 0 _ _ h2]; rfl⟩)
    refine reg11 HOF HCO6 q0 e4 e5 e6 e19 z0 (Lib.hid hq0) (Lib.hid he4) (Lib.hid he5) (Lib.hid he6) (Lib.hid he19) (Lib.hid hz0) (Lib.hid ?_)
    clear hq0 he4 he5 he6 he19 hz0
    intro b11 v0 v1 v2 v3 v4 v5 v6 v7 v8 v9 v10 v11 v12 v13 v14 v15 v16 v17 v18 v19 v20 v21 v22 v23 v24 v25 v26 v27 v28 v29 v30 v31 v32 v33 v34 v35 v36 v37 v38 v39 v40 v41 v42 v43 v44 v45 v46 v47 v48 v49 v50 v51 v52 v53 v54 v55 v56 v57 v58 v59 wd hb11 hkd
    rw [← hb11] at HV
    clear hb11
    have HKW := Lib.hid hkd
    clear hkd HOF HCO6
    cases b11 with
    | true =>
      have hww : Kept (fun _ => False) wr wd := HWW.out.tr0 HKW.out
      have HF : Hid (StP Y w1 ⟨wb, tb, tg, 8, 4096, 0⟩ og oc xb st st wd ∧ Y.ok (k + 1) st) := Lib.hid ⟨HSP.out.on hww, HY.out.skip _ _ HOK.out⟩
      clear hww
      go_wp2_with fail
      exact ⟨⟨k + 1, og, oc, st, by go_num, by have := HK.out.2; omega, HF.out.1, HF.out.2⟩, by have := HK.out.2; simp [intOf]; omega⟩
    | false =>
      have hV := HV.out rfl
      have hww : Kept (fun _ => False) wr wd := HWW.out.tr0 HKW.out
      have x0 : wd.cell? ⟨ga, oa + k * 6, none⟩ = some (.int .i64 x.t) := (hww.cell (p := ⟨ga, oa + k * 6, none⟩) (Nat.lt_of_lt_of_le hga HEND.out.size) (fun f => f)).trans HX0.out
      obtain ⟨c0, c1, c2, c3, c4, _⟩ := cells5 (HKW.out.at0 HCB.out)
      have HPI := Lib.hid (pick_any x.t wd H6.out.1 H6.out.2)
      have HSPd := Lib.hid (HSP.out.on hww)
      have HCF : Hid (¬ (⟨wb, tb, tg, 8, 4096, 0⟩ : Wp).foot og cb) := Lib.hid (fun hq => by have := HSP.out.rw.foot_lt hq; have := HCX.out; omega)
      rw [← HKD.out.1] at hV
      have HVV := Lib.hid hV
      have HT8 : Hid (pickI x.t < 8) := Lib.hid (pick_lt x.t)
      obtain ⟨t, ht⟩ : ∃ t, pickI x.t = t := ⟨_, rfl⟩
      rw [ht] at HPI HT8
      obtain ⟨eb, heb⟩ : ∃ eb, Y.ent x.k = eb := ⟨_, rfl⟩
      obtain ⟨av, hav⟩ : ∃ av, askI x.k x.n = av := ⟨_, rfl⟩
      have HEN : Hid (∀ w', Calls Try.prog 15 #[.int .i64 x.k] w' fun e w'' => e = .returned (.string eb) ∧ Kept (fun _ => False) w' w'') := Lib.hid (fun w' => by rw [← heb]; exact HY.out.entry x.k w' hV.1)
      have HAS : Hid (∀ w', Calls Try.prog 16 #[.agg #[.int .i64 x.k, .int .i64 x.o, .int .i64 x.n, .int .i64 x.wt, .bool x.br]] w' fun e w'' => e = .returned (.int .i64 av) ∧ Kept (fun _ => False) w' w'') := Lib.hid (fun w' => by rw [← hav]; exact asked_any _ _ _ _ _ w' hV.2.1 hV.2.2.1)
      obtain ⟨vl, hvl⟩ : ∃ v, Y.val st t x.k x.n = v := ⟨_, rfl⟩
      obtain ⟨q, hq⟩ : ∃ q, (Y.want st t x.k x.n).length = q := ⟨_, rfl⟩
      have HAL : Hid (∀ (w' : World) (ro : Option Addr) (rc : Nat), Kept (fun _ => False) wd w' → Elems w' w'.heap.size ro 1 intC [1, av, 0, 0] → Calls Try.prog 14 #[.pointer (some ⟨wb, 0, none⟩), .slice so cl cc, .slice lo ll lc, .int .i64 t, .string eb, .slice ro 4 rc] w' fun e w'' =>
        ∃ (sn : Option Addr) (cn og' oc' : Nat) (xs : List Nt), e = .returned (.tuple #[.int .i64 vl, .slice sn q cn, .bool true]) ∧ StP Y w1 ⟨wb, tb, tg, 8, 4096, 0⟩ og' oc' xb (Y.next st t x.k x.n) st w'' ∧ Elems w'' w''.heap.size sn 2 Nt.cells xs ∧ SameL xs (Y.want st t x.k x.n) ∧ Kept ((⟨wb, tb, tg, 8, 4096, 0⟩ : Wp).foot og) w' w'') := Lib.hid (fun w' ro rc hk hE =>
        alone_kd HY.out HCO.out (HSPd.out.on hk) rfl rfl HK.out.2 HOK.out x.k x.n t HT8.out HVV.out cl cc lc ll HCL.out HLL.out ro rc (by rw [hav]; exact hE) eb heb vl hvl q hq)
      obtain ⟨nx, hnx⟩ : ∃ nx, Y.next st t x.k x.n = nx := ⟨_, rfl⟩
      obtain ⟨ws, hws⟩ : ∃ ws, Y.want st t x.k x.n = ws := ⟨_, rfl⟩
      have HEX : Hid (∀ w', Calls Try.prog 17 #[.agg (Y.cs st).toArray, .int .i64 t, .agg #[.int .i64 x.k, .int .i64 x.o, .int .i64 x.n, .int .i64 x.wt, .bool x.br]] w' fun e w'' =>
        ∃ sb cb', e = .returned (.tuple #[.agg (Y.cs nx).toArray, .slice sb q cb', .int .i64 vl]) ∧ Elems w'' w''.heap.size sb 2 Nt.cells ws ∧ Kept (fun _ => False) w' w'') := Lib.hid (fun w' => by
          have := HY.out.expect k st t x.k x.n x.o x.wt x.br w' HK.out.2 HOK.out HT8.out HVV.out
          rw [hnx, hvl, hws, show ws.length = q by rw [← hws]; exact hq] at this
          exact this)
      have HOKN : Hid (Y.ok (k + 1) nx) := Lib.hid (by rw [← hnx]; exact HY.out.next k st t x.k x.n HK.out.2 HOK.out HT8.out HVV.out)
      rw [hws] at hq HAL
      rw [hnx] at HAL
      have HQ := Lib.hid hq
      have HQ1 : Hid (q ≤ 100) := Lib.hid (by rw [← hq, ← hws]; exact HY.out.few _ _ _ _)
      clear hws hnx
      obtain ⟨C1, hC1⟩ : ∃ C, Y.cs st = C := ⟨_, rfl⟩
      obtain ⟨C2, hC2⟩ : ∃ C, Y.cs nx = C := ⟨_, rfl⟩
      have HLN : Hid (C1.length = 15) := Lib.hid (by rw [← hC1]; exact HY.out.len st)
      have HLM : Hid (C2.length = 15) := Lib.hid (by rw [← hC2]; exact HY.out.len nx)
      have HON : Hid (∀ v ∈ C2, v.oneCell' = true) := Lib.hid (by rw [← hC2]; exact HY.out.one nx)
      rw [hC1, hC2] at HEX
      have HC12 := Lib.hid (And.intro hC1 hC2)
      clear hC1 hC2
      clear hV hww ht heb hav hvl hq HX0 HV HSP
      go_wp2_with fail
      refine HPI.out.mono ?_
      rintro e w6 ⟨rfl, rfl⟩
      have HC : Hid (Kept (fun _ => False) w6 w6) := Lib.hid (Kept.refl _ _)
      have HC5 := Lib.hid (HKW.out.at0 HCB.out)
      have HE0 : Hid (∀ w' : World, Elems (w'.alloc (.cells #[.int .i64 1, .int .i64 av, .int .i64 0, .int .i64 0] 2)) (w'.alloc (.cells #[.int .i64 1, .int .i64 av, .int .i64 0, .int .i64 0] 2)).heap.size (some ⟨w'.heap.size, 0, none⟩) 1 intC [1, av, 0, 0]) := Lib.hid (fun w' =>
        (Elems.block (f := intC) (xs := [1, av, 0, 0]) (fun _ => rfl) (heap_new1 w' _) rfl (by show 4 ≤ maxLen; decide)).more (Array.getElem?_eq_some_iff.1 (heap_new1 w' _)).1)
      go_upto_region 13 with fail
      go_cut [16, 17, 18] (fun a16 a17 a18 wx => ∃ (sn : Option Addr) (cn og2 oc2 : Nat) (xs : List Nt), a16 = .int .i64 vl ∧ a17 = .slice sn q cn ∧ a18 = .bool true ∧ StP Y w1 ⟨wb, tb, tg, 8, 4096, 0⟩ og2 oc2 xb nx st wx ∧ Elems wx wx.heap.size sn 2 Nt.cells xs ∧ SameL xs ws ∧ Kept ((⟨wb, tb, tg, 8, 4096, 0⟩ : Wp).foot og) w6 wx)
      case first =>
        go_region_law (first
          | (refine step_call2 (by rfl) (.func 15) rfl HEN (by kernel_rfl) ?_; intro wN hkN; have HC := Lib.hid (show Kept (fun _ => False) w6 wN by first | exact HC.out.tr0 hkN | exact HC.out.drew.tr0 hkN | exact (HC.out.alloc _).tr0 hkN | exact (HC.out.drew.alloc _).tr0 hkN); obtain ⟨c0, c1, c2, c3, c4, _⟩ := cells5 (HC.out.at0 HC5.out); obtain ⟨d0, d1, d2, d3, d4, _⟩ := cells5 ((HC.out.alloc (.cells #[.int .i64 1, .int .i64 av, .int .i64 0, .int .i64 0] 2)).at0 HC5.out))
          | (refine step_call2 (by rfl) (.func 16) rfl HAS (by kernel_rfl) ?_; intro wN hkN; have HC := Lib.hid (show Kept (fun _ => False) w6 wN by first | exact HC.out.tr0 hkN | exact HC.out.drew.tr0 hkN | exact (HC.out.alloc _).tr0 hkN | exact (HC.out.drew.alloc _).tr0 hkN); obtain ⟨c0, c1, c2, c3, c4, _⟩ := cells5 (HC.out.at0 HC5.out); obtain ⟨d0, d1, d2, d3, d4, _⟩ := cells5 ((HC.out.alloc (.cells #[.int .i64 1, .int .i64 av, .int .i64 0, .int .i64 0] 2)).at0 HC5.out))
          | (refine step_alone (by rfl) (.func 14) rfl (wq := w6) (rc := 4) HAL (by first | exact HC.out | exact HC.out.alloc _) (by first | exact HE0.out _ | exact ((HE0.out _).kept hkN (Nat.le_refl _) (fun _ _ f => f)).more hkN.size) (by kernel_rfl) ?_; intro sn cn og2 oc2 xs wA hst2 hE2 hSm hkA))
        all_goals clear c0 c1 c2 c3 c4 d0 d1 d2 d3 d4 hkN
        all_goals refine exit_lit 129 (fun v129 => ⟨#[.slice sl nt cap, .agg #[.int .i64 kd, .bool fair, .int .i64 n0], .slice (some ⟨ga, oa, none⟩) n sc, undef, .pointer (some ⟨ob, 0, none⟩), undef, u6, .slice so cl cc, .slice lo ll lc, .bool true, .pointer (some ⟨wb, 0, none⟩), .int .i64 1, .pointer (some ⟨xb, 0, none⟩), .int .i64 ↑k, .pointer (some ⟨cb, 0, none⟩), .int .i64 ↑t, .int .i64 vl, .slice sn q cn, .bool true, u19, u20, u21, .tuple #[.slice so cl cc, .slice lo ll lc, .bool true], .slice sl nt cap, .tuple #[.slice so cl cc, .slice lo ll lc, .bool true], .slice so cl cc, .slice lo ll lc, .bool true, .bool true, .bool false, .pointer (some ⟨wb, 0, none⟩), .pointer (some ⟨wb, 0, none⟩), .agg #[.int .i64 kd, .bool fair, .int .i64 n0], .int .i64 1, .agg #[.int .i64 kd, .bool fair, .int .i64 n0], .agg (idleC kd n0).toArray, .int .i64 ↑k, .slice (some ⟨ga, oa, none⟩) n sc, .int .i64 ↑n, .bool true, .bool true, .int .i64 ↑k, .bool true, .bool true, u44, u45, .slice (some ⟨ga, oa, none⟩) n sc, .int .i64 ↑k, .pointer (some ⟨ga, oa + k * 6, none⟩), .pointer (some ⟨ga, oa + k * 6 + 1, none⟩), .agg #[.int .i64 x.k, .int .i64 x.o, .int .i64 x.n, .int .i64 x.wt, .bool x.br], v0, v1, v2, v3, v4, v5, v6, v7, v8, v9, v10, v11, v12, v13, v14, v15, v16, v17, v18, v19, v20, v21, v22, v23, v24, v25, v26, v27, v28, v29, v30, v31, v32, v33, v34, v35, v36, v37, v38, v39, v40, v41, v42, v43, v44, v45, v46, v47, v48, v49, v50, v51, v52, v53, v54, v55, v56, v57, v58, v59, .bool false, .slice (some ⟨ga, oa, none⟩) n sc, .int .i64 ↑k, .pointer (some ⟨ga, oa + k * 6, none⟩), .pointer (some ⟨ga, oa + k * 6, none⟩), .int .i64 x.t, .int .i64 ↑t, .tuple #[.int .i64 vl, .slice sn q cn, .bool true], .pointer (some ⟨wb, 0, none⟩), .slice so cl cc, .slice lo ll lc, .int .i64 ↑t, .pointer (some ⟨cb, 0, none⟩), .int .i64 x.k, .string eb, .int .i64 1, .agg #[.int .i64 x.k, .int .i64 x.o, .int .i64 x.n, .int .i64 x.wt, .bool x.br], .int .i64 av, v129, .tuple #[.int .i64 vl, .slice sn q cn, .bool true], .int .i64 vl, .slice sn q cn, .bool true, u134, u135, u136, u137, u138, u139, u140, u141, u142, u143, u144, u145, u146, u147, u148, u149, u150, u151, u152, u153, u154, u155], []⟩) (by kernel_rfl) (fun v129 => ?_)
        all_goals go_wp2_with fail
        all_goals go_meet
        all_goals exact ⟨sn, cn, og2, oc2, xs, rfl, rfl, rfl, hst2, hE2, hSm, hkA⟩
      case rest =>
        obtain ⟨sn, cn, og2, oc2, xs, rfl, rfl, rfl, hst2, hE2, hSm, hkA⟩ := hcut
        clear c0 c1 c2 c3 c4
        go_upto_region 14 with fail
        have HST2 := Lib.hid hst2
        have HE2 := Lib.hid hE2
        have HSM := Lib.hid hSm
        have HKA := Lib.hid hkA
        have hc5 := hkA.at_ HC5.out HCF.out
        have HC6 := Lib.hid hc5
        have HTH := Lib.hid hst2.th
        rw [HC12.out.1] at HTH
        clear hst2 hE2 hSm hkA hc5
        refine reg14 HTH HLN HLM HON HC6 HEX (Lib.hid ?_)
        intro sb cb2 yb v134 v135 v136 v137 v138 v139 v140 v141 w7 hty hE7 hyb hk7
        have H7 := Lib.hid (And.intro hty (And.intro hE7 (And.intro hyb hk7)))
        have HSA := Lib.hid (same13_any xs ws sn sb cn cb2 q w7 HQ.out HQ1.out HSM.out ((HE2.out.kept hk7 (Nat.le_refl _) (fun _ _ f => f)).more hk7.size) hE7)
        clear hty hE7 hyb hk7
        go_wp2_with fail
        refine HSA.out.mono ?_
        rintro e w8 ⟨rfl, hk8⟩
        have hk78 := H7.out.2.2.2.tr0 hk8
        have HT8 := Lib.hid (HTH.out.kept hk78 (fun f => f))
        have HY8 := Lib.hid (H7.out.1.kept hk8 (fun f => f))
        have HS8 := Lib.hid (HST2.out.on hk78)
        clear hk8 hk78 HSA
        go_upto_region 17 with fail
        refine reg17 HT8 HY8 HLN HLM HON (Lib.hid ?_)
        intro v155 w9 h9 hk9
        have HF : Hid (StP Y w1 ⟨wb, tb, tg, 8, 4096, 0⟩ og2 oc2 xb nx nx w9 ∧ Y.ok (k + 1) nx) := Lib.hid ⟨⟨HS8.out.rw.kept hk9 (fun q hq e => HS8.out.nx (by have e : q = xb := e; rw [← e]; exact hq)), by rw [HC12.out.2]; exact h9, HS8.out.nx, HS8.out.k.trans hk9 (fun i hi e => by have e : i = xb := e; rw [e]; exact HS8.out.lx), HS8.out.low, HS8.out.lx⟩, HOKN.out⟩
        clear h9 hk9
        go_wp2_with fail
        exact ⟨⟨k + 1, og2, oc2, nx, by go_num, by have := HK.out.2; omega, HF.out.1, HF.out.2⟩, by have := HK.out.2; simp [intOf]; omega⟩
end

end Go.Proofs.Ytofnomkedpagfaa
