/-
  For every input the statement ProgFewer answers true: a script that may be may be with fewer picks, and with fewer calls; what is handed in stays.
  Conditions: none.
-/
import Derived.Test.YtgdagmiiobbeeaaScriptUp
import Derived.Test.YtgdagmiiobbeeaaCopy
import Derived.Test.YtgdagmiiobbeeaaSame
import Derived.Test.YtgdagmiiobbeeaaCut
import Derived.WalkKit
import Derived.ProofKit
import Derived.OpenShut
import Derived.StillTailTactics
namespace Go.Proofs.Ytgdagmiiobbeeaa
namespace progFewer
open Go.ChangeShapes Go.WideShapes Go.ChangeAt Go.RowKit
set_option linter.unusedVariables false

@[reducible] def scCells (x : Sc) : Array Value := #[.slice x.os x.obs.length x.oc, .slice x.ps x.prs.length x.pc, .slice x.ks x.pis.length x.kc]

set_option maxHeartbeats 4000000 in
set_option maxRecDepth 100000 in
theorem walk (x : Sc) (a1 a2 : Int) (w1 : (Lit.int .i64 a1).wf = true) (w2 : (Lit.int .i64 a2).wf = true) (w : World) (hx : Lies w w.heap.size x) :
    Calls Try.prog 5 #[x.agg, .int .i64 a1, .int .i64 a2] w fun e w' => e = .returned (.bool true) ∧ Below w.heap.size w w' := by
  clear w1 w2
  have h1 : Lies (w.alloc (.cells #[.slice x.os x.obs.length x.oc, .slice x.ps x.prs.length x.pc, .slice x.ks x.pis.length x.kc] 26)) w.heap.size x := hx.kept ((Kept.refl (fun _ => False) w).alloc _) (Nat.le_refl _) (fun _ _ f => f)
  have hBB : w.heap.size ≤ (w.alloc (.cells #[.slice x.os x.obs.length x.oc, .slice x.ps x.prs.length x.pc, .slice x.ks x.pis.length x.kc] 26)).heap.size := by simp
  have hk0 : Kept (fun _ => False) w (w.alloc (.cells #[.slice x.os x.obs.length x.oc, .slice x.ps x.prs.length x.pc, .slice x.ks x.pis.length x.kc] 26)) := (Kept.refl _ w).alloc _
  have HX := Lib.hid h1
  have HB := Lib.hid hBB
  have HK0 := Lib.hid hk0
  clear h1 hBB hk0 hx
  have hbel : ∀ w', Kept (fun _ => False) w w' → Below w.heap.size w w' := fun w' h => h.below (Nat.le_refl _) (fun _ f => f.elim)
  have HBEL := Lib.hid hbel; clear hbel
  cases hf : fewF x
  · have HF := Lib.hid hf; clear hf
    go_enter Try.func5, Try.ntmps5
    go_wp2_with fail
    refine (progUp_any _).mono ?_
    rintro e wA ⟨rfl, hk1⟩
    obtain ⟨p0, p1, p2⟩ := box3 hk1
    have HK1 := Lib.hid hk1; clear hk1
    go_wp2_with fail
    refine (few_any (HX.out.kept HK1.out HB.out (fun _ _ f => f)) (Nat.le_trans HB.out HK1.out.size) _ HF.out).mono ?_
    rintro e wB ⟨rfl, hk2⟩
    go_wp2_with fail
    go_ret
    exact ⟨rfl, HBEL.out _ ((HK0.out.trans HK1.out (fun _ _ f => f)).trans hk2 (fun _ _ f => f))⟩
  have HF := Lib.hid hf; clear hf
  by_cases n1 : a1 < 0
  · go_enter Try.func5, Try.ntmps5
    go_wp2_with fail
    refine (progUp_any _).mono ?_
    rintro e wA ⟨rfl, hk1⟩
    obtain ⟨p0, p1, p2⟩ := box3 hk1
    have HK1 := Lib.hid hk1; clear hk1
    go_wp2_with fail
    refine (few_any (HX.out.kept HK1.out HB.out (fun _ _ f => f)) (Nat.le_trans HB.out HK1.out.size) _ HF.out).mono ?_
    rintro e wB ⟨rfl, hk2⟩
    go_wp2_with fail
    go_ret
    exact ⟨rfl, HBEL.out _ ((HK0.out.trans HK1.out (fun _ _ f => f)).trans hk2 (fun _ _ f => f))⟩
  obtain ⟨m1, rfl⟩ : ∃ m : Nat, a1 = m := ⟨a1.toNat, by omega⟩
  have n1' : decide ((m1 : Int) < 0) = false := decide_eq_false (by omega)
  clear n1
  by_cases n2 : a2 < 0
  · go_enter Try.func5, Try.ntmps5
    go_wp2_with fail
    refine (progUp_any _).mono ?_
    rintro e wA ⟨rfl, hk1⟩
    obtain ⟨p0, p1, p2⟩ := box3 hk1
    have HK1 := Lib.hid hk1; clear hk1
    go_wp2_with fail
    refine (few_any (HX.out.kept HK1.out HB.out (fun _ _ f => f)) (Nat.le_trans HB.out HK1.out.size) _ HF.out).mono ?_
    rintro e wB ⟨rfl, hk2⟩
    go_wp2_with fail
    go_ret
    exact ⟨rfl, HBEL.out _ ((HK0.out.trans HK1.out (fun _ _ f => f)).trans hk2 (fun _ _ f => f))⟩
  obtain ⟨m2, rfl⟩ : ∃ m : Nat, a2 = m := ⟨a2.toNat, by omega⟩
  have n2' : decide ((m2 : Int) < 0) = false := decide_eq_false (by omega)
  clear n2
  go_enter Try.func5, Try.ntmps5
  go_wp2_with fail
  refine (progUp_any _).mono ?_
  rintro e wA ⟨rfl, hk1⟩
  obtain ⟨p0, p1, p2⟩ := box3 hk1
  have HK1 := Lib.hid hk1; clear hk1
  go_wp2_with fail
  refine (few_any (HX.out.kept HK1.out HB.out (fun _ _ f => f)) (Nat.le_trans HB.out HK1.out.size) _ HF.out).mono ?_
  rintro e wB ⟨rfl, hk2⟩
  have HK2 := Lib.hid (HK1.out.trans hk2 (fun _ _ f => f)); clear hk2
  obtain ⟨q0, q1, q2⟩ := box3 HK2.out
  go_wp2_with fail
  refine (copy_any ((HX.out.kept HK2.out HB.out (fun _ _ f => f)).more (Nat.le_trans HB.out HK2.out.size)) HF.out).mono ?_
  rintro e wC ⟨y, rfl, hy1, hy2, hy3, hown, hk3⟩
  clear n1' n2' p0 p1 p2 q0 q1 q2
  have hW : w.heap.size ≤ wB.heap.size := Nat.le_trans HB.out HK2.out.size
  have HK3 := Lib.hid (HK2.out.trans hk3 (fun _ _ f => f)); clear hk3
  have hv := hown.var (.cells #[.slice y.os y.obs.length y.oc, .slice y.ps y.prs.length y.pc, .slice y.ks y.pis.length y.kc] 26)
  have HV := Lib.hid hv
  have hbB : w.heap.size ≤ wC.heap.size := Nat.le_trans HB.out HK3.out.size
  have HBL := Lib.hid (heap_alloc_new wC (.cells #[.slice y.os y.obs.length y.oc, .slice y.ps y.prs.length y.pc, .slice y.ks y.pis.length y.kc] 26))
  have HKV := Lib.hid (HK3.out.alloc (.cells #[.slice y.os y.obs.length y.oc, .slice y.ps y.prs.length y.pc, .slice y.ks y.pis.length y.kc] 26))
  have HY1 := Lib.hid hy1
  have HY2 := Lib.hid hy2
  have HY3 := Lib.hid hy3
  have HWW := Lib.hid hW
  clear hy1 hy2 hy3 hown hv hW
  have hres : Calls Try.prog 10 #[y.agg] (wC.alloc (.cells #[.slice y.os y.obs.length y.oc, .slice y.ps y.prs.length y.pc, .slice y.ks y.pis.length y.kc] 26)) fun e w' => ((largeF y = false ∧ goodF y = true ∧ e = .returned .nilIface) ∨ ∃ c, e = .returned (.iface 42 (.int .i64 c))) ∧ Kept (fun _ => False) (wC.alloc (.cells #[.slice y.os y.obs.length y.oc, .slice y.ps y.prs.length y.pc, .slice y.ks y.pis.length y.kc] 26)) w' := by
    cases hl : largeF y
    · cases hg : goodF y
      · exact (check_small HV.out.lies (Nat.le_refl _) hl _ hg).mono fun e w' h => ⟨.inr ⟨1, h.1⟩, h.2⟩
      · exact (check_small HV.out.lies (Nat.le_refl _) hl _ hg).mono fun e w' h => ⟨.inl ⟨rfl, rfl, h.1⟩, h.2⟩
    · exact (check_large HV.out.lies (Nat.le_refl _) hl).mono fun e w' h => ⟨.inr ⟨8, h.1⟩, h.2⟩
  have HRES := Lib.hid hres; clear hres
  go_wp2_with fail
  refine HRES.out.mono ?_
  rintro e wD ⟨hcase, hk4⟩
  have HK4 := Lib.hid hk4; clear hk4
  have hblD := (HK4.out.block wC.heap.size (by simp) (fun f => f)).trans HBL.out
  have HBLD := Lib.hid hblD
  have c0 : wD.cell? ⟨wC.heap.size, 0, none⟩ = some (.slice y.os y.obs.length y.oc) := by rw [cell_at wD _ 0 _ _ hblD]; rfl
  have c1 : wD.cell? ⟨wC.heap.size, 1, none⟩ = some (.slice y.ps y.prs.length y.pc) := by rw [cell_at wD _ 1 _ _ hblD]; rfl
  have c2 : wD.cell? ⟨wC.heap.size, 2, none⟩ = some (.slice y.ks y.pis.length y.kc) := by rw [cell_at wD _ 2 _ _ hblD]; rfl
  clear hblD
  obtain ⟨p0, p1, p2⟩ := box3 (HKV.out.trans HK4.out (fun _ _ f => f))
  have hVD := HV.out.kept HK4.out (fun _ f => f.elim)
  have hxD := HX.out.kept (HKV.out.trans HK4.out (fun _ _ f => f)) HB.out (fun _ _ f => f)
  have hzD : wC.heap.size + 1 ≤ wD.heap.size := by have := HK4.out.size; rwa [World.size_alloc] at this
  have HSM := Lib.hid (same_any (hxD.more (show w.heap.size ≤ wD.heap.size by omega)) hVD.lies (Nat.le_refl _) HY1.out HY2.out HY3.out)
  have HVD := Lib.hid hVD
  clear hVD hxD
  have HKD := Lib.hid ((HK0.out.trans HKV.out (fun _ _ f => f)).trans HK4.out (fun _ _ f => f))
  rcases hcase with ⟨hl, hg, rfl⟩ | ⟨c, rfl⟩
  case inr =>
    go_wp2_with fail
    refine (HSM.out).mono ?_
    rintro e wE ⟨rfl, hk5⟩
    go_wp2_with fail
    go_ret
    exact ⟨rfl, HBEL.out _ (HKD.out.trans hk5 (fun _ _ f => f))⟩
  have HL := Lib.hid hl; clear hl
  have HG := Lib.hid hg; clear hg
  go_wp2_with fail
  refine (HSM.out).mono ?_
  rintro e wE ⟨rfl, hk5⟩
  have HKE := Lib.hid (HKD.out.trans hk5 (fun _ _ f => f))
  have HVE := Lib.hid (HVD.out.kept hk5 (fun _ f => f.elim))
  have hblE := (hk5.block wC.heap.size (by omega) (fun f => f)).trans HBLD.out
  have hzE : wC.heap.size < wE.heap.size := (Array.getElem?_eq_some_iff.1 hblE).1
  have c0' : wE.cell? ⟨wC.heap.size, 0, none⟩ = some (.slice y.os y.obs.length y.oc) := by rw [cell_at wE _ 0 _ _ hblE]; rfl
  have c1' : wE.cell? ⟨wC.heap.size, 1, none⟩ = some (.slice y.ps y.prs.length y.pc) := by rw [cell_at wE _ 1 _ _ hblE]; rfl
  have c2' : wE.cell? ⟨wC.heap.size, 2, none⟩ = some (.slice y.ks y.pis.length y.kc) := by rw [cell_at wE _ 2 _ _ hblE]; rfl
  have f2' := frozen_at wE wC.heap.size 2 _ _ hblE
  have HBLE := Lib.hid hblE
  clear hblE hk5 c0 c1 c2 p0 p1 p2 HK4 HKD HSM HKV HRES HV HVD
  generalize wC.heap.size = b at *
  by_cases hp : m1 < y.pis.length
  · have hp1 : (m1 : Int) < (y.pis.length : Int) := by omega
    have hp0 : (0 : Int) ≤ (m1 : Int) := by omega
    have hpc : (m1 : Int) ≤ (y.kc : Int) := by have := HVE.out.pis.1.cap; omega
    have hl1 : (y.pis.take m1).length = m1 := by rw [List.length_take]; omega
    have hkS : Kept (fun g => g = b) wE (wE.setCell ⟨b, 2, none⟩ (.slice y.ks m1 y.kc)) := (Kept.refl (fun g => g = b) wE).setCell _ _ (fun _ => rfl)
    have hst : ∃ z : Sc, (wE.setCell ⟨b, 2, none⟩ (.slice y.ks m1 y.kc)).heap[b]? = some (.cells #[.slice z.os z.obs.length z.oc, .slice z.ps z.prs.length z.pc, .slice z.ks z.pis.length z.kc] 26 (0, 0)) ∧ z.obs = y.obs ∧ z.pis = y.pis.take m1 ∧ z.prs.map Pr.ops = ((y.prs.map Pr.ops).take 0).map (List.take m2) ++ (y.prs.map Pr.ops).drop 0 ∧ Owned wB.heap.size (fun g => g = b) (wE.setCell ⟨b, 2, none⟩ (.slice y.ks m1 y.kc)) z ∧ Kept (fun _ => False) w (wE.setCell ⟨b, 2, none⟩ (.slice y.ks m1 y.kc)) :=
      ⟨{ y with pis := y.pis.take m1 }, by
        rw [set_block HBLE.out]
        show _ = some (Obj.cells #[_, _, .slice _ (y.pis.take m1).length _] _ _)
        rw [hl1]; rfl, rfl, rfl, by simp, (HVE.out.picks m1).kept hkS (fun _ e => e), HKE.out.trans hkS (fun i hi e => by omega)⟩
    have HST := Lib.hid hst
    clear hst hkS hl1 hp
    go_wp2_with fail
    clear hp1 hp0 hpc
    have hpl : y.prs.length ≤ 9223372036854775807 := by have := HVE.out.few; unfold maxLen at this; exact this
    clear HVE HBLE HKE c0' c1' c2' f2'
    go_loopw [11] (fun i wr => ∃ k : Nat, i = .int .i64 k ∧ k ≤ y.prs.length ∧ ∃ z : Sc, wr.heap[b]? = some (.cells #[.slice z.os z.obs.length z.oc, .slice z.ps z.prs.length z.pc, .slice z.ks z.pis.length z.kc] 26 (0, 0)) ∧ z.obs = y.obs ∧ z.pis = y.pis.take m1 ∧ z.prs.map Pr.ops = ((y.prs.map Pr.ops).take k).map (List.take m2) ++ (y.prs.map Pr.ops).drop k ∧ Owned wB.heap.size (fun g => g = b) wr z ∧ Kept (fun _ => False) w wr) (fun i _ => y.prs.length - (intOf i).toNat)
    case atStart => exact ⟨0, rfl, by omega, HST.out⟩
    case round =>
      clear HST
      obtain ⟨k, rfl, hk1, z, hblk, hz1, hz2, hz3, hown, hkept⟩ := hrel
      have hzl : z.prs.length = y.prs.length := by have := congrArg List.length hz3; simp only [List.length_map, List.length_append, List.length_take, List.length_drop] at this; omega
      have hzb : b < wr.heap.size := (Array.getElem?_eq_some_iff.1 hblk).1
      have c0 : wr.cell? ⟨b, 0, none⟩ = some (.slice z.os z.obs.length z.oc) := by rw [cell_at wr b 0 _ _ hblk]; rfl
      have c1 : wr.cell? ⟨b, 1, none⟩ = some (.slice z.ps z.prs.length z.pc) := by rw [cell_at wr b 1 _ _ hblk]; rfl
      have c2 : wr.cell? ⟨b, 2, none⟩ = some (.slice z.ks z.pis.length z.kc) := by rw [cell_at wr b 2 _ _ hblk]; rfl
      have HZL := Lib.hid hzl; clear hzl
      have HBK := Lib.hid hblk; clear hblk
      have HZ1 := Lib.hid hz1; clear hz1
      have HZ2 := Lib.hid hz2; clear hz2
      have HZ3 := Lib.hid hz3; clear hz3
      have HOW := Lib.hid hown; clear hown
      have HK := Lib.hid hkept; clear hkept
      by_cases hkk : k < z.prs.length
      · obtain ⟨p, hp⟩ : ∃ p, z.prs[k]? = some p := ⟨_, List.getElem?_eq_getElem hkk⟩
        obtain ⟨g, cap, hform, _, hgl⟩ := World.ownsRow.form HOW.out.own (by omega)
        obtain ⟨zos, zoc, zobs, zps, zpc, zprs, zks, zkc, zpis⟩ := z
        simp only [Value.slice.injEq, true_and] at hform
        obtain ⟨rfl, rfl⟩ := hform
        have hkk' : k < zprs.length := hkk
        have hkl : k < y.prs.length := by have h : zprs.length = y.prs.length := HZL.out; omega
        have hR : Row wr g zpc 38 1 Pr.cells zprs := ownsRow_base HOW.out.own
        have hgb : b ≠ g := fun e => HOW.out.off g rfl e.symm
        have d0 : wr.cell? ⟨g, k, none⟩ = some (.slice p.s p.ops.length p.cap) := by
          have h := hR.cell Pr.one (i := k) (j := 0) (x := p) (v := .slice p.s p.ops.length p.cap) hp rfl
          rwa [Nat.mul_one, Nat.add_zero] at h
        have df := hR.free k
        have hcap : p.ops.length ≤ p.cap := (HOW.out.ops p (List.mem_of_getElem? hp)).1.cap
        have hpx : (y.prs.map Pr.ops)[k]? = some p.ops := by
          have h := congrArg (fun l => l[k]?) HZ3.out
          have h2 : (zprs.map Pr.ops)[k]? = some p.ops := by rw [List.getElem?_map, hp]; rfl
          obtain ⟨o, ho⟩ : ∃ o, (y.prs.map Pr.ops)[k]? = some o := ⟨_, List.getElem?_eq_getElem (by rw [List.length_map]; exact hkl)⟩
          have h3 := cut_at (c := m2) ho
          have h4 : (zprs.map Pr.ops)[k]? = (((y.prs.map Pr.ops).take k).map (List.take m2) ++ (y.prs.map Pr.ops).drop k)[k]? := h
          rw [h2, h3] at h4
          rw [ho, ← h4]
        have HPX := Lib.hid hpx; clear hpx
        have HP := Lib.hid hp; clear hp
        have k0 : (0 : Int) ≤ (k : Int) := by omega
        have k1 : (k : Int) < (zprs.length : Int) := by omega
        by_cases hc : m2 < p.ops.length
        · have hc1 : (m2 : Int) < (p.ops.length : Int) := by omega
          have hc0 : (0 : Int) ≤ (m2 : Int) := by omega
          have hc2 : (m2 : Int) ≤ (p.cap : Int) := by omega
          have hl2 : (p.ops.take m2).length = m2 := by rw [List.length_take]; omega
          have howD : Owned wB.heap.size (fun g => g = b) wr.drew (⟨zos, zoc, zobs, some ⟨g, 0, none⟩, zpc, zprs, zks, zkc, zpis⟩ : Sc) := HOW.out.kept (Kept.refl (fun _ => False) wr).drew (fun _ f => f.elim)
          have hcal := howD.calls rfl HP.out m2
          rw [hl2] at hcal
          have hkS : Kept (fun q => q = g) wr (wr.drew.setCell ⟨g, k, none⟩ (.slice p.s m2 p.cap)) := (Kept.refl (fun q => q = g) wr).drew.setCell _ _ (fun _ => rfl)
          have hbl2 := (hkS.block b hzb hgb).trans HBK.out
          have hmap : (zprs.set k ⟨p.s, p.cap, p.ops.take m2⟩).map Pr.ops = ((y.prs.map Pr.ops).take (k + 1)).map (List.take m2) ++ (y.prs.map Pr.ops).drop (k + 1) := by
            have h : zprs.map Pr.ops = _ := HZ3.out
            rw [List.map_set, h]; exact cut_next HPX.out
          have hgw : w.heap.size ≤ g := by have := (World.ownsRow.lt HOW.out.own g rfl).1; have := HWW.out; omega
          have hfin : ∃ k' : Nat, Value.int .i64 ((k : Int) + 1) = .int .i64 k' ∧ k' ≤ y.prs.length ∧ ∃ z : Sc, (wr.drew.setCell ⟨g, k, none⟩ (.slice p.s m2 p.cap)).heap[b]? = some (.cells #[.slice z.os z.obs.length z.oc, .slice z.ps z.prs.length z.pc, .slice z.ks z.pis.length z.kc] 26 (0, 0)) ∧ z.obs = y.obs ∧ z.pis = y.pis.take m1 ∧ z.prs.map Pr.ops = ((y.prs.map Pr.ops).take k').map (List.take m2) ++ (y.prs.map Pr.ops).drop k' ∧ Owned wB.heap.size (fun g => g = b) (wr.drew.setCell ⟨g, k, none⟩ (.slice p.s m2 p.cap)) z ∧ Kept (fun _ => False) w (wr.drew.setCell ⟨g, k, none⟩ (.slice p.s m2 p.cap)) :=
            ⟨k + 1, by go_num, by omega, ⟨zos, zoc, zobs, some ⟨g, 0, none⟩, zpc, zprs.set k ⟨p.s, p.cap, p.ops.take m2⟩, zks, zkc, zpis⟩, by
              rw [hbl2]
              show _ = some (Obj.cells #[_, .slice _ (zprs.set k ⟨p.s, p.cap, p.ops.take m2⟩).length _, _] _ _)
              rw [List.length_set], HZ1.out, HZ2.out, hmap, hcal, HK.out.trans hkS (fun i hi e => by omega)⟩
          have HFIN := Lib.hid hfin
          clear hfin hmap hbl2 hkS hcal howD hR hc
          go_wp2_with fail
          go_still_tail 11, (by kernel_rfl)
          change wpList _ _ _ _ _ wr.drew
          go_wp2_with fail
          go_roundw
          case rel => first | exact HFIN.out | ((repeat apply Exists.intro); exact ⟨HFIN.out, rfl⟩)
          case measure => simp [intOf]; omega
        · have hc1 : ¬ ((m2 : Int) < (p.ops.length : Int)) := by omega
          have hfin : ∃ k' : Nat, Value.int .i64 ((k : Int) + 1) = .int .i64 k' ∧ k' ≤ y.prs.length ∧ ∃ z : Sc, wr.heap[b]? = some (.cells #[.slice z.os z.obs.length z.oc, .slice z.ps z.prs.length z.pc, .slice z.ks z.pis.length z.kc] 26 (0, 0)) ∧ z.obs = y.obs ∧ z.pis = y.pis.take m1 ∧ z.prs.map Pr.ops = ((y.prs.map Pr.ops).take k').map (List.take m2) ++ (y.prs.map Pr.ops).drop k' ∧ Owned wB.heap.size (fun g => g = b) wr z ∧ Kept (fun _ => False) w wr :=
            ⟨k + 1, by go_num, by omega, ⟨zos, zoc, zobs, some ⟨g, 0, none⟩, zpc, zprs, zks, zkc, zpis⟩, HBK.out, HZ1.out, HZ2.out, HZ3.out.trans (cut_same HPX.out (by omega)), HOW.out, HK.out⟩
          have HFIN := Lib.hid hfin
          clear hfin hR hc
          go_wp2_with fail
          go_roundw
          case rel => first | exact HFIN.out | ((repeat apply Exists.intro); exact ⟨HFIN.out, rfl⟩)
          case measure => simp [intOf]; omega
      · have hall : z.prs.map Pr.ops = (y.prs.map Pr.ops).map (List.take m2) := by
          have h := HZ3.out
          have h2 := HZL.out
          rw [List.take_of_length_le (by rw [List.length_map]; omega), List.drop_of_length_le (by rw [List.length_map]; omega), List.append_nil] at h
          exact h
        have hck := check_small HOW.out.lies (Nat.le_refl _) (large_less HZ1.out HZ2.out hall HL.out) true (good_less HZ1.out HZ2.out hall HG.out)
        have HCK := Lib.hid hck
        clear hck hall
        go_wp2_with fail
        refine (HCK.out).mono ?_
        rintro e wF ⟨rfl, hkF⟩
        go_wp2_with fail
        go_ret
        exact ⟨rfl, HBEL.out _ (HK.out.trans hkF (fun _ _ f => f))⟩
  · have hp1 : ¬ ((m1 : Int) < (y.pis.length : Int)) := by omega
    have hst : ∃ z : Sc, wE.heap[b]? = some (.cells #[.slice z.os z.obs.length z.oc, .slice z.ps z.prs.length z.pc, .slice z.ks z.pis.length z.kc] 26 (0, 0)) ∧ z.obs = y.obs ∧ z.pis = y.pis.take m1 ∧ z.prs.map Pr.ops = ((y.prs.map Pr.ops).take 0).map (List.take m2) ++ (y.prs.map Pr.ops).drop 0 ∧ Owned wB.heap.size (fun g => g = b) wE z ∧ Kept (fun _ => False) w wE := ⟨y, HBLE.out, rfl, (List.take_of_length_le (by omega)).symm, by simp, HVE.out, HKE.out⟩
    have HST := Lib.hid hst
    have hp2 : decide (m1 < y.pis.length) = false := decide_eq_false hp
    clear hst
    go_wp2_with fail
    clear hp1 hp hp2
    have hpl : y.prs.length ≤ 9223372036854775807 := by have := HVE.out.few; unfold maxLen at this; exact this
    clear HVE HBLE HKE c0' c1' c2' f2'
    go_loopw [11] (fun i wr => ∃ k : Nat, i = .int .i64 k ∧ k ≤ y.prs.length ∧ ∃ z : Sc, wr.heap[b]? = some (.cells #[.slice z.os z.obs.length z.oc, .slice z.ps z.prs.length z.pc, .slice z.ks z.pis.length z.kc] 26 (0, 0)) ∧ z.obs = y.obs ∧ z.pis = y.pis.take m1 ∧ z.prs.map Pr.ops = ((y.prs.map Pr.ops).take k).map (List.take m2) ++ (y.prs.map Pr.ops).drop k ∧ Owned wB.heap.size (fun g => g = b) wr z ∧ Kept (fun _ => False) w wr) (fun i _ => y.prs.length - (intOf i).toNat)
    case atStart => exact ⟨0, rfl, by omega, HST.out⟩
    case round =>
      clear HST
      obtain ⟨k, rfl, hk1, z, hblk, hz1, hz2, hz3, hown, hkept⟩ := hrel
      have hzl : z.prs.length = y.prs.length := by have := congrArg List.length hz3; simp only [List.length_map, List.length_append, List.length_take, List.length_drop] at this; omega
      have hzb : b < wr.heap.size := (Array.getElem?_eq_some_iff.1 hblk).1
      have c0 : wr.cell? ⟨b, 0, none⟩ = some (.slice z.os z.obs.length z.oc) := by rw [cell_at wr b 0 _ _ hblk]; rfl
      have c1 : wr.cell? ⟨b, 1, none⟩ = some (.slice z.ps z.prs.length z.pc) := by rw [cell_at wr b 1 _ _ hblk]; rfl
      have c2 : wr.cell? ⟨b, 2, none⟩ = some (.slice z.ks z.pis.length z.kc) := by rw [cell_at wr b 2 _ _ hblk]; rfl
      have HZL := Lib.hid hzl; clear hzl
      have HBK := Lib.hid hblk; clear hblk
      have HZ1 := Lib.hid hz1; clear hz1
      have HZ2 := Lib.hid hz2; clear hz2
      have HZ3 := Lib.hid hz3; clear hz3
      have HOW := Lib.hid hown; clear hown
      have HK := Lib.hid hkept; clear hkept
      by_cases hkk : k < z.prs.length
      · obtain ⟨p, hp⟩ : ∃ p, z.prs[k]? = some p := ⟨_, List.getElem?_eq_getElem hkk⟩
        obtain ⟨g, cap, hform, _, hgl⟩ := World.ownsRow.form HOW.out.own (by omega)
        obtain ⟨zos, zoc, zobs, zps, zpc, zprs, zks, zkc, zpis⟩ := z
        simp only [Value.slice.injEq, true_and] at hform
        obtain ⟨rfl, rfl⟩ := hform
        have hkk' : k < zprs.length := hkk
        have hkl : k < y.prs.length := by have h : zprs.length = y.prs.length := HZL.out; omega
        have hR : Row wr g zpc 38 1 Pr.cells zprs := ownsRow_base HOW.out.own
        have hgb : b ≠ g := fun e => HOW.out.off g rfl e.symm
        have d0 : wr.cell? ⟨g, k, none⟩ = some (.slice p.s p.ops.length p.cap) := by
          have h := hR.cell Pr.one (i := k) (j := 0) (x := p) (v := .slice p.s p.ops.length p.cap) hp rfl
          rwa [Nat.mul_one, Nat.add_zero] at h
        have df := hR.free k
        have hcap : p.ops.length ≤ p.cap := (HOW.out.ops p (List.mem_of_getElem? hp)).1.cap
        have hpx : (y.prs.map Pr.ops)[k]? = some p.ops := by
          have h := congrArg (fun l => l[k]?) HZ3.out
          have h2 : (zprs.map Pr.ops)[k]? = some p.ops := by rw [List.getElem?_map, hp]; rfl
          obtain ⟨o, ho⟩ : ∃ o, (y.prs.map Pr.ops)[k]? = some o := ⟨_, List.getElem?_eq_getElem (by rw [List.length_map]; exact hkl)⟩
          have h3 := cut_at (c := m2) ho
          have h4 : (zprs.map Pr.ops)[k]? = (((y.prs.map Pr.ops).take k).map (List.take m2) ++ (y.prs.map Pr.ops).drop k)[k]? := h
          rw [h2, h3] at h4
          rw [ho, ← h4]
        have HPX := Lib.hid hpx; clear hpx
        have HP := Lib.hid hp; clear hp
        have k0 : (0 : Int) ≤ (k : Int) := by omega
        have k1 : (k : Int) < (zprs.length : Int) := by omega
        by_cases hc : m2 < p.ops.length
        · have hc1 : (m2 : Int) < (p.ops.length : Int) := by omega
          have hc0 : (0 : Int) ≤ (m2 : Int) := by omega
          have hc2 : (m2 : Int) ≤ (p.cap : Int) := by omega
          have hl2 : (p.ops.take m2).length = m2 := by rw [List.length_take]; omega
          have howD : Owned wB.heap.size (fun g => g = b) wr.drew (⟨zos, zoc, zobs, some ⟨g, 0, none⟩, zpc, zprs, zks, zkc, zpis⟩ : Sc) := HOW.out.kept (Kept.refl (fun _ => False) wr).drew (fun _ f => f.elim)
          have hcal := howD.calls rfl HP.out m2
          rw [hl2] at hcal
          have hkS : Kept (fun q => q = g) wr (wr.drew.setCell ⟨g, k, none⟩ (.slice p.s m2 p.cap)) := (Kept.refl (fun q => q = g) wr).drew.setCell _ _ (fun _ => rfl)
          have hbl2 := (hkS.block b hzb hgb).trans HBK.out
          have hmap : (zprs.set k ⟨p.s, p.cap, p.ops.take m2⟩).map Pr.ops = ((y.prs.map Pr.ops).take (k + 1)).map (List.take m2) ++ (y.prs.map Pr.ops).drop (k + 1) := by
            have h : zprs.map Pr.ops = _ := HZ3.out
            rw [List.map_set, h]; exact cut_next HPX.out
          have hgw : w.heap.size ≤ g := by have := (World.ownsRow.lt HOW.out.own g rfl).1; have := HWW.out; omega
          have hfin : ∃ k' : Nat, Value.int .i64 ((k : Int) + 1) = .int .i64 k' ∧ k' ≤ y.prs.length ∧ ∃ z : Sc, (wr.drew.setCell ⟨g, k, none⟩ (.slice p.s m2 p.cap)).heap[b]? = some (.cells #[.slice z.os z.obs.length z.oc, .slice z.ps z.prs.length z.pc, .slice z.ks z.pis.length z.kc] 26 (0, 0)) ∧ z.obs = y.obs ∧ z.pis = y.pis.take m1 ∧ z.prs.map Pr.ops = ((y.prs.map Pr.ops).take k').map (List.take m2) ++ (y.prs.map Pr.ops).drop k' ∧ Owned wB.heap.size (fun g => g = b) (wr.drew.setCell ⟨g, k, none⟩ (.slice p.s m2 p.cap)) z ∧ Kept (fun _ => False) w (wr.drew.setCell ⟨g, k, none⟩ (.slice p.s m2 p.cap)) :=
            ⟨k + 1, by go_num, by omega, ⟨zos, zoc, zobs, some ⟨g, 0, none⟩, zpc, zprs.set k ⟨p.s, p.cap, p.ops.take m2⟩, zks, zkc, zpis⟩, by
              rw [hbl2]
              show _ = some (Obj.cells #[_, .slice _ (zprs.set k ⟨p.s, p.cap, p.ops.take m2⟩).length _, _] _ _)
              rw [List.length_set], HZ1.out, HZ2.out, hmap, hcal, HK.out.trans hkS (fun i hi e => by omega)⟩
          have HFIN := Lib.hid hfin
          clear hfin hmap hbl2 hkS hcal howD hR hc
          go_wp2_with fail
          go_still_tail 11, (by kernel_rfl)
          change wpList _ _ _ _ _ wr.drew
          go_wp2_with fail
          go_roundw
          case rel => first | exact HFIN.out | ((repeat apply Exists.intro); exact ⟨HFIN.out, rfl⟩)
          case measure => simp [intOf]; omega
        · have hc1 : ¬ ((m2 : Int) < (p.ops.length : Int)) := by omega
          have hfin : ∃ k' : Nat, Value.int .i64 ((k : Int) + 1) = .int .i64 k' ∧ k' ≤ y.prs.length ∧ ∃ z : Sc, wr.heap[b]? = some (.cells #[.slice z.os z.obs.length z.oc, .slice z.ps z.prs.length z.pc, .slice z.ks z.pis.length z.kc] 26 (0, 0)) ∧ z.obs = y.obs ∧ z.pis = y.pis.take m1 ∧ z.prs.map Pr.ops = ((y.prs.map Pr.ops).take k').map (List.take m2) ++ (y.prs.map Pr.ops).drop k' ∧ Owned wB.heap.size (fun g => g = b) wr z ∧ Kept (fun _ => False) w wr :=
            ⟨k + 1, by go_num, by omega, ⟨zos, zoc, zobs, some ⟨g, 0, none⟩, zpc, zprs, zks, zkc, zpis⟩, HBK.out, HZ1.out, HZ2.out, HZ3.out.trans (cut_same HPX.out (by omega)), HOW.out, HK.out⟩
          have HFIN := Lib.hid hfin
          clear hfin hR hc
          go_wp2_with fail
          go_roundw
          case rel => first | exact HFIN.out | ((repeat apply Exists.intro); exact ⟨HFIN.out, rfl⟩)
          case measure => simp [intOf]; omega
      · have hall : z.prs.map Pr.ops = (y.prs.map Pr.ops).map (List.take m2) := by
          have h := HZ3.out
          have h2 := HZL.out
          rw [List.take_of_length_le (by rw [List.length_map]; omega), List.drop_of_length_le (by rw [List.length_map]; omega), List.append_nil] at h
          exact h
        have hck := check_small HOW.out.lies (Nat.le_refl _) (large_less HZ1.out HZ2.out hall HL.out) true (good_less HZ1.out HZ2.out hall HG.out)
        have HCK := Lib.hid hck
        clear hck hall
        go_wp2_with fail
        refine (HCK.out).mono ?_
        rintro e wF ⟨rfl, hkF⟩
        go_wp2_with fail
        go_ret
        exact ⟨rfl, HBEL.out _ (HK.out.trans hkF (fun _ _ f => f))⟩

theorem own : ownKnob Try.prog.godebug = none := by kernel_rfl
theorem laidOut : laidOutB Try.prog = true := by kernel_rfl

set_option maxRecDepth 100000 in
theorem lifted (os : Os) (started : os.Started) (H : Type) (enc : TypeId × Value → H) :
    ReturnsInHanded {} Try.checked os 5 .any (Rows.progFewerSpec.pre6 enc Try.prog Try.f5 Rows.progFewerRow.domain false) (Rows.progFewerSpec.post enc Try.prog Try.f5 false true false false) := by
  refine returnsInHanded_of_change (C := Try.checked) own started (by kernel_rfl) Try.func5
    (ChangeSpec.witness6 (enc := enc) (C := Try.checked) false ⟨#[], #[.agg #[.slice none 0 0, .slice none 0 0, .slice none 0 0], .int .i64 0, .int .i64 0], []⟩ 8 (by kernel_rfl) (by kernel_rfl) (by kernel_rfl) (by kernel_rfl)) ?_
  intro W base args ds gs before hval0 hW hcnd _
  have hval : ∀ (j : Nat) t v, Try.f5.params[j]? = some t → args[j]? = some v → Value.okWide Try.prog W .any base t v := hval0
  have hW' := hW
  obtain ⟨p, q, hA0, hV, rfl, hfz, hnd⟩ := hW
  have hA : DataW.TrodAll enc Try.prog W 0 (fun _ => true) true Try.f5.params.toList args.toList ds p := hA0
  rw [Try.params5] at hA hval
  obtain ⟨v0, vs0, d0, ds0, p0, q0, hargs, rfl, rfl, h0, r0⟩ := trodAll_cons hA
  obtain ⟨v1, vs1, d1, ds1, p1, q1, rfl, rfl, rfl, h1, r1⟩ := trodAll_cons r0
  obtain ⟨v2, vs2, d2, ds2, p2, q2, rfl, rfl, rfl, h2, r2⟩ := trodAll_cons r1
  obtain ⟨rfl, rfl, rfl⟩ := trodAll_nil r2
  obtain rfl : args = #[v0, v1, v2] := by cases args; simp_all
  obtain ⟨rfl, rfl⟩ := trodVars_none hV
  have k0 := h0
  have lt0 : ∀ x ∈ p0, x.block < W.heap.size := by obtain ⟨m, hm⟩ := k0; exact DataW.trod_lt m _ _ _ hm
  obtain ⟨x0, rfl, hx0⟩ := sc_of (okWide_struct Try.underlying26 (hval 0 26 v0 rfl rfl)) k0
  obtain ⟨a1, rfl, rfl, rfl, w1⟩ := open_int Try.underlying3 (hval 1 3 v1 rfl rfl) h1
  obtain ⟨a2, rfl, rfl, rfl, w2⟩ := open_int Try.underlying3 (hval 2 3 v2 rfl rfl) h2
  clear hA0 hval0
  refine (walk x0 a1 a2 w1 w2 W hx0).mono fun e W' ⟨he, bel⟩ => ?_
  subst he
  exact ⟨_, rfl, _, _, _, [], _, [], hW', trodAll_mk1 (shut_bool Try.underlying4 _), (trodAll_cons_mk (Below.trod laidOut (by kernel_rfl) (of_decide_eq_true (by kernel_rfl)) k0 bel lt0) (trodAll_cons_mk (shut_int Try.underlying3 w1) (trodAll_cons_mk (shut_int Try.underlying3 w2) trodAll_mk0))), rfl, bel.frame _, fun h => by cases h⟩

theorem over : Rows.progFewerRow.holds Try.pinned (OpenSpec.ofChange Rows.progFewerSpec) :=
  OpenClaim.holds_of_wide 5 Try.f5 rfl rfl rfl rfl rfl rfl rfl ⟨rfl, rfl, rfl, rfl, rfl⟩ rfl rfl rfl rfl rfl (by kernel_rfl) Try.func5 (by kernel_rfl)
    (of_decide_eq_true (by kernel_rfl)) (by unfold Func.isWrapper; first | (rw [if_pos (by decide +kernel)]; kernel_rfl) | (rw [if_neg (by decide +kernel)]; exact ⟨rfl, rfl⟩))
    (fun os started H enc _ => lifted os started H enc)

end progFewer
/-- The statement. -/
theorem progFewer_holds : Rows.ProgFewerSaid := progFewer.over
end Go.Proofs.Ytgdagmiiobbeeaa
