/-
  From what the rows of layer 8 list to what the walks read: the table, the library's variables and its type of errors; a world that meets it; texts that came in.
  Conditions: none.
  What up comes to: the document's example.
  Conditions: what the rows list lies as the texts lay it.
-/
import Derived.Test.YtlhnbihpefgcbaaGreatDoorInsLaid
import Derived.Test.YtlhnbihpefgcbaaGreatDoorInsParse
import Derived.Test.YtlhnbihpefgcbaaGreatDoorAsmTold
import Derived.Test.YtlhnbihpefgcbaaGreatDoorLineSplit
import Derived.LaidHandle
import Derived.Test.YtlhnbihpefgcbaaGreatDoorAsmAll
import Derived.Test.YtlhnbihpefgcbaaGreatDoorAsmSame
section
namespace Go.Proofs.YtlhnbihpefgcbaaGreatDoor
open Go.RowKit

def rowLaidA : List (String × DataW Unit) := [("math/bits.deBruijn32tab", Rows.laid_math_bits_deBruijn32tab), ("math/bits.deBruijn64tab", Rows.laid_math_bits_deBruijn64tab), ("internal/strconv.uint64pow10", Rows.laid_internal_strconv_uint64pow10), ("unicode/utf8.acceptRanges", Rows.laid_unicode_utf8_acceptRanges), ("errors.errorType", Rows.laid_errors_errorType), ("strconv.ErrRange", Rows.laid_strconv_ErrRange), ("strconv.ErrSyntax", Rows.laid_strconv_ErrSyntax), ("thole/ins.shapes", Rows.laid_thole_ins_shapes), ("unicode/utf8.first", Rows.laid_unicode_utf8_first)]

theorem gHnd : Tryz.prog.globalNamed "errors.errorType" = some 0 := by kernel_rfl
theorem rtHnd : (Tryz.prog.cutTypes.find? (·.1 == "internal/reflectlite.rtype")).map (·.2) = some 107 := by kernel_rfl
theorem sizeHnd : Tryz.prog.types.size = 220 := by kernel_rfl
theorem oneHnd : ((List.range 220).filter fun t => Tryz.prog.rowNamed t [101, 114, 114, 111, 114]) = [28] := by kernel_rfl

theorem hnd_of {W : World} (h : laidMetH Tryz.prog rowLaidA W) : laidMet Tryz.prog rowLaid W ∧ HndAt W := by
  have h' : laidMet Tryz.prog rowLaid W ∧ handlesMet Tryz.prog [("errors.errorType", Rows.laid_errors_errorType)] W := h
  refine ⟨h'.1, ?_⟩
  obtain ⟨name, u, ty, e1, e2, e3, e4, e5⟩ := h'.2 _ (List.mem_singleton.2 rfl)
  have en : name = [101, 114, 114, 111, 114] := (Option.some.inj e1).symm
  subst en
  obtain rfl := Option.some.inj (rtHnd.symm.trans e2)
  have hm : ty ∈ (List.range 220).filter fun t => Tryz.prog.rowNamed t [101, 114, 114, 111, 114] := List.mem_filter.2 ⟨List.mem_range.2 (by rw [← sizeHnd]; exact e3), e4⟩
  rw [oneHnd] at hm
  obtain rfl := List.mem_singleton.1 hm
  have hh : typeHandle Tryz.prog 28 = hnd 28 := by kernel_rfl
  rw [hh] at e5
  unfold HndAt
  rw [World.var?_cell gHnd e5 0]
  rfl

/-- A world that meets it. -/
noncomputable def baseH (os : Os) : World :=
  let w0 := World.holding Tryz.prog os ⟨#[], #[], []⟩
  { w0 with heap := w0.heap.modify 0 fun
      | .cells _ t frozen => .cells #[rty 28] t frozen
      | o => o }
noncomputable def witH (os : Os) : World := (baseH os).layVars Tryz.prog rowLaid
theorem witH_os (os : Os) : (witH os).os = os := World.layVars_os _ _ _
theorem witH_met (os : Os) (args : Array Value) : laidMetH Tryz.prog rowLaidA ((witH os).forCall (fun _ _ => 0) ⟨#[], args, []⟩).memory := by
  refine laidMetH_of_parts ?_ (by kernel_rfl)
  show laidMet Tryz.prog rowLaid _
  have e1 : (rowLaid.filter fun x => (rowLaid.map (·.1)).contains x.1) = rowLaid := List.filter_eq_self.2 fun x hx => List.contains_iff_mem.2 (List.mem_map.2 ⟨x, hx, rfl⟩)
  have e2 : (rowLaid.filter fun x => !(rowLaid.map (·.1)).contains x.1) = [] := List.filter_eq_nil_iff.2 fun x hx => by rw [List.contains_iff_mem.2 (List.mem_map.2 ⟨x, hx, rfl⟩)]; simp
  have h : laidMet Tryz.prog rowLaid (witH os) := laidMet_layVars (w0 := baseH os) (rowLaid.map (·.1)) [] (by rw [e1]; rfl) (by rw [e1]; kernel_rfl) (by rw [e1]; kernel_rfl) (by rw [e2]; exact LaidIn.none)
  exact h.of_heap (by simp [World.memory, World.forCall, Input.heap])
theorem witH_shaped (os : Os) : (witH os).Shaped Tryz.prog := World.shaped_of_ZipB (by kernel_rfl) (by kernel_rfl)

/-- Texts that came in. -/
theorem strs_of {H : Type} {enc : TypeId × Value → H} {w : World} {s : Option Addr} {len cap : Nat} {d : DataW H} {p : List MemPlace} (h : DataW.Trod enc Tryz.prog w 0 (fun _ => true) true 22 (.slice s len cap) d p) :
    ∃ xs : List Str, xs.length = len ∧ Elems w w.heap.size s 1 sC xs := by
  have hC : Tryz.prog.cellsOf 9 = 1 := by kernel_rfl
  obtain ⟨xs, h1, h2, _⟩ := elems_of (f := sC) (Q := fun _ => True) Tryz.underlying22 hC (by omega) (fun k cs y hl hy => by
    match cs, hl with
    | [v], _ =>
      obtain ⟨s0, e0, _, _⟩ := DataW.trod_string Tryz.underlying9 hy
      simp only [List.cons.injEq, and_true] at e0
      subst e0
      exact ⟨bytesS s0, rfl, trivial⟩) h
  exact ⟨xs, h1, h2⟩

end Go.Proofs.YtlhnbihpefgcbaaGreatDoor
end
section
namespace Go.Proofs.YtlhnbihpefgcbaaGreatDoor
open Go.RowKit

def atextA : Str := [97, 58, 10, 106, 109, 112, 32, 97]
def atextB : Str := [106, 109, 112, 32, 98]
theorem atextA_is : asmA (textsL [atextA]) = .ok ([⟨[], 8, 0, 0, 0, 0, [97]⟩], [([97], 0)]) := by kernel_rfl
theorem atextB_is : asmA (textsL [atextB]) = .error (4, 0) := by kernel_rfl
theorem one_text (w : World) (t : Str) : Elems (w.alloc (.cells #[.string (strS t)] 9)) (w.alloc (.cells #[.string (strS t)] 9)).heap.size (some ⟨w.heap.size, 0, none⟩) 1 sC [t] := by
  have := Elems.block (f := sC) (xs := [t]) sC_one (heap_new1 w (.cells #[.string (strS t)] 9)) rfl (by show 1 ≤ maxLen; decide)
  rw [World.size_alloc]
  exact this

/-- The rows' condition, as the walks read it. -/
structure Ctx (w : World) : Prop where
  laid : Laid w
  hnd : HndAt w
theorem Ctx.on0 {w w' : World} (h : Ctx w) (hk : Kept (fun _ => False) w w') : Ctx w' := ⟨h.laid.on0 hk, h.hnd.on0 hk⟩

set_option maxRecDepth 100000 in
set_option maxHeartbeats 4000000 in
theorem upA_any (w : World) (hC : Ctx w) : Calls Tryz.prog 7 #[] w fun e w' => e = .returned (.bool true) ∧ Kept (fun _ => False) w w' := by
  have k1 : Kept (fun _ => False) w (w.alloc (.cells #[.string (strS atextA)] 9)) := (Kept.refl _ w).alloc _
  have HA := assemble_any [atextA] (some ⟨w.heap.size, 0, none⟩) 1 (w.alloc (.cells #[.string (strS atextA)] 9)) (one_text w atextA) (by decide) (hC.on0 k1).laid rfl
  rw [atextA_is] at HA
  replace HA : Hid (Calls Tryz.prog 9 #[.slice (some ⟨w.heap.size, 0, none⟩) 1 1] (w.alloc (.cells #[.string { data := #[97, 58, 10, 106, 109, 112, 32, 97] }] 9)) (AsmPTo (w.alloc (.cells #[.string (strS atextA)] 9)) (.ok ([⟨[], 8, 0, 0, 0, 0, [97]⟩], [([97], 0)])))) := Lib.hid HA
  have HC := Lib.hid hC
  have HK1 := Lib.hid k1
  have q := eql_codes
  have g2 := guard_ins
  have qi := run_eql_ins
  clear hC k1
  go_enter Tryz.func7, Tryz.ntmps7
  go_wp2_with fail
  refine HA.out.mono ?_
  rintro e w2 ⟨hk2, v, u, rfl, hT⟩
  obtain ⟨gv, cv, rfl, hgv⟩ := own_form hT.code (by simp)
  obtain ⟨gu, cu, rfl, hgu⟩ := own_form hT.labs (by simp)
  have HK2 := Lib.hid (HK1.out.trans hk2 (fun _ _ f => f))
  have hc0 : ∀ (o : Nat) x, (insC ⟨[], 8, 0, 0, 0, 0, [97]⟩)[o]? = some x → w2.cell? ⟨gv, o, none⟩ = some x := fun o x hx => by
    have h5 : o < 5 := (List.getElem?_eq_some_iff.1 hx).1
    rw [World.ownsRow.cellAt hT.code o (by simp; omega)]
    simpa [flat] using hx
  have HX := Lib.hid (fun w' (hk : Kept (fun _ => False) w2 w') => (show w'.cell? ⟨gv, 0, none⟩ = some (.int .i64 8) ∧ w'.cell? ⟨gv, 1, none⟩ = some (.int .i64 0) ∧ w'.cell? ⟨gv, 2, none⟩ = some (.int .i64 0) ∧ w'.cell? ⟨gv, 3, none⟩ = some (.int .i64 0) ∧ w'.cell? ⟨gv, 4, none⟩ = some (.int .i64 0) from
    ⟨(hk.cell (p := ⟨gv, 0, none⟩) hgv (fun f => f)).trans (hc0 0 _ rfl), (hk.cell (p := ⟨gv, 1, none⟩) hgv (fun f => f)).trans (hc0 1 _ rfl), (hk.cell (p := ⟨gv, 2, none⟩) hgv (fun f => f)).trans (hc0 2 _ rfl), (hk.cell (p := ⟨gv, 3, none⟩) hgv (fun f => f)).trans (hc0 3 _ rfl), (hk.cell (p := ⟨gv, 4, none⟩) hgv (fun f => f)).trans (hc0 4 _ rfl)⟩))
  have k3 : Kept (fun _ => False) w2 (w2.alloc (.cells #[.string (strS atextB)] 9)) := (Kept.refl _ w2).alloc _
  have HB := assemble_any [atextB] (some ⟨w2.heap.size, 0, none⟩) 1 (w2.alloc (.cells #[.string (strS atextB)] 9)) (one_text w2 atextB) (by decide) (HC.out.on0 (HK2.out.trans k3 (fun _ _ f => f))).laid rfl
  rw [atextB_is] at HB
  replace HB : Hid (Calls Tryz.prog 9 #[.slice (some ⟨w2.heap.size, 0, none⟩) 1 1] (w2.alloc (.cells #[.string { data := #[106, 109, 112, 32, 98] }] 9)) (AsmPTo (w2.alloc (.cells #[.string (strS atextB)] 9)) (.error (4, 0)))) := Lib.hid HB
  have HK3 := Lib.hid k3
  clear hk2 hT hgv hgu hc0 HA HK1 k3
  go_wp2_with fail
  refine HB.out.mono ?_
  rintro e w4 ⟨hk4, g, hg, hs, rfl⟩
  have k24 := HK3.out.trans hk4 (fun _ _ f => f)
  obtain ⟨x0, x1, x2, x3, x4⟩ := HX.out _ k24
  have HK4 := Lib.hid (HK2.out.trans k24 (fun _ _ f => f))
  have HI := Lib.hid (lawIs_any hs (HC.out.on0 HK4.out).hnd)
  clear hk4 hg hs k24 HB HX HK3
  go_wp2_with fail
  refine HI.out.mono ?_
  rintro e w5 ⟨rfl, hk5⟩
  have HF := Lib.hid (HK4.out.trans hk5 (fun _ _ f => f))
  clear hk5
  go_wp2_with fail
  go_ret
  exact ⟨by simp, HF.out⟩

end Go.Proofs.YtlhnbihpefgcbaaGreatDoor
end
