/-
  A line that came in; from what the row lists to what the walks read.
  Conditions: none.
-/
import Derived.Test.YtibgkhfadlgonaaGreatDoorInsSame
import Derived.Test.YtibgkhfadlgonaaGreatDoorInsUp
import Derived.Test.YtibgkhfadlgonaaGreatDoorInsLaid
namespace Go.Proofs.YtibgkhfadlgonaaGreatDoor
open Go.RowKit

theorem i64_wf {n : Int} (h : (Lit.int .i64 n).wf = true) : -9223372036854775808 ≤ n ∧ n ≤ 9223372036854775807 := by
  simpa [Lit.wf, IntKind.min, IntKind.max, IntKind.signed, IntKind.bits] using h

/-- A line within what values are. -/
structure LnOk (x : Ln) : Prop where
  label : x.label.length ≤ maxLen
  target : x.target.length ≤ maxLen
  op : -9223372036854775808 ≤ x.op ∧ x.op ≤ 9223372036854775807

section
variable {H : Type} {enc : TypeId × Value → H} {w : World}
set_option maxRecDepth 100000 in
theorem ln_of {v : Value} {d : DataW H} {p : List MemPlace} (hv : ∃ cs : Array Value, v = .agg cs ∧ cs.size = Tryz.prog.cellsOf 25)
    (h : DataW.Trod enc Tryz.prog w 0 (fun _ => true) true 25 v d p) : ∃ x : Ln, v = lineV x ∧ LnOk x := by
  have cL : Tryz.prog.cellsOf 25 = 7 := by kernel_rfl
  have cI : Tryz.prog.cellsOf 23 = 5 := by kernel_rfl
  have cS : Tryz.prog.cellsOf 9 = 1 := by kernel_rfl
  have c3 : Tryz.prog.cellsOf 3 = 1 := by kernel_rfl
  have c2 : Tryz.prog.cellsOf 2 = 1 := by kernel_rfl
  obtain ⟨⟨cs⟩, rfl, hs⟩ := hv
  rw [cL] at hs
  obtain ⟨k, hk⟩ := h
  obtain ⟨ys, k', _, _, _, hyl, hfld⟩ := DataW.trod_struct Tryz.underlying25 hk
  match cs, hs, ys, hyl with
  | [q0, q1, q2, q3, q4, q5, q6], _, [y0, y1, y2], _ =>
    have f0 : DataW.trod enc Tryz.prog w 0 (fun _ => true) true k' 9 (([q0, q1, q2, q3, q4, q5, q6].drop 0).take (Tryz.prog.cellsOf 9)) = some y0 := hfld 0 _ rfl
    have f1 : DataW.trod enc Tryz.prog w 0 (fun _ => true) true k' 23 (([q0, q1, q2, q3, q4, q5, q6].drop 1).take (Tryz.prog.cellsOf 23)) = some y1 := hfld 1 _ rfl
    have f2 : DataW.trod enc Tryz.prog w 0 (fun _ => true) true k' 9 (([q0, q1, q2, q3, q4, q5, q6].drop 6).take (Tryz.prog.cellsOf 9)) = some y2 := hfld 2 _ rfl
    rw [cS] at f0 f2
    rw [cI] at f1
    simp only [List.drop_zero, List.drop_succ_cons, List.take_succ_cons, List.take_zero] at f0 f1 f2
    obtain ⟨s0, e0, _, m0⟩ := DataW.trod_string Tryz.underlying9 f0
    obtain ⟨s2, e2, _, m2⟩ := DataW.trod_string Tryz.underlying9 f2
    obtain ⟨zs, k2, _, _, _, hzl, hf⟩ := DataW.trod_struct Tryz.underlying23 f1
    match zs, hzl with
    | [z0, z1, z2, z3, z4], _ =>
      have g0 : DataW.trod enc Tryz.prog w 0 (fun _ => true) true k2 3 (([q1, q2, q3, q4, q5].drop 0).take (Tryz.prog.cellsOf 3)) = some z0 := hf 0 _ rfl
      have g1 : DataW.trod enc Tryz.prog w 0 (fun _ => true) true k2 3 (([q1, q2, q3, q4, q5].drop 1).take (Tryz.prog.cellsOf 3)) = some z1 := hf 1 _ rfl
      have g2 : DataW.trod enc Tryz.prog w 0 (fun _ => true) true k2 3 (([q1, q2, q3, q4, q5].drop 2).take (Tryz.prog.cellsOf 3)) = some z2 := hf 2 _ rfl
      have g3 : DataW.trod enc Tryz.prog w 0 (fun _ => true) true k2 3 (([q1, q2, q3, q4, q5].drop 3).take (Tryz.prog.cellsOf 3)) = some z3 := hf 3 _ rfl
      have g4 : DataW.trod enc Tryz.prog w 0 (fun _ => true) true k2 2 (([q1, q2, q3, q4, q5].drop 4).take (Tryz.prog.cellsOf 2)) = some z4 := hf 4 _ rfl
      rw [c3] at g0 g1 g2 g3
      rw [c2] at g4
      simp only [List.drop_zero, List.drop_succ_cons, List.take_succ_cons, List.take_zero] at g0 g1 g2 g3 g4
      obtain ⟨n0, r0, _, b0⟩ := DataW.trod_int Tryz.underlying3 g0
      obtain ⟨n1, r1, _, _⟩ := DataW.trod_int Tryz.underlying3 g1
      obtain ⟨n2, r2, _, _⟩ := DataW.trod_int Tryz.underlying3 g2
      obtain ⟨n3, r3, _, _⟩ := DataW.trod_int Tryz.underlying3 g3
      obtain ⟨n4, r4, _, _⟩ := DataW.trod_int Tryz.underlying2 g4
      simp only [List.cons.injEq, and_true] at e0 e2 r0 r1 r2 r3 r4
      subst e0 e2 r0 r1 r2 r3 r4
      refine ⟨⟨bytesS s0, n0, n1, n2, n3, n4, bytesS s2⟩, rfl, ?_, ?_, i64_wf b0⟩
      · show (bytesS s0).length ≤ maxLen
        rw [bytesS_len]; exact m0
      · show (bytesS s2).length ≤ maxLen
        rw [bytesS_len]; exact m2
end

theorem laidP_of {W : World} (hL : laidMet Tryz.prog rowLaid W) (hsh : W.ShapedOpen Tryz.prog) : LaidP W := by
  have hpow : Lib.TabIs Tryz.prog W "internal/strconv.uint64pow10" .u64 Lib.pow10Tab := by
    obtain ⟨g, t, cs, fuel, p, hg, hty, hvar, hd⟩ := Lib.laidMet.reads hL (n := "internal/strconv.uint64pow10") (d := Rows.laid_internal_strconv_uint64pow10) (.tail _ (.tail _ (.head _)))
    obtain rfl := Option.some.inj (gPow.symm.trans hg)
    have hy : (Tryz.prog.globals[3]?).map (·.type) = some 116 := by kernel_rfl
    obtain rfl := Option.some.inj (hy.symm.trans hty)
    have hcs := Lib.cells_of_tab (k := .u64) (zs := Lib.pow10Tab) Tryz.underlying116 Tryz.underlying99 (by kernel_rfl) (by kernel_rfl) hd
    unfold Lib.TabIs
    rw [hvar, ← hcs]
  refine ⟨laid_of hL hsh, ?_, hpow⟩
  have := Lib.TabIs.cell hpow gPow 0 (by decide)
  exact cell_lt this

/-- What was printed. -/
theorem printed_is {x : Ln} {s : Str} (h : printP x = some s) : fitsL x = true ∧ s = printL x := by
  rw [print_same] at h
  cases hf : fitsL x
  · rw [hf, if_neg (by simp)] at h; cases h
  · rw [hf, if_pos rfl] at h
    exact ⟨rfl, (Option.some.inj h).symm⟩
theorem fits_may {x : Ln} (h : fitsL x = true) : x.op = 0 ∨ mayP x.op x.a x.b x.c x.n = true := by
  rw [may_same]
  unfold fitsL at h
  split at h
  · rename_i hl
    left
    simp only [Bool.and_eq_true, decide_eq_true_eq] at h
    have := congrArg Ln.op h.2
    exact this
  · split at h
    · rename_i h0; exact .inl h0
    · right
      simp only [Bool.and_eq_true] at h
      exact h.1

end Go.Proofs.YtibgkhfadlgonaaGreatDoor
