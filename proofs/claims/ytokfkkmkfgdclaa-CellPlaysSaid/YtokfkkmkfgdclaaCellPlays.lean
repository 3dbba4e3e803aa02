/-
  For every input the statement CellPlays answers true: whatever is allocated, loaded, stored and swapped, one behind the other, an arena answers as a row of cells does.
  Conditions: none.
-/
import Derived.Test.YtokfkkmkfgdclaaDeedAlloc
import Derived.WalkKit
import Derived.ProofKit
import Derived.OpenShut
import Derived.LoopTactic
import Derived.Deep.Slices
namespace Go.Proofs.Ytokfkkmkfgdclaa
namespace cellPlays
open Go.ChangeShapes Go.WideShapes Go.ChangeAt Go.RowKit
set_option linter.unusedVariables false

/-- A script's deeds, as they lie in memory. -/
def Script (w : World) (s : Option Addr) (len : Nat) : Prop :=
  len ≤ maxLen ∧ ∀ i, i < len → ∃ (g off : Nat) (t n a o v : Int), s = some ⟨g, off, none⟩ ∧ g < w.heap.size ∧ In64 t ∧ w.cell? ⟨g, off + i * 5, none⟩ = some (.int .i64 t) ∧ w.cell? ⟨g, off + (i * 5 + 1), none⟩ = some (.int .i64 n) ∧
    w.cell? ⟨g, off + (i * 5 + 2), none⟩ = some (.int .i64 a) ∧ w.cell? ⟨g, off + (i * 5 + 3), none⟩ = some (.int .i64 o) ∧ w.cell? ⟨g, off + (i * 5 + 4), none⟩ = some (.int .i64 v)

theorem Try.cells3 : Try.prog.cellsOf 3 = 1 := by kernel_rfl
theorem Try.cells2 : Try.prog.cellsOf 2 = 1 := by kernel_rfl
theorem Try.cellsDeed : Try.prog.cellsOf 37 = 5 := by kernel_rfl

theorem script_of {H : Type} {enc : TypeId × Value → H} {w : World} {s : Option Addr} {len cap : Nat} {d : DataW H} {p : List MemPlace}
    (h : DataW.Trod enc Try.prog w 0 (fun _ => true) true 31 (.slice s len cap) d p) (hlt : ∀ x ∈ p, x.block < w.heap.size) : Script w s len := by
  obtain ⟨fuel, hf⟩ := h
  rcases Go.Deep.open_slice Try.underlying31 hf with ⟨hcs, _⟩ | ⟨ad, l, c, m, n, D, Pl, hcs, _, hl, hm, hmm, _, hx⟩
  · simp [Value.cells] at hcs
    obtain ⟨rfl, rfl, rfl⟩ := hcs
    exact ⟨by simp, fun i hi => by omega⟩
  · simp [Value.cells] at hcs
    obtain ⟨rfl, rfl, rfl⟩ := hcs
    refine ⟨by omega, fun i hi => ?_⟩
    obtain ⟨cs', h1, h2⟩ := hx i (by rw [hmm]; simp; omega)
    rw [Try.cellsDeed] at h1
    obtain ⟨_, hlen, hcell⟩ := World.cells?_some h1
    obtain ⟨xs, k, _, _, _, hxl, hfld⟩ := DataW.trod_struct Try.underlying37 h2
    match cs', hlen, xs, hxl with
    | [c0, c1, c2, c3, c4], _, [y0, y1, y2, y3, y4], _ =>
      have f0 : DataW.trod enc Try.prog w 0 (fun _ => true) true k 3 (([c0, c1, c2, c3, c4].drop 0).take (Try.prog.cellsOf 3)) = some y0 := hfld 0 _ rfl
      have f1 : DataW.trod enc Try.prog w 0 (fun _ => true) true k 3 (([c0, c1, c2, c3, c4].drop 1).take (Try.prog.cellsOf 3)) = some y1 := hfld 1 _ rfl
      have f2 : DataW.trod enc Try.prog w 0 (fun _ => true) true k 2 (([c0, c1, c2, c3, c4].drop 2).take (Try.prog.cellsOf 2)) = some y2 := hfld 2 _ rfl
      have f3 : DataW.trod enc Try.prog w 0 (fun _ => true) true k 2 (([c0, c1, c2, c3, c4].drop 3).take (Try.prog.cellsOf 2)) = some y3 := hfld 3 _ rfl
      have f4 : DataW.trod enc Try.prog w 0 (fun _ => true) true k 2 (([c0, c1, c2, c3, c4].drop 4).take (Try.prog.cellsOf 2)) = some y4 := hfld 4 _ rfl
      rw [Try.cells3] at f0 f1
      rw [Try.cells2] at f2 f3 f4
      simp only [List.drop_zero, List.drop_succ_cons, List.take_succ_cons, List.take_zero] at f0 f1 f2 f3 f4
      obtain ⟨t, e0, _, wt⟩ := DataW.trod_int Try.underlying3 f0
      obtain ⟨n', e1, _, _⟩ := DataW.trod_int Try.underlying3 f1
      obtain ⟨a, e2, _, _⟩ := DataW.trod_int Try.underlying2 f2
      obtain ⟨o, e3, _, _⟩ := DataW.trod_int Try.underlying2 f3
      obtain ⟨v, e4, _, _⟩ := DataW.trod_int Try.underlying2 f4
      simp only [List.cons.injEq, and_true] at e0 e1 e2 e3 e4
      subst e0 e1 e2 e3 e4
      have g0 := hcell 0 (by omega)
      have g1 := hcell 1 (by omega)
      have g2 := hcell 2 (by omega)
      have g3 := hcell 3 (by omega)
      have g4 := hcell 4 (by omega)
      rw [Go.Deep.add_add] at g0 g1 g2 g3 g4
      obtain ⟨g, off, spot⟩ := ad
      have g0' : w.cell? ((⟨g, off, spot⟩ : Addr).add (i * 5 + 0)) = some (.int .i64 t) := g0
      have g1' : w.cell? ((⟨g, off, spot⟩ : Addr).add (i * 5 + 1)) = some (.int .i64 n') := g1
      have g2' : w.cell? ((⟨g, off, spot⟩ : Addr).add (i * 5 + 2)) = some (.int .i64 a) := g2
      have g3' : w.cell? ((⟨g, off, spot⟩ : Addr).add (i * 5 + 3)) = some (.int .i64 o) := g3
      have g4' : w.cell? ((⟨g, off, spot⟩ : Addr).add (i * 5 + 4)) = some (.int .i64 v) := g4
      have hspot : spot = none := by
        obtain ⟨cs0, h3, _⟩ := hx 0 (by rw [hmm]; simp; omega)
        rw [Try.cellsDeed] at h3
        obtain ⟨_, hl0, hc0⟩ := World.cells?_some h3
        match cs0, hl0 with
        | [d0, _, _, _, _], _ =>
          have q := hc0 0 (by omega)
          rw [Go.Deep.add_add] at q
          have q' : w.cell? ((⟨g, off, spot⟩ : Addr).add 0) = some d0 := by simpa using q
          simpa [Addr.add] using World.cell?_spot q'
      subst hspot
      rw [Addr.add_lit] at g0' g1' g2' g3' g4'
      exact ⟨g, off, t, n', a, o, v, rfl, World.block_lt_of_cell? w _ g0', ⟨(bounds_i64 wt).1, (bounds_i64 wt).2⟩, g0', g1', g2', g3', g4'⟩

theorem walk (a0 : Int) (s : Option Addr) (len cap : Nat) (w : World) (w0 : (Lit.int .i64 a0).wf = true) (hs : Script w s len) :
    Calls Try.prog 4 #[.int .i64 a0, .slice s len cap] w fun e w' => e = .returned (.bool true) ∧ Below w.heap.size w w' := by
  have b0 := bounds_i64 w0
  obtain ⟨hlen, hsc⟩ := hs
  unfold maxLen at hlen
  have HS := Lib.hid hsc
  clear hsc w0
  go_enter Try.func4, Try.ntmps4
  go_wp2_with fail
  refine (up_any _).mono ?_
  rintro e w1 ⟨rfl, hk⟩
  go_wp2_with fail
  refine (pick_any a0 4096 _ (by omega) (by omega) (by omega) (by omega)).mono ?_
  rintro e w2 ⟨rfl, rfl⟩
  have hp := pickF_in a0 4096 (by omega)
  generalize pickF a0 4096 = p0 at *
  go_wp2_with fail
  refine (one_new (1 + p0) w _ hk (by omega) (by omega)).mono ?_
  rintro e w2 ⟨rfl, hO⟩
  generalize w1.heap.size = b at *
  clear hk
  go_wp2_with fail
  have hP0 := Play.begin hO
  clear hO
  go_loopw [8, 9] (fun l i wr => ∃ (k : Nat) (ao : Option Addr) (c : Nat) (zs : List Int), i = .int .i64 k ∧ l = .slice ao zs.length c ∧ k ≤ len ∧ k ≤ 100 ∧ (zs.length : Int) ≤ 1 + p0 ∧ Play w wr b (1 + p0) zs ao c zs) (fun _ i _ => 100 - (intOf i).toNat)
  case atStart => exact ⟨0, none, 0, [], rfl, rfl, by omega, by omega, by simp; omega, hP0⟩
  case round =>
    clear hP0
    obtain ⟨k, ao, c, zs, rfl, rfl, hk1, hk2, hz, hP⟩ := hrel
    by_cases hk3 : k < len
    · by_cases hk4 : k < 100
      · have hk5 : (k : Int) < 100 := by omega
        obtain ⟨g, off, t, n, a, o, v, rfl, hg, ht, c0, c1, c2, c3, c4⟩ := HS.out k hk3
        have hb := hP.one.below
        rw [← Nat.add_assoc] at c1 c2 c3 c4
        rw [← hb.cell (p := ⟨g, off + k * 5, none⟩) hg] at c0
        rw [← hb.cell (p := ⟨g, off + k * 5 + 1, none⟩) hg] at c1
        rw [← hb.cell (p := ⟨g, off + k * 5 + 2, none⟩) hg] at c2
        rw [← hb.cell (p := ⟨g, off + k * 5 + 3, none⟩) hg] at c3
        rw [← hb.cell (p := ⟨g, off + k * 5 + 4, none⟩) hg] at c4
        have HB := Lib.hid hb; clear hb
        go_wp2_with fail
        refine (deed_any (t := t) (n := n) (a := a) (o := o) (v := v) hP (by omega) (by omega) hz ht).mono ?_
        rintro e w3 ⟨ao', c', zs', rfl, hz', hP'⟩
        clear hP HB c0 c1 c2 c3 c4 hz
        go_wp2_with fail
        refine (one_len hP'.one).mono ?_
        rintro e w4 ⟨rfl, rfl⟩
        go_wp2_with fail
        go_roundw
        case rel => exact ⟨k + 1, ao', c', zs', by go_num, rfl, by omega, by omega, hz', hP'⟩
        case measure => simp [intOf]; omega
      · have hk5 : ¬ ((k : Int) < 100) := by omega
        go_wp2_with fail
        go_ret
        exact ⟨rfl, hP.one.below⟩
    · go_wp2_with fail
      go_ret
      exact ⟨rfl, hP.one.below⟩

theorem own : ownKnob Try.prog.godebug = none := by kernel_rfl
theorem laidOut : laidOutB Try.prog = true := by kernel_rfl

set_option maxRecDepth 100000 in
theorem lifted (os : Os) (started : os.Started) (H : Type) (enc : TypeId × Value → H) :
    ReturnsInHanded {} Try.checked os 4 .any (Rows.cellPlaysSpec.pre6 enc Try.prog Try.f4 Rows.cellPlaysRow.domain false) (Rows.cellPlaysSpec.post enc Try.prog Try.f4 false true false false) := by
  refine returnsInHanded_of_change (C := Try.checked) own started (by kernel_rfl) Try.func4
    (ChangeSpec.witness6 (enc := enc) (C := Try.checked) false ⟨#[], #[.int .i64 0, .slice none 0 0], []⟩ 8 (by kernel_rfl) (by kernel_rfl) (by kernel_rfl) (by kernel_rfl)) ?_
  intro W base args ds gs before hval0 hW hcnd _
  have hval : ∀ (j : Nat) t v, Try.f4.params[j]? = some t → args[j]? = some v → Value.okWide Try.prog W .any base t v := hval0
  have hW' := hW
  obtain ⟨p, q, hA0, hV, rfl, hfz, hnd⟩ := hW
  have hA : DataW.TrodAll enc Try.prog W 0 (fun _ => true) true Try.f4.params.toList args.toList ds p := hA0
  rw [Try.params4] at hA hval
  obtain ⟨v0, vs0, d0, ds0, p0, q0, hargs, rfl, rfl, h0, r0⟩ := trodAll_cons hA
  obtain ⟨v1, vs1, d1, ds1, p1, q1, rfl, rfl, rfl, h1, r1⟩ := trodAll_cons r0
  obtain ⟨rfl, rfl, rfl⟩ := trodAll_nil r1
  obtain rfl : args = #[v0, v1] := by cases args; simp_all
  obtain ⟨rfl, rfl⟩ := trodVars_none hV
  obtain ⟨a0, rfl, rfl, rfl, w0⟩ := open_int Try.underlying3 (hval 0 3 v0 rfl rfl) h0
  have k1 := h1
  have lt1 : ∀ x ∈ p1, x.block < W.heap.size := by obtain ⟨m, hm⟩ := k1; exact DataW.trod_lt m _ _ _ hm
  obtain ⟨s1, len1, cap1, rfl⟩ := okWide_slice Try.underlying31 (hval 1 31 v1 rfl rfl)
  clear hA0 hval0
  refine (walk a0 s1 len1 cap1 W w0 (script_of k1 lt1)).mono fun e W' ⟨he, bel⟩ => ?_
  subst he
  exact ⟨_, rfl, _, _, _, [], _, [], hW', trodAll_mk1 (shut_bool Try.underlying4 _), (trodAll_cons_mk (shut_int Try.underlying3 w0) (trodAll_cons_mk (Below.trod laidOut (by kernel_rfl) (of_decide_eq_true (by kernel_rfl)) k1 bel lt1) trodAll_mk0)), rfl, bel.frame _, fun h => by cases h⟩

theorem over : Rows.cellPlaysRow.holds Try.pinned (OpenSpec.ofChange Rows.cellPlaysSpec) :=
  OpenClaim.holds_of_wide 4 Try.f4 rfl rfl rfl rfl rfl rfl rfl ⟨rfl, rfl, rfl, rfl, rfl⟩ rfl rfl rfl rfl rfl (by kernel_rfl) Try.func4 (by kernel_rfl)
    (of_decide_eq_true (by kernel_rfl)) (by unfold Func.isWrapper; first | (rw [if_pos (by decide +kernel)]; kernel_rfl) | (rw [if_neg (by decide +kernel)]; exact ⟨rfl, rfl⟩))
    (fun os started H enc _ => lifted os started H enc)

end cellPlays
/-- The statement. -/
theorem cellPlays_holds : Rows.CellPlaysSaid := cellPlays.over
end Go.Proofs.Ytokfkkmkfgdclaa
