/-
  A step of the document's machine in memory: frames copied, marks, where all lies within a step.
  Conditions: none; these are lemmas for the walk.
-/
import Derived.Test.YtofnomkedpagfaaMachAny
import Derived.Test.YtofnomkedpagfaaRefMayAll
import Derived.Test.YtofnomkedpagfaaRowOwn
namespace Go.Proofs.Ytofnomkedpagfaa
open Go.RowKit
set_option linter.unusedVariables false

theorem info_fr : (Try.prog.info? 72).map (fun i => (i.zero, i.size, i.bytes)) = some (some (.agg #[.int .i64 0, .int .i64 0, .int .i64 0, .int .i64 0, .int .i64 0, .int .i64 0, .int .i64 0, .int .i64 0, .int .i64 0, .int .i64 0, .int .i64 0, .int .i64 0, .int .i64 0, .int .i64 0, .int .i64 0, .int .i64 0, .int .i64 0]), 17, 136) := by kernel_rfl
theorem info_nt : (Try.prog.info? 77).map (fun i => (i.zero, i.size, i.bytes)) = some (some (.agg #[.int .i64 0, .int .i64 0]), 2, 16) := by kernel_rfl
theorem frs_one (fs : List Fr) : ∀ u ∈ flat Fr.cells fs, u.oneCell' = true := by
  intro u hu
  simp only [flat, List.mem_flatMap] at hu
  obtain ⟨f, _, hf⟩ := hu
  exact fr_one f u hf
theorem nts_one (fs : List Nt) : ∀ u ∈ flat Nt.cells fs, u.oneCell' = true := by
  intro u hu
  simp only [flat, List.mem_flatMap] at hu
  obtain ⟨f, _, hf⟩ := hu
  exact nt_one f u hf

/-- A copy in memory of its own; all else as it was. -/
def CopiedTo (w : World) (fs : List Fr) (n : Nat) (e : Ending) (w' : World) : Prop :=
  ∃ g' c', e = .returned (.slice (some ⟨g', 0, none⟩) n c') ∧ w.heap.size ≤ g' ∧ Row w' g' c' 72 17 Fr.cells fs ∧ Kept (fun _ => False) w w'
set_option maxRecDepth 100000 in
theorem copied_any (sl : Option Addr) (cap : Nat) (fs : List Fr) (n : Nat) (hn : fs.length = n) (w : World) (h1 : 1 ≤ n) (hl : n ≤ 16) (hE : Elems w w.heap.size sl 17 Fr.cells fs) :
    Calls Try.prog 34 #[.slice sl n cap] w (CopiedTo w fs n) := by
  obtain ⟨i0, hi, hz0, hz1, hz2⟩ := info_parts info_fr
  have HE := Lib.hid (hE.kept ((Kept.refl (fun _ => False) w).alloc (.cells #[] 72)) (Nat.le_refl _) (fun _ _ f => f))
  have HN := Lib.hid hn; clear hn
  have HI := Lib.hid hi; clear hi
  have HZ0 := Lib.hid hz0; clear hz0
  have HZ1 := Lib.hid hz1; clear hz1
  have HZ2 := Lib.hid hz2; clear hz2
  clear hE
  go_enter Try.func34, Try.ntmps34
  go_wp2_with (at_builtin; refine wpList_append_elems (ys := fs) _ rfl (.tmp 3) (.tmp 4) 73 rfl w.heap.size 72 i0 (.agg #[.int .i64 0, .int .i64 0, .int .i64 0, .int .i64 0, .int .i64 0, .int .i64 0, .int .i64 0, .int .i64 0, .int .i64 0, .int .i64 0, .int .i64 0, .int .i64 0, .int .i64 0, .int .i64 0, .int .i64 0, .int .i64 0, .int .i64 0]) 17 136 Try.underlying73 HI.out HZ0.out HZ1.out HZ2.out rfl (by decide) Fr.len (frs_one fs) _ 0 [] rfl (World.ownsRow_made w #[] 0 (Nat.le_refl _) (Nat.zero_le _) rfl) w.heap.size sl cap ?c0 HE.out ?c1 ?c2 ?c3 ?_)
  case c0 => rw [HN.out]; rfl
  case c1 => rw [HN.out]; unfold maxLen; omega
  case c2 => rw [HN.out]; omega
  case c3 => simp
  intro v' w1 hown' hgrow _
  have hk : Kept (fun _ => False) w w1 := ((Kept.refl _ w).alloc (.cells #[] 72)).grown hgrow (fun k hk e => by simp [Value.ownBlock] at e; omega)
  have hh : CopiedTo w fs n (.returned v') w1 := by
    rw [HN.out] at hown'
    rcases hown'.2 with ⟨rfl, h0⟩ | ⟨g', cap', cur, rfl, hb, hrest⟩
    · omega
    · exact ⟨g', cap', by simp, hb, Row.made HN.out.symm ⟨by simpa using hown'.1, .inr ⟨g', cap', cur, by simp, Nat.zero_le _, by simpa using hrest⟩⟩, hk⟩
  have HH := Lib.hid hh; clear hh hk hgrow hown'
  go_wp2_with fail
  go_ret
  exact HH.out

/-- The code, in a block that isn't the world's. -/
def CodeR (so : Option Addr) (code : List Ix) (P : Wp) (og : Nat) (w : World) : Prop :=
  code.length ≤ 1000000 ∧ ∀ i x, code[i]? = some x → ∃ g off, so = some ⟨g, off, none⟩ ∧ g < w.heap.size ∧ ¬ P.foot og g ∧ w.rangeAt g (off + i * 5) x.cells
theorem CodeR.kept {so : Option Addr} {code : List Ix} {P : Wp} {og og' : Nat} {S : Nat → Prop} {w w' : World} (h : CodeR so code P og w) (hk : Kept S w w') (hS : ∀ g, g < w.heap.size → S g → P.foot og g) (ho : ∀ g, g < w.heap.size → P.foot og' g → P.foot og g) : CodeR so code P og' w' :=
  ⟨h.1, fun i x hi => by
    obtain ⟨g, off, e, hg, h0, hx⟩ := h.2 i x hi
    exact ⟨g, off, e, Nat.lt_of_lt_of_le hg hk.size, fun hf => h0 (ho g hg hf), fun j v hj => (hk.cell (p := ⟨g, off + i * 5 + j, none⟩) hg (fun hs => h0 (hS g hg hs))).trans (hx j v hj)⟩⟩

/-- How it stands within a step. -/
structure StIn (w0 : World) (P : Wp) (og0 og oc fg fc : Nat) (nv : Value) (u : Ms) (wr : World) : Prop where
  rw : RW P og oc u.zs u.ps wr
  fr : Row wr fg fc 72 17 Fr.cells (u.bs ++ [u.f])
  nt : wr.ownsRow w0.heap.size 77 2 nv u.ns.length (flat Nt.cells u.ns)
  nf : w0.heap.size ≤ fg
  no : og = og0 ∨ w0.heap.size ≤ og
  d1 : fg ≠ og
  d2 : ∀ g, nv.ownBlock = some g → g ≠ fg ∧ g ≠ og
  k : Kept (P.foot og0) w0 wr
  low : ∀ q, P.foot og0 q → q < w0.heap.size
section
variable {w0 wr w' : World} {P : Wp} {og0 og oc fg fc : Nat} {nv : Value} {u : Ms}
theorem StIn.kept0 (h : StIn w0 P og0 og oc fg fc nv u wr) (hk : Kept (fun _ => False) wr w') : StIn w0 P og0 og oc fg fc nv u w' :=
  ⟨h.rw.kept0 hk, h.fr.kept hk (fun f => f), by
    refine ⟨h.nt.1, ?_⟩
    rcases h.nt.2 with hn | ⟨g, cap, cur, rfl, hb, hg, hrest⟩
    · exact .inl hn
    · exact .inr ⟨g, cap, cur, rfl, hb, hk.at0 hg, hrest⟩, h.nf, h.no, h.d1, h.d2, h.k.trans hk (fun _ _ f => f.elim), h.low⟩
theorem StIn.f_at (_h : StIn w0 P og0 og oc fg fc nv u wr) : (u.bs ++ [u.f])[u.bs.length]? = some u.f := by simp
theorem StIn.pcAt (h : StIn w0 P og0 og oc fg fc nv u wr) : wr.cell? ⟨fg, u.bs.length * 17, none⟩ = some (.int .i64 u.f.pc) := by
  have := h.fr.cell Fr.len h.f_at (j := 0) (v := .int .i64 u.f.pc) rfl
  rwa [Nat.add_zero] at this
theorem StIn.foot_new (h : StIn w0 P og0 og oc fg fc nv u wr) {q : Nat} (hq : P.foot og q) : q < w0.heap.size → P.foot og0 q := by
  intro hl
  rcases hq with hq | rfl | hq | hq
  · exact .inl hq
  · rcases h.no with e | e
    · exact .inr (.inl e)
    · omega
  · exact .inr (.inr (.inl hq))
  · exact .inr (.inr (.inr hq))
theorem StIn.fg_far (h : StIn w0 P og0 og oc fg fc nv u wr) : ¬ P.foot og fg := fun hq => by
  have := h.nf
  rcases hq with e | e | e | e
  · have := h.low _ (.inl rfl); omega
  · exact h.d1 e
  · have := h.low _ (.inr (.inr (.inl rfl))); omega
  · have := h.low _ (.inr (.inr (.inr rfl))); omega
theorem own_kept {S : Nat → Prop} {w w' : World} {base : Nat} {e : TypeId} {size : Nat} {v : Value} {n : Nat} {xs : List Value} (h : w.ownsRow base e size v n xs) (hk : Kept S w w') (hg : ∀ g, v.ownBlock = some g → ¬ S g) : w'.ownsRow base e size v n xs := by
  refine ⟨h.1, ?_⟩
  rcases h.2 with hn | ⟨g, cap, cur, rfl, hbg, hgg, rest⟩
  · exact .inl hn
  · exact .inr ⟨g, cap, cur, rfl, hbg, (hk.block g (Array.getElem?_eq_some_iff.1 hgg).1 (hg g rfl)).trans hgg, rest⟩
/-- Where the marks' row doesn't lie. -/
theorem StIn.nt_far (h : StIn w0 P og0 og oc fg fc nv u wr) {g : Nat} (hg : nv.ownBlock = some g) : ¬ P.foot og g ∧ g ≠ fg := by
  have h1 := (World.ownsRow.lt h.nt g hg).1
  refine ⟨fun hq => ?_, (h.d2 g hg).1⟩
  rcases hq with e | e | e | e
  · have := h.low _ (.inl rfl); omega
  · exact (h.d2 g hg).2 e
  · have := h.low _ (.inr (.inr (.inl rfl))); omega
  · have := h.low _ (.inr (.inr (.inr rfl))); omega
end

/-- What a step leaves. -/
def StepTo (P : Wp) (og0 : Nat) (w : World) (r : Int × Int × Ms) (e : Ending) (w' : World) : Prop :=
  ∃ fg fc nv og' oc', e = .returned (.tuple #[.slice (some ⟨fg, 0, none⟩) (r.2.2.bs.length + 1) fc, nv, .int .i64 r.1, .int .i64 r.2.1]) ∧ StIn w P og0 og' oc' fg fc nv r.2.2 w'

end Go.Proofs.Ytofnomkedpagfaa
