/-
  What holds ahead of each step of the statement MicroOne.
  Conditions: none.
-/
import Derived.Test.YtdkableaooaebaaDoorMicUp
import Derived.Test.YtdkableaooaebaaDoorMicCell
import Derived.Test.YtdkableaooaebaaDoorMicIn
namespace Go.Proofs.YtdkableaooaebaaDoor
open Go.RowKit
set_option linter.unusedVariables false

/-- An arena, a table of one thread that isn't blocked, and its frames. -/
def OneAt (W : World) (ab tb tg tc : Nat) (l : Value) (wr : World) : Prop :=
  ∃ fg fc m og zs ps bs f p, l = .slice (some ⟨fg, 0, none⟩) m fc ∧ m = List.length bs + 1 ∧ Sys W.heap.size wr ab tb tg tc og zs ps ∧ Kept (fun _ => False) W wr ∧ Row wr fg fc 60 17 Fr.cells (bs ++ [f]) ∧ bs.length ≤ 15 ∧ zs.length ≤ 4096 ∧ ps[0]? = some p ∧ p.blocked = false

/-- What a step leaves. -/
def OneTo (W : World) (ab tb tg tc : Nat) (zs : List Int) (b : Nat) (ogb : Option Nat) (e : Ending) (w' : World) : Prop :=
  ∃ fg fc no nn nc how val m og zs', e = .returned (.tuple #[.slice (some ⟨fg, 0, none⟩) m fc, .slice no nn nc, .int .i64 how, .int .i64 val, .nilIface]) ∧ (how = 0 → OneAt W ab tb tg tc (.slice (some ⟨fg, 0, none⟩) m fc) w') ∧ Kept (fun _ => False) W w' ∧
    Arena w' b ogb 4096 zs ∧ Arena w' ab og 4096 zs' ∧ OneCell zs zs'

theorem one_step {W wr wb : World} {ab tb tg tc fg fc m b cc : Nat} {og ogb : Option Nat} {zs : List Int} {ps : List Pk} {bs : List Fr} {f : Fr} {p : Pk} {code : List Ix} {so : Option Addr} (hm : m = bs.length + 1)
    (hs : Sys W.heap.size wr ab tb tg tc og zs ps) (hk : Kept (fun _ => False) W wr) (hR : Row wr fg fc 60 17 Fr.cells (bs ++ [f])) (hb : bs.length ≤ 15) (hz : zs.length ≤ 4096) (hp : ps[0]? = some p) (hpb : p.blocked = false)
    (hL : Laid W) (hx : Elems W W.heap.size so 5 Ix.cells code) (hcl : code.length ≤ 1000000000) (hcw : ∀ x ∈ code, x.wide)
    (hkb : Kept (fun _ => False) wr wb) (hA : Arena wb b ogb 4096 zs) (hbn : wr.heap.size ≤ b) (hgn : ∀ g, ogb = some g → wr.heap.size ≤ g) :
    Calls Tryd.prog 12 #[.slice so code.length cc, .pointer (some ⟨ab, 0, none⟩), .pointer (some ⟨tb, 0, none⟩), .int .i64 0, .slice (some ⟨fg, 0, none⟩) m fc] wb (OneTo W ab tb tg tc zs b ogb) := by
  have hkk := hk.trans hkb (fun _ _ f => f)
  have hsb := hs.kept0 hkb
  have hE : Elems wb W.heap.size so 5 Ix.cells code := hx.kept hkk (Nat.le_refl _) (fun _ _ f => f)
  have hst := sys_step (cc := cc) (self := 0) hsb hkk hL hp hpb hz (hR.kept hkb (fun f => f)) hb (code_came hE hkk.size hsb.new) hcl hcw
  rw [← hm] at hst
  have hone := step_one code 4096 0 0 ⟨zs, ps, bs, f, []⟩
  have hfine := step_fine (L := ⟨0, 0, 0, 0, 0, none, 0, code, 4096, 0, 0⟩) (s := ⟨zs, ps, bs, f, []⟩) ⟨⟨show (0 : Int) ≤ 4096 by decide, show (4096 : Int) ≤ 4096 by decide⟩, by show (zs.length : Int) ≤ 4096; omega, ⟨p, hp, hpb⟩, hb, Nat.le_refl _, by decide, hcl⟩
  dsimp only at hone hfine
  generalize stepM code 4096 0 0 ⟨zs, ps, bs, f, []⟩ = r at hst hone hfine
  obtain ⟨how, val, s'⟩ := r
  refine hst.mono ?_
  rintro e w' ⟨fg', fc', no, nc, og', rfl, haf⟩
  refine ⟨fg', fc', no, _, nc, how, val, _, og', s'.zs, rfl, fun h0 => ?_, haf.keeps hsb hkk, ?_, haf.ar, hone⟩
  · obtain ⟨d', hF⟩ := hfine h0
    obtain ⟨p', hp', hpb'⟩ := hF.thr
    have hzs := hF.zs
    exact ⟨fg', fc', _, og', s'.zs, s'.ps, s'.bs, s'.f, p', rfl, rfl, haf.sys hsb hkk.size, haf.keeps hsb hkk, haf.fr, hF.bs, by dsimp only at hzs; omega, hp', hpb'⟩
  · have hlt := hs.lt
    exact hA.kept haf.kept (fun hB => by have := hlt _ hB; omega) (fun g hg hB => by have := hlt _ hB; have := hgn g hg; omega)

end Go.Proofs.YtdkableaooaebaaDoor
