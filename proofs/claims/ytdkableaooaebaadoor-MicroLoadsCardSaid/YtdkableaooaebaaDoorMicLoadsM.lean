/-
  The steps of the statement MicroLoads, as plain mathematics.
  Conditions: none.
-/
import Derived.Test.YtdkableaooaebaaDoorMicUp
namespace Go.Proofs.YtdkableaooaebaaDoor
open Go.RowKit

def ldCode : List Ix := [⟨6, 0, 2, 0, 1⟩, ⟨5, 3, 2, 0, 1⟩, ⟨6, 1, 2, 0, 1⟩, ⟨22, 3, 0, 0, 0⟩]
theorem ld_wide : ∀ x ∈ ldCode, x.wide := by
  intro x hx
  simp only [ldCode, List.mem_cons, List.not_mem_nil, or_false] at hx
  rcases hx with rfl | rfl | rfl | rfl <;> exact ⟨by decide, by decide⟩
theorem ld_1 (v w : Int) : stepM ldCode 4096 0 0 ⟨[5, 6], List.replicate 1 Pk.zero, [], firstF 0 [v, w, 1], []⟩ = (0, 0, ⟨[5, v], List.replicate 1 Pk.zero, [], ⟨1, (firstF 0 [v, w, 1]).r⟩, []⟩) := by kernel_rfl
theorem ld_2 (v w : Int) : stepM ldCode 4096 0 0 ⟨[5, v], List.replicate 1 Pk.zero, [], ⟨1, (firstF 0 [v, w, 1]).r⟩, []⟩ = (0, 0, ⟨[5, v], List.replicate 1 Pk.zero, [], ⟨2, upd (firstF 0 [v, w, 1]).r 3 v⟩, []⟩) := by kernel_rfl
theorem ld_3 (v w : Int) : stepM ldCode 4096 0 0 ⟨[5, v], List.replicate 1 Pk.zero, [], ⟨2, upd (firstF 0 [v, w, 1]).r 3 v⟩, []⟩ = (2, v, ⟨[5, w], List.replicate 1 Pk.zero, [], ⟨4, upd (firstF 0 [v, w, 1]).r 3 v⟩, []⟩) := by kernel_rfl

/-- A step by one frame, that comes to one frame, without marks. -/
theorem one_go {W w : World} {ab tb tg tc cc fg fc self : Nat} {og : Option Nat} {zs zs' : List Int} {ps ps' : List Pk} {code : List Ix} {so : Option Addr} {f f' : Fr} {p : Pk} {how val : Int}
    (hr : stepM code 4096 0 self ⟨zs, ps, [], f, []⟩ = (how, val, ⟨zs', ps', [], f', []⟩))
    (hs : Sys W.heap.size w ab tb tg tc og zs ps) (hk : Kept (fun _ => False) W w) (hL : Laid W) (hp : ps[self]? = some p) (hb : p.blocked = false) (hz : zs.length ≤ 4096) (hf : Row w fg fc 60 17 Fr.cells [f])
    (hc : CodeIn so code (Base ab tb tg og) w) (hcl : code.length ≤ 1000000000) (hcw : ∀ x ∈ code, x.wide) :
    Calls Tryd.prog 12 #[.slice so code.length cc, .pointer (some ⟨ab, 0, none⟩), .pointer (some ⟨tb, 0, none⟩), .int .i64 self, .slice (some ⟨fg, 0, none⟩) 1 fc] w
      fun e w' => ∃ fg' fc' no nc og', e = .returned (.tuple #[.slice (some ⟨fg', 0, none⟩) 1 fc', .slice no 0 nc, .int .i64 how, .int .i64 val, .nilIface]) ∧ Sys W.heap.size w' ab tb tg tc og' zs' ps' ∧ Kept (fun _ => False) W w' ∧
        Row w' fg' fc' 60 17 Fr.cells [f'] ∧ CodeIn so code (Base ab tb tg og') w' := by
  have h := sys_step (cc := cc) (bs := []) (f := f) hs hk hL hp hb hz hf (by decide) hc hcl hcw
  rw [hr] at h
  refine h.mono ?_
  rintro e w' ⟨fg', fc', no, nc, og', rfl, haf⟩
  exact ⟨fg', fc', no, nc, og', rfl, haf.sys hs hk.size, haf.keeps hs hk, haf.fr, haf.codeIn hc⟩

end Go.Proofs.YtdkableaooaebaaDoor
