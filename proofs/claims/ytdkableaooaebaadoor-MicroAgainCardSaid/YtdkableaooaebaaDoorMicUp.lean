/-
  The statements' own head: the document's example; a step beside what the statements made.
  Conditions: the table of shapes is laid.
-/
import Derived.Test.YtdkableaooaebaaDoorMicGo
import Derived.Test.YtdkableaooaebaaDoorMicMade
import Derived.Test.YtdkableaooaebaaDoorMicStart
import Derived.Test.YtdkableaooaebaaDoorEql
namespace Go.Proofs.YtdkableaooaebaaDoor
open Go.RowKit
set_option linter.unusedVariables false

section
variable {W w w' : World} {ab tb tg tc cc fg fc self : Nat} {og og' : Option Nat} {zs : List Int} {ps : List Pk} {code : List Ix} {so : Option Addr} {bs : List Fr} {f : Fr} {p : Pk} {s : Ms} {nv : Value}
theorem sys_step (hs : Sys W.heap.size w ab tb tg tc og zs ps) (hk : Kept (fun _ => False) W w) (hL : Laid W) (hp : ps[self]? = some p) (hb : p.blocked = false) (hz : zs.length ≤ 4096) (hf : Row w fg fc 60 17 Fr.cells (bs ++ [f])) (hbl : bs.length ≤ 15)
    (hc : CodeIn so code (Base ab tb tg og) w) (hcl : code.length ≤ 1000000000) (hcw : ∀ x ∈ code, x.wide) :
    Calls Tryd.prog 12 #[.slice so code.length cc, .pointer (some ⟨ab, 0, none⟩), .pointer (some ⟨tb, 0, none⟩), .int .i64 self, .slice (some ⟨fg, 0, none⟩) (bs.length + 1) fc] w
      (StepTo w ab tb tg tc og 4096 0 (stepM code 4096 0 self ⟨zs, ps, bs, f, []⟩)) :=
  step_any hs.ar hs.tab hp hb ⟨by decide, by decide⟩ (by omega) hf hbl hc hcl hcw (hL.on0 hk) (fun g hg hB => by have := hL.low g hg; have := hs.new g hB; omega) hs.far
theorem After.sys {N : Nat} (h : After w ab tb tg tc og 4096 0 s w' fg fc nv og') (hs : Sys N w ab tb tg tc og zs ps) (hW : N ≤ w.heap.size) : Sys N w' ab tb tg tc og' s.zs s.ps := by
  refine ⟨h.ar, h.tab, h.farT, ?_⟩
  rintro g ((rfl | hg) | hg)
  · exact hs.new _ (.inl (.inl rfl))
  · rcases h.newO g hg with e | e
    · exact hs.new _ (.inl (.inr e))
    · omega
  · exact hs.new _ (.inr hg)
theorem After.keeps (h : After w ab tb tg tc og 4096 0 s w' fg fc nv og') (hs : Sys W.heap.size w ab tb tg tc og zs ps) (hk : Kept (fun _ => False) W w) : Kept (fun _ => False) W w' :=
  hk.trans h.kept (fun i hi hB => by have := hs.new i hB; omega)

theorem After.codeIn (h : After w ab tb tg tc og 4096 0 s w' fg fc nv og') (hc : CodeIn so code (Base ab tb tg og) w) : CodeIn so code (Base ab tb tg og') w' :=
  hc.kept h.kept (fun _ _ hg => hg) (fun g hg hB => by
    rcases hB with (hB | hB) | hB
    · exact .inl (.inl hB)
    · rcases h.newO g hB with e | e
      · exact .inl (.inr e)
      · omega
    · exact .inr hB)
theorem code_in {B g o : Nat} {T : Nat → Prop} (h : Elems w B (some ⟨g, o, none⟩) 5 Ix.cells code) (hB : B ≤ w.heap.size) (hT : ¬ T g) : CodeIn (some ⟨g, o, none⟩) code T w :=
  ⟨h.1, fun i x hi => by
    obtain ⟨g', off, e, hg, hc⟩ := h.2 i x hi
    simp only [Option.some.injEq, Addr.mk.injEq, and_true] at e
    obtain ⟨rfl, rfl⟩ := e
    exact ⟨g, o, rfl, Nat.lt_of_lt_of_le hg hB, hT, hc⟩⟩
theorem code_came {B : Nat} {T : Nat → Prop} (h : Elems w B so 5 Ix.cells code) (hB : B ≤ w.heap.size) (hT : ∀ g, T g → B ≤ g) : CodeIn so code T w :=
  ⟨h.1, fun i x hi => by
    obtain ⟨g', off, e, hg, hc⟩ := h.2 i x hi
    exact ⟨g', off, e, Nat.lt_of_lt_of_le hg hB, fun ht => by have := hT _ ht; omega, hc⟩⟩
end

theorem nums_lit (w : World) (xs : List Int) (hm : xs.length ≤ maxLen) : Nums (w.alloc (.cells (xs.map (Value.int .i64)).toArray 2)) (w.alloc (.cells (xs.map (Value.int .i64)).toArray 2)).heap.size (some ⟨w.heap.size, 0, none⟩) xs :=
  Nums.of_own (base := 0) (e := 2) (c := xs.length) (World.ownsRow_lit (base := 0) (e := 2) (size := 1) w (xs.map (Value.int .i64)).toArray xs.length (Nat.zero_le _) hm (by simp)) hm

/-- The example's code. -/
def upCode : List Ix := [⟨1, 0, 0, 0, 5⟩, ⟨22, 0, 0, 0, 0⟩]
theorem up_wide : ∀ x ∈ upCode, x.wide := by
  intro x hx
  simp only [upCode, List.mem_cons, List.not_mem_nil, or_false] at hx
  rcases hx with rfl | rfl <;> exact ⟨by decide, by decide⟩
theorem up_step : (stepM upCode 4096 0 0 ⟨[], List.replicate 1 Pk.zero, [], firstF 0 [], []⟩).1 = 2 ∧ (stepM upCode 4096 0 0 ⟨[], List.replicate 1 Pk.zero, [], firstF 0 [], []⟩).2.1 = 5 := ⟨by kernel_rfl, by kernel_rfl⟩

set_option maxHeartbeats 2000000 in
set_option maxRecDepth 100000 in
theorem up_any (w : World) (hL : Laid w) : Calls Tryd.prog 7 #[] w fun e w' => e = .returned (.bool true) ∧ Kept (fun _ => False) w w' := by
  have he := eql_codes
  have HL := Lib.hid hL
  have HM : Hid (Calls Tryd.prog 8 #[.slice none 0 0, .int .i64 1] w (MadeTo w [] 1)) := Lib.hid (made_any (w := w) (so := none) (cap := 0) [] 1 (Nums.nil _ _ _) (by decide) (by decide) (by decide))
  have HS0 : Hid (∀ w', Calls Tryd.prog 9 #[.int .i64 0, .slice none 0 0] w' (StartTo w' (firstF 0 []))) := Lib.hid (fun w' => start_any (so := none) (cap := 0) 0 [] (Nums.nil _ _ _))
  clear hL
  go_enter Tryd.func7, Tryd.ntmps7
  go_wp2_with fail
  refine (HM.out).mono ?_
  rintro e w1 ⟨ab, tb, tg, tc, og, rfl, hs, hk1⟩
  have HS := Lib.hid (hs.kept0 ((Kept.refl (fun _ => False) w1).alloc (.cells #[.int .i64 1, .int .i64 0, .int .i64 0, .int .i64 0, .int .i64 5, .int .i64 22, .int .i64 0, .int .i64 0, .int .i64 0, .int .i64 0] 46)))
  have HK := Lib.hid (hk1.alloc (.cells #[.int .i64 1, .int .i64 0, .int .i64 0, .int .i64 0, .int .i64 5, .int .i64 22, .int .i64 0, .int .i64 0, .int .i64 0, .int .i64 0] 46))
  have HCB := Lib.hid (heap_new1 w1 (.cells #[.int .i64 1, .int .i64 0, .int .i64 0, .int .i64 0, .int .i64 5, .int .i64 22, .int .i64 0, .int .i64 0, .int .i64 0, .int .i64 0] 46))
  have HZ := Lib.hid hs.lt
  clear hs hk1 HM
  go_wp2_with fail
  refine ((HS0.out _)).mono ?_
  rintro e w2 ⟨g, c, rfl, hg, hR, hk2⟩
  have HST : Hid (Calls Tryd.prog 12 #[.slice (some ⟨w1.heap.size, 0, none⟩) 2 2, .pointer (some ⟨ab, 0, none⟩), .pointer (some ⟨tb, 0, none⟩), .int .i64 0, .slice (some ⟨g, 0, none⟩) 1 c] w2 (StepTo w2 ab tb tg tc og 4096 0 (stepM upCode 4096 0 0 ⟨[], List.replicate 1 Pk.zero, [], firstF 0 [], []⟩))) :=
    Lib.hid (sys_step (W := w) (self := 0) (p := Pk.zero) (bs := []) (code := upCode) (cc := 2) (HS.out.kept0 hk2) (HK.out.trans hk2 (fun _ _ f => f)) HL.out rfl rfl (by decide) hR (by decide)
      (code_in (Elems.block (f := Ix.cells) (xs := upCode) Ix.five (hk2.at0 HCB.out) rfl (by decide)) (by have := hk2.size; have := (Array.getElem?_eq_some_iff.1 HCB.out).1; omega) (fun hB => by have := HZ.out _ hB; omega)) (by decide) up_wide)
  have HK2 := Lib.hid (HK.out.trans hk2 (fun _ _ f => f))
  have HS2 := Lib.hid (HS.out.kept0 hk2)
  have hup := up_step
  generalize stepM upCode 4096 0 0 ⟨[], List.replicate 1 Pk.zero, [], firstF 0 [], []⟩ = r at HST hup
  obtain ⟨how, val, s'⟩ := r
  obtain ⟨h1, h2⟩ := hup
  dsimp only at h1 h2
  subst h1 h2
  clear hk2 hR hg HK HS HCB HZ HL
  go_wp2_with fail
  refine (HST.out).mono ?_
  rintro e w3 ⟨fg, fc, no, nc, og', rfl, haf⟩
  have HK3 := Lib.hid (haf.keeps HS2.out HK2.out)
  clear haf HST HK2 HS2
  go_wp2_with fail
  refine ((HS0.out _)).mono ?_
  rintro e w4 ⟨g4, c4, rfl, _, _, hk4⟩
  have HK4 := Lib.hid (HK3.out.trans hk4 (fun _ _ f => f))
  clear hk4 HK3 HS0
  go_wp2_with fail
  refine ((step_nilA _ _ _ _ _ _ _ _ _)).mono ?_
  rintro e w5 ⟨rfl, hk5⟩
  have HK5 := Lib.hid (HK4.out.trans hk5 (fun _ _ f => f))
  clear hk5 HK4
  go_wp2_with fail
  go_ret
  exact ⟨rfl, HK5.out⟩

end Go.Proofs.YtdkableaooaebaaDoor
