/-
  What the program's Step comes to, where it does something.
  Conditions: the arena's, the table's and the code's blocks are apart; the thread is there and isn't blocked; 1 to 16 frames.
-/
import Derived.Test.YtdkableaooaebaaDoorMicFrom
import Derived.Test.YtdkableaooaebaaDoorMicStep
namespace Go.Proofs.YtdkableaooaebaaDoor
open Go.RowKit
set_option linter.unusedVariables false

/-- A copy in memory of its own; all else as it was. -/
def CopiedFrs (w : World) (fs : List Fr) (n : Nat) (e : Ending) (w' : World) : Prop :=
  ∃ g' c', e = .returned (.slice (some ⟨g', 0, none⟩) n c') ∧ w.heap.size ≤ g' ∧ Row w' g' c' 60 17 Fr.cells fs ∧ Kept (fun _ => False) w w'

theorem fs_cells (fs : List Fr) : ∀ u ∈ flat Fr.cells fs, u.oneCell' = true := fr_cell fs

set_option maxRecDepth 100000 in
theorem copy_frames (g cap : Nat) (fs : List Fr) (n : Nat) (hn : fs.length = n) (w : World) (h1 : 1 ≤ n) (hl : n ≤ 16) (hown : Row w g cap 60 17 Fr.cells fs) :
    Calls Tryd.prog 24 #[.slice (some ⟨g, 0, none⟩) n cap] w (CopiedFrs w fs n) := by
  obtain ⟨i0, hi, hz0, hz1, hz2⟩ := info_parts info_frame
  have hfl := flat_len Fr.len fs
  rw [hn] at hfl
  have hcs : ∀ j u, (flat Fr.cells fs)[j]? = some u → w.cell? ((⟨g, 0, none⟩ : Addr).add j) = some u := World.ownsRow.cells hown (g := g) rfl
  have hgl : g < w.heap.size := hown.lt
  have hq := Lib.run_eql_slice_nil (P := Tryd.prog) w 29 60 (some ⟨g, 0, none⟩) n cap 0 0 Tryd.underlying29
  have HFL := Lib.hid hfl; clear hfl
  have HCS := Lib.hid hcs; clear hcs
  have HN := Lib.hid hn; clear hn
  have HI := Lib.hid hi; clear hi
  have HZ0 := Lib.hid hz0; clear hz0
  have HZ1 := Lib.hid hz1; clear hz1
  have HZ2 := Lib.hid hz2; clear hz2
  clear hown
  go_enter Tryd.func24, Tryd.ntmps24
  go_wp2_with (at_builtin; refine wpList_append_own _ rfl (.tmp 5) (.tmp 6) 29 rfl w.heap.size 60 i0 (.agg #[.int .i64 0, .int .i64 0, .int .i64 0, .int .i64 0, .int .i64 0, .int .i64 0, .int .i64 0, .int .i64 0, .int .i64 0, .int .i64 0, .int .i64 0, .int .i64 0, .int .i64 0, .int .i64 0, .int .i64 0, .int .i64 0, .int .i64 0]) 17 136 Tryd.underlying29 HI.out HZ0.out HZ1.out HZ2.out rfl (by decide) _ 0 [] rfl (World.ownsRow_made w #[] 0 (Nat.le_refl _) (Nat.zero_le _) rfl) ⟨g, 0, none⟩ n cap (flat Fr.cells fs) rfl ?c1 ?c2 ?c3 ?c4 ?c5 ?c6 ?_)
  case c1 => exact HFL.out
  case c2 =>
    intro j u hu
    rw [Addr.add_lit, World.cell?_alloc_past _ _ _ hgl, ← Addr.add_lit]
    exact HCS.out j u hu
  case c3 => exact fs_cells fs
  case c4 => unfold maxLen; omega
  case c5 => omega
  case c6 => simp
  intro v' w1 hown' hgrow _
  have hk : Kept (fun _ => False) w w1 := ((Kept.refl _ w).alloc (.cells #[] 60)).grown hgrow (fun k hk e => by simp [Value.ownBlock] at e; omega)
  have hh : CopiedFrs w fs n (.returned v') w1 := by
    rcases hown'.2 with ⟨rfl, h0⟩ | ⟨g', cap', cur, rfl, hb, hrest⟩
    · omega
    · exact ⟨g', cap', by simp, hb, Row.made HN.out.symm ⟨hown'.1, .inr ⟨g', cap', cur, rfl, Nat.zero_le _, hrest⟩⟩, hk⟩
  have HH := Lib.hid hh; clear hh hk hgrow hown'
  go_wp2_with fail
  go_ret
  exact HH.out

/-- What a step leaves, that is done. -/
def StepTo (w : World) (ab tb tg tc : Nat) (og : Option Nat) (most now : Int) (r : Int × Int × Ms) (e : Ending) (w' : World) : Prop :=
  ∃ fg fc no nc og', e = .returned (.tuple #[.slice (some ⟨fg, 0, none⟩) (r.2.2.bs.length + 1) fc, .slice no r.2.2.ns.length nc, .int .i64 r.1, .int .i64 r.2.1, .nilIface]) ∧ After w ab tb tg tc og most now r.2.2 w' fg fc (.slice no r.2.2.ns.length nc) og'

theorem run_at {w : World} {ab tb tg tc cc : Nat} {og : Option Nat} {most now : Int} {zs : List Int} {ps : List Pk} {code : List Ix} {so : Option Addr} {bs : List Fr} {f : Fr} {self : Nat} {p : Pk}
    (ha : Arena w ab og most zs) (ht : Tab w tb tg tc now ps) (hp : ps[self]? = some p) (hb : p.blocked = false) (hm : 0 ≤ most ∧ most ≤ 4096) (hz : (zs.length : Int) ≤ most) (hbl : bs.length ≤ 15)
    (hc : CodeIn so code (Base ab tb tg og) w) (hcl : code.length ≤ 1000000000) (hcw : ∀ x ∈ code, x.wide) (hld : Laid w) (hG : ∀ g, Glob g → ¬ Base ab tb tg og g) (hfar : ∀ g, Foot ab og g → g ≠ tb ∧ g ≠ tg) :
    ∀ w1 g' c', w.heap.size ≤ g' → Row w1 g' c' 60 17 Fr.cells (bs ++ [f]) → Kept (fun _ => False) w w1 →
      Calls Tryd.prog 25 #[.pointer (some ⟨w1.heap.size, 0, none⟩)]
        (w1.alloc (.cells #[.slice so code.length cc, .pointer (some ⟨ab, 0, none⟩), .pointer (some ⟨tb, 0, none⟩), .int .i64 self, .slice (some ⟨g', 0, none⟩) (bs.length + 1) c', .slice none 0 0, .int .i64 0] 67))
        fun e w' => ∃ col' k' d', e = .returned (.tuple #[.int .i64 (stepM code most now self ⟨zs, ps, bs, f, []⟩).1, .int .i64 (stepM code most now self ⟨zs, ps, bs, f, []⟩).2.1]) ∧
          On ⟨w1.heap.size, ab, tb, tg, tc, so, cc, code, most, now, self⟩ col' k' d' (stepM code most now self ⟨zs, ps, bs, f, []⟩).2.2 w' ∧ After w ab tb tg tc og most now (stepM code most now self ⟨zs, ps, bs, f, []⟩).2.2 w' k'.fg k'.fc k'.nv k'.og := by
  intro w1 g' c' hg' hR hk1
  have hs1 := hk1.size
  have hlt := hR.lt
  have hBl : ∀ g, Base ab tb tg og g → g < w.heap.size := fun g hg => by
    rcases hg with (rfl | hg) | rfl | rfl
    · exact ha.lt
    · exact (ha.rowLt g hg).1
    · exact ht.lt.1
    · exact ht.lt.2
  have hk2 := hk1.alloc (.cells #[.slice so code.length cc, .pointer (some ⟨ab, 0, none⟩), .pointer (some ⟨tb, 0, none⟩), .int .i64 self, .slice (some ⟨g', 0, none⟩) (bs.length + 1) c', .slice none 0 0, .int .i64 0] 67)
  obtain ⟨col, hOn, c2, c3, c4, c0⟩ := on_start (L := ⟨w1.heap.size, ab, tb, tg, tc, so, cc, code, most, now, self⟩) (og := og) (fg := g') (fc := c') (zs := zs) (ps := ps) (bs := bs) (f := f)
    (heap_alloc_new w1 _) (hR.kept ((Kept.refl (fun _ => False) w1).alloc _) (fun f => f)) (ha.kept hk2 (fun f => f) (fun _ _ f => f)) (ht.kept hk2 (fun f => f) (fun f => f))
    (hc.kept hk2 (fun _ _ f => f.elim) (fun g hg h => h.elim id (fun h => h.elim (fun (h : g = w1.heap.size) => absurd hg (by omega)) (fun h => absurd hg (by omega))))) (hld.on0 hk2) (fun g hg => ⟨hG g hg, by have := hld.low g hg; show g ≠ w1.heap.size; omega, by have := hld.low g hg; omega⟩)
    (by show w1.heap.size ≠ g'; omega) (fun h => absurd (hBl _ h) (by show ¬ w1.heap.size < w.heap.size; omega)) (fun h => absurd (hBl _ h) (by show ¬ g' < w.heap.size; omega)) hfar
  refine (run_any hOn ⟨hm, hz, ⟨p, hp, hb⟩, hbl, Nat.le_refl _, by omega, hcl⟩ hcw).mono ?_
  rintro e w' ⟨rfl, d', col', k', ho, hg⟩
  exact ⟨col', k', d', rfl, ho, after_of hk2 (by show w.heap.size ≤ w1.heap.size; exact hs1) hg' c2 c3 c4 c0 ho hg⟩

set_option maxHeartbeats 2000000 in
set_option maxRecDepth 100000 in
theorem step_any {w : World} {ab tb tg tc cc fg fc : Nat} {og : Option Nat} {most now : Int} {zs : List Int} {ps : List Pk} {code : List Ix} {so : Option Addr} {bs : List Fr} {f : Fr} {self : Nat} {p : Pk}
    (ha : Arena w ab og most zs) (ht : Tab w tb tg tc now ps) (hp : ps[self]? = some p) (hb : p.blocked = false) (hm : 0 ≤ most ∧ most ≤ 4096) (hz : (zs.length : Int) ≤ most) (hf : Row w fg fc 60 17 Fr.cells (bs ++ [f])) (hbl : bs.length ≤ 15)
    (hc : CodeIn so code (Base ab tb tg og) w) (hcl : code.length ≤ 1000000000) (hcw : ∀ x ∈ code, x.wide) (hld : Laid w) (hG : ∀ g, Glob g → ¬ Base ab tb tg og g) (hfar : ∀ g, Foot ab og g → g ≠ tb ∧ g ≠ tg) :
    Calls Tryd.prog 12 #[.slice so code.length cc, .pointer (some ⟨ab, 0, none⟩), .pointer (some ⟨tb, 0, none⟩), .int .i64 self, .slice (some ⟨fg, 0, none⟩) (bs.length + 1) fc] w
      (StepTo w ab tb tg tc og most now (stepM code most now self ⟨zs, ps, bs, f, []⟩)) := by
  have HG : Hid (Calls Tryd.prog 23 #[.pointer (some ⟨tb, 0, none⟩), .int .i64 self] w (GoesTo w true)) := Lib.hid (by
    have := goes_in ht hp
    rw [hb] at this
    exact this)
  have HC : Hid (∀ w', Kept (fun _ => False) w w' → Calls Tryd.prog 24 #[.slice (some ⟨fg, 0, none⟩) (bs.length + 1) fc] w' (CopiedFrs w' (bs ++ [f]) (bs.length + 1))) :=
    Lib.hid (fun w' hk => copy_frames fg fc (bs ++ [f]) (bs.length + 1) (by simp) w' (by omega) (by omega) (hf.kept hk (fun f => f)))
  have HR := Lib.hid (run_at (cc := cc) (f := f) ha ht hp hb hm hz hbl hc hcl hcw hld hG hfar)
  generalize hr : stepM code most now self ⟨zs, ps, bs, f, []⟩ = r at *
  obtain ⟨how, val, s'⟩ := r
  generalize hmm : bs.length + 1 = m at *
  have h1 : ((m : Int) == 0) = false := by rw [beq_eq_false_iff_ne]; omega
  have h2 : ¬ ((16 : Int) < (m : Int)) := by omega
  clear ha ht hp hb hm hz hf hc hcl hcw hld hG hfar hr hbl hmm
  go_enter Tryd.func12, Tryd.ntmps12
  go_wp2_with fail
  refine (HG.out).mono ?_
  rintro e w1 ⟨rfl, hk1⟩
  have HK1 := Lib.hid hk1
  clear hk1 HG
  go_wp2_with fail
  refine ((HC.out _ HK1.out)).mono ?_
  rintro e w2 ⟨g', c', rfl, hg', hR, hk2⟩
  have HRR := Lib.hid (HR.out w2 g' c' (Nat.le_trans HK1.out.size hg') hR (HK1.out.trans hk2 (fun _ _ f => f)))
  clear hR hk2 HR HC hg'
  go_wp2_with fail
  refine (HRR.out).mono ?_
  rintro e w3 ⟨col', k', d', rfl, ho, haf⟩
  obtain ⟨no, nc, hnv, hnm⟩ := nt_form haf.nt
  obtain ⟨⟨_, _, _, _, c4, c5, _⟩, _⟩ := ho.cells
  rw [hnv] at haf c5
  have HF : Hid (∀ w4, Kept (fun _ => False) w3 w4 → StepTo w ab tb tg tc og most now (how, val, s') (.returned (.tuple #[.slice (some ⟨k'.fg, 0, none⟩) (s'.bs.length + 1) k'.fc, .slice no s'.ns.length nc, .int .i64 how, .int .i64 val, .nilIface])) w4) := Lib.hid (fun w4 hk4 =>
    ⟨_, _, _, _, _, rfl, haf.kept0 hk4⟩)
  clear ho haf hnv HRR
  go_wp2_with fail
  go_region
  all_goals go_wp2_with fail
  all_goals exact bodyPost_ret (v := .tuple #[.slice (some ⟨k'.fg, 0, none⟩) (s'.bs.length + 1) k'.fc, .slice no s'.ns.length nc, .int .i64 how, .int .i64 val, .nilIface]) (by simp [results, Tryd.results12, go_sem]) rfl (HF.out _ (Kept.refl _ _).drew)

end Go.Proofs.YtdkableaooaebaaDoor
