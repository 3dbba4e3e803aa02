/-
  What package pack's reader of programs comes to.
  Conditions: the bytes lie in blocks that were there before the reader.
-/
import Derived.Test.YtkicpbnphbcdaaaGetList
namespace Go.Proofs.Ytkicpbnphbcdaaa
open Go.RowKit

theorem getProgram_any {w : World} {r B : Nat} {st : Option (List Nat)} (h : Rd w r B st) (hB : B ≤ r) :
    Calls Try.prog 33 #[.pointer (some ⟨r, 0, none⟩)] w (ListTo 62 5 Cl.cells (prP byteTok) w r B st) := by
  have HC := Lib.hid (getOps_any h hB)
  clear h
  go_enter Try.func33, Try.ntmps33
  go_wp2_with fail
  refine (HC.out).mono ?_
  rintro e w1 ⟨v, rfl, h1, h2, h3⟩
  have HF : Hid (ListTo 62 5 Cl.cells (prP byteTok) w r B st (.returned v) w1) := Lib.hid ⟨v, rfl, h1, h2, h3⟩
  clear h1 h2 h3
  go_wp2_with fail
  go_ret
  exact HF.out

/-- Programs that were read, in new memory, and what is left. -/
def ProgsTo (w : World) (r B : Nat) (st : Option (List Nat)) (e : Ending) (w' : World) : Prop :=
  ∃ v prs, e = .returned v ∧ prs.map Pr.ops = (listP byteTok (prP byteTok) st).1 ∧ w'.ownsRow w.heap.size 49 1 v prs.length (flat Pr.cells prs) ∧
    (∀ p ∈ prs, Off w.heap.size (fun g => g = r ∨ v.ownBlock = some g) w' p.s p.cap 5 Cl.cells p.ops) ∧ Rd w' r B (listP byteTok (prP byteTok) st).2 ∧ Kept (fun k => k = r) w w'

theorem progsTo_of {w : World} {r B : Nat} {st : Option (List Nat)} {v : Value} {prs : List Pr} {w' : World} {ys : List (List Cl)} {s : Option (List Nat)}
    (hg : listP byteTok (prP byteTok) st = (ys, s)) (hm : prs.map Pr.ops = ys) (h1 : w'.ownsRow w.heap.size 49 1 v prs.length (flat Pr.cells prs))
    (ho : ∀ p ∈ prs, Off w.heap.size (fun g => g = r ∨ v.ownBlock = some g) w' p.s p.cap 5 Cl.cells p.ops) (h2 : Rd w' r B s) (h3 : Kept (fun k => k = r) w w') : ProgsTo w r B st (.returned v) w' := by
  refine ⟨v, prs, rfl, ?_, h1, ho, ?_, h3⟩ <;> rw [hg] <;> assumption

theorem progs_next {W r c9 : Nat} {wr w2 w3 : World} {v v' : Value} {prs : List Pr} {s9 : Option Addr} {ops : List Cl} {o : Obj} (hO : wr.ownsRow W 49 1 v prs.length (flat Pr.cells prs)) (hr : r < W) (hW : W ≤ wr.heap.size)
    (hoff : ∀ p ∈ prs, Off W (fun g => g = r ∨ v.ownBlock = some g) wr p.s p.cap 5 Cl.cells p.ops) (hk2 : Kept (fun k => k = r) wr w2) (hM : Made wr.heap.size w2 s9 c9 5 Cl.cells ops)
    (hg : (w2.alloc o).grownBy w3 v.ownBlock) (h3 : v'.ownBlock = v.ownBlock ∨ v'.ownBlock = some (w2.heap.size + 1)) :
    ∀ p ∈ prs ++ [(⟨s9, c9, ops⟩ : Pr)], Off W (fun g => g = r ∨ v'.ownBlock = some g) w3 p.s p.cap 5 Cl.cells p.ops := by
  have hsz := hk2.size
  have hk3 : Kept (fun g => v.ownBlock = some g) w2 w3 := ((Kept.refl _ w2).alloc o).grown hg (fun _ _ e => e)
  have hk : Kept (fun g => g = r ∨ v.ownBlock = some g) wr w3 := (hk2.mono (fun _ _ e => .inl e)).trans hk3 (fun _ _ e => .inr e)
  have hv : ∀ g, v'.ownBlock = some g → v.ownBlock = some g ∨ g = w2.heap.size + 1 := by
    intro g e
    rcases h3 with h | h
    · exact .inl (h.symm.trans e)
    · rw [h] at e; simp only [Option.some.injEq] at e; exact .inr e.symm
  intro p hp
  rcases List.mem_append.1 hp with hp | hp
  · refine (hoff p hp).step hk (fun _ e => e) (fun g hlt hn e => ?_)
    rcases e with e | e
    · exact hn (.inl e)
    · rcases hv g e with e | e
      · exact hn (.inr e)
      · omega
  · simp only [List.mem_cons, List.not_mem_nil, or_false] at hp
    subst hp
    refine ⟨(hM.since hW).kept hk3 (fun hne g _ hlt e hg => ?_), fun hne g e hq => ?_⟩
    · obtain ⟨g', e', hw, _⟩ := hM.new hne
      rw [e] at e'
      simp only [Option.some.injEq, Addr.mk.injEq, and_true] at e'
      have := (hO.lt g hg).2
      omega
    · obtain ⟨g', e', hw, hl⟩ := hM.new hne
      replace e : s9 = some ⟨g, 0, none⟩ := e
      rw [e] at e'
      simp only [Option.some.injEq, Addr.mk.injEq, and_true] at e'
      rcases hq with hq | hq
      · omega
      · rcases hv g hq with hq | hq
        · have := (hO.lt g hq).2; omega
        · omega

set_option maxHeartbeats 2000000 in
theorem getPrograms_any {w : World} {r B : Nat} {st : Option (List Nat)} (h : Rd w r B st) (hB : B ≤ r) (hfew : ∀ s, (prP byteTok s).1.length ≤ 65536) :
    Calls Try.prog 32 #[.pointer (some ⟨r, 0, none⟩), .func (.func 33) #[] #[]] w (ProgsTo w r B st) := by
  obtain ⟨i0, hi, hz, hn, hby⟩ := info_parts Try.infoPr
  have HI := Lib.hid hi
  have HZ := Lib.hid hz
  have HN := Lib.hid hn
  have HBY := Lib.hid hby
  have hlt := h.lt
  have HC := Lib.hid (count_any' h hB)
  have HRW := Lib.hid hlt
  have HFEW := Lib.hid hfew
  clear hi hz hn hby h hlt hfew
  go_enter Try.func32, Try.ntmps32
  go_wp2_with fail
  refine (HC.out).mono ?_
  rintro e w1 ⟨rfl, h1, hk1⟩
  have hn6 : (cntP byteTok st).1 ≤ 65536 := by unfold cntP; split <;> dsimp only <;> omega
  have hst : listP byteTok (prP byteTok) st = loopP (prP byteTok) (cntP byteTok st).1 [] (cntP byteTok st).2 := rfl
  have HST := Lib.hid hst
  have H1 := Lib.hid h1
  have HK1 := Lib.hid hk1
  clear hst h1 hk1
  generalize (cntP byteTok st).1 = n at *
  generalize (cntP byteTok st).2 = s1 at *
  go_wp2_with fail
  go_loopw [5, 9] (fun v i wr => ∃ (k : Nat) (prs : List Pr) (s : Option (List Nat)), i = .int .i64 k ∧ k ≤ n ∧ prs.length = k ∧ loopP (prP byteTok) n [] s1 = loopP (prP byteTok) (n - k) (prs.map Pr.ops) s ∧ wr.ownsRow w.heap.size 49 1 v prs.length (flat Pr.cells prs) ∧ (∀ p ∈ prs, Off w.heap.size (fun g => g = r ∨ v.ownBlock = some g) wr p.s p.cap 5 Cl.cells p.ops) ∧ Rd wr r B s ∧ Kept (fun k => k = r) w wr) (fun _ i _ => n - (intOf i).toNat)
  case atStart => exact ⟨0, [], s1, rfl, by omega, rfl, rfl, World.ownsRow_nil _ _ _ _, fun p hp => absurd hp List.not_mem_nil, H1.out, HK1.out⟩
  case round =>
    clear H1 HK1
    obtain ⟨k, prs, s, rfl, hkn, hacc, hloop, hown, hoff, hrd, hk⟩ := hrel
    have HACC := Lib.hid hacc
    have HL := Lib.hid hloop
    have HO := Lib.hid hown
    have HOF := Lib.hid hoff
    have HR := Lib.hid hrd
    have HK := Lib.hid hk
    clear hacc hloop hown hoff hrd hk
    by_cases hkk : k < n
    · go_wp2_with fail
      refine (getProgram_any HR.out hB).mono ?_
      rintro e w2 ⟨v1, rfl, hown1, hr2, hk2⟩
      obtain ⟨xs', hxs⟩ : ∃ xs', prP byteTok s = xs' := ⟨_, rfl⟩
      have hf := HFEW.out s
      obtain ⟨ops, s2⟩ := xs'
      rw [hxs] at hr2 hown1 hf
      obtain ⟨s9, c9, rfl, hM⟩ := Made.of_own Cl.five hown1 rfl (by unfold maxLen; dsimp only at hf ⊢; omega)
      have HM := Lib.hid hM
      have HXS := Lib.hid hxs
      have HK2 := Lib.hid (HK.out.trans hk2 (fun _ _ e => e))
      have HK2' := Lib.hid hk2
      have HO2 := Lib.hid (own_kept HO.out hk2 (fun g hg e => by have := (HO.out.lt g hg).1; have := HRW.out; omega))
      have HS2 : Hid (w.heap.size ≤ wr.heap.size ∧ wr.heap.size ≤ w2.heap.size) := Lib.hid ⟨HK.out.size, hk2.size⟩
      clear hxs hk2 hown1 hM hf
      match s2, hr2 with
      | none, hr2 =>
        have hb : w2.heap[r]? = some (.cells #[.slice none 0 0, .bool true] 68 (0, 0)) := hr2
        have c1 : w2.cell? ⟨r, 1, none⟩ = some (.bool true) := by rw [cell_at w2 _ 1 _ _ hb]; rfl
        have HF : Hid (ProgsTo w r B st (.returned (.slice none 0 0)) w2) := Lib.hid (progsTo_of (prs := []) (ys := []) (s := none) (by rw [HST.out, HL.out, show n - k = (n - k - 1) + 1 by omega, loopP, HXS.out]) rfl (World.ownsRow_nil _ _ _ _) (fun p hp => absurd hp List.not_mem_nil) hb HK2.out)
        clear hb hr2
        go_wp2_with fail
        go_ret
        exact HF.out
      | some rest, hr2 =>
        have HRD := Lib.hid hr2
        obtain ⟨⟨A, c, hb, _, _⟩, _⟩ := hr2
        have c1 : w2.cell? ⟨r, 1, none⟩ = some (.bool false) := by rw [cell_at w2 _ 1 _ _ hb]; rfl
        clear hb
        have HEL : Hid (Elems (w2.alloc (.cells #[.slice s9 ops.length c9] 49)) (w2.heap.size + 1) (some ⟨w2.heap.size, 0, none⟩) 1 Pr.cells [⟨s9, c9, ops⟩]) := Lib.hid (Elems.block Pr.one (heap_alloc_new w2 _) rfl (by show 1 ≤ maxLen; decide))
        go_wp2_with (at_builtin; refine wpList_append_elems (ys := [(⟨s9, c9, ops⟩ : Pr)]) _ rfl (.tmp 18) (.tmp 20) 23 rfl w.heap.size 49 i0 (.slice none 0 0) 1 24 Try.underlying23 HI.out HZ.out HN.out HBY.out rfl (by decide) Pr.one (one_prs _) _ prs.length (flat Pr.cells prs) rfl ?c1 (w2.heap.size + 1) _ 1 rfl ?c2 ?c3 ?c4 ?c5 ?_)
        case c1 => exact HO2.out.alloc _
        case c2 => exact HEL.out
        case c3 => have := HACC.out; unfold maxLen; simp; omega
        case c4 => have := HACC.out; simp; omega
        case c5 => have := HS2.out; simp; omega
        intro v' w3 h1 h2 h3
        have hk3 : Kept (fun k => k = r) w w3 := (HK2.out.alloc _).grown h2 (fun g hg e => by have := (HO2.out.lt g e).1; omega)
        have hk4 : Kept (fun k => w.heap.size ≤ k) w2 w3 := ((Kept.refl (fun k => w.heap.size ≤ k) w2).alloc _).grown h2 (fun g hg e => (HO2.out.lt g e).1)
        have hnx := progs_next (v' := v') HO.out HRW.out HS2.out.1 HOF.out HK2'.out HM.out h2 h3
        have hfin : ∃ (k' : Nat) (prs' : List Pr) (s' : Option (List Nat)), Value.int .i64 ((k : Int) + 1) = .int .i64 k' ∧ k' ≤ n ∧ prs'.length = k' ∧ loopP (prP byteTok) n [] s1 = loopP (prP byteTok) (n - k') (prs'.map Pr.ops) s' ∧ w3.ownsRow w.heap.size 49 1 v' prs'.length (flat Pr.cells prs') ∧ (∀ p ∈ prs', Off w.heap.size (fun g => g = r ∨ v'.ownBlock = some g) w3 p.s p.cap 5 Cl.cells p.ops) ∧ Rd w3 r B s' ∧ Kept (fun k => k = r) w w3 :=
          ⟨k + 1, prs ++ [⟨s9, c9, ops⟩], some rest, by go_num, by omega, by rw [List.length_append, HACC.out]; rfl, by rw [HL.out, show n - k = (n - (k + 1)) + 1 by omega, loopP, HXS.out, List.map_append]; rfl, by rw [List.length_append, flat_append]; exact h1, hnx, HRD.out.kept hk4 hB (fun k hk e => by have := HRW.out; omega), hk3⟩
        have HF := Lib.hid hfin
        clear hfin h1 h2 h3 hk3 hk4 HEL hnx
        go_wp2_with fail
        go_roundw
        case rel => exact HF.out
        case measure => simp [intOf]; omega
    · have HF := Lib.hid (progsTo_of (st := st) (by rw [HST.out, HL.out, show n - k = 0 by omega]; rfl) rfl HO.out HOF.out HR.out HK.out)
      clear HO
      go_wp2_with fail
      go_ret
      exact HF.out

end Go.Proofs.Ytkicpbnphbcdaaa
