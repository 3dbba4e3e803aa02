/-
  What the program's link comes to: the jumps get their places.
  Conditions: the builder's bounds.
-/
import Derived.Test.YtlhnbihpefgcbaaGreatDoorAsmBld
import Derived.Test.YtlhnbihpefgcbaaGreatDoorLineMem
import Derived.WalkKit
import Derived.ProofKit
import Derived.Deep.RegionWith
namespace Go.Proofs.YtlhnbihpefgcbaaGreatDoor
open Go.RowKit

/-- What link leaves. -/
def LinkTo (B b m : Nat) (w : World) (v u q : Value) (s : Bst) (r : Except Nat (List Ln)) (e : Ending) (w' : World) : Prop :=
  Kept (foot b m v u q) w w' ∧ match r with
    | .error i => ∃ g, w.heap.size ≤ g ∧ e = .returned (spotV g) ∧ SpotAt w' g (4, i)
    | .ok c => e = .returned .nilIface ∧ Bld B b m w' ⟨c, s.labs, s.jmps, s.line⟩ v u q
theorem link_len (l : Labs) : ∀ (js : Jmps) (c c' : List Ln), linkA l c js = .ok c' → c'.length = c.length
  | [], c, c', h => by unfold linkA at h; injection h with h; rw [h]
  | (a, i, t) :: r, c, c', h => by
    rw [link_cons] at h
    cases e : findA l t with
    | none => rw [e] at h; cases h
    | some k => rw [e] at h; have := link_len l r _ _ h; rw [this, List.length_modify]
theorem modify_set {c : List Ln} {a : Nat} {x : Ln} (h : c[a]? = some x) (f : Ln → Ln) : c.modify a f = c.set a (f x) := by
  obtain ⟨h1, h2⟩ := List.getElem?_eq_some_iff.1 h
  apply List.ext_getElem?
  intro i
  rw [List.getElem?_modify, List.getElem?_set]
  by_cases e : a = i
  · subst e; simp [h1, h2]
  · simp [e]
/-- A place that is stored. -/
theorem place_end {B b m a : Nat} {w : World} {s : Bst} {v u q : Value} {x : Ln} {g cap k : Nat} (h : Bld B b m w s v u q) (hv : v = .slice (some ⟨g, 0, none⟩) s.code.length cap) (hx : s.code[a]? = some x) :
    w.cell? ⟨g, a * 5 + 4, none⟩ = some (.int .i64 x.n) ∧ w.frozen? ⟨g, a * 5 + 4, none⟩ = false ∧ Bld B b m (w.setCell ⟨g, a * 5 + 4, none⟩ (.int .i64 k)) ⟨s.code.modify a (fun x => { x with n := k }), s.labs, s.jmps, s.line⟩ v u q ∧
      Kept (fun j => v.ownBlock = some j) w (w.setCell ⟨g, a * 5 + 4, none⟩ (.int .i64 k)) := by
  subst hv
  obtain ⟨a1, a2, a3, a4, a5, a6, a7, a8, a9⟩ := h.apart
  have ha := (List.getElem?_eq_some_iff.1 hx).1
  have hst := World.ownsRow.stored h.code (a * 5 + 4) (.int .i64 k)
  have hk : Kept (fun j => (Value.slice (some ⟨g, 0, none⟩) s.code.length cap).ownBlock = some j) w (w.setCell ⟨g, a * 5 + 4, none⟩ (.int .i64 k)) := (Kept.refl _ w).grown hst.2 (fun k _ e => e)
  refine ⟨?_, World.ownsRow.frozenAt h.code _, ⟨?_, ?_, ?_, ?_, ?_⟩, hk⟩
  · rw [World.ownsRow.cellAt h.code (a * 5 + 4) (by omega), flat_at insC_five _ a 4 x hx (by omega)]
    rfl
  · exact hk.at_ h.box a2
  · rw [modify_set hx, List.length_set, flat_set insC_five _ a 4 x { x with n := k } (.int .i64 k) hx (by omega) rfl]
    exact hst.1
  · exact row_kept h.labs hk (fun g' hg e => (a8 g' e).1 hg)
  · exact row_kept h.jmps hk (fun g' hg e => (a8 g' e).2 hg)
  · exact h.names.kept hk a3

set_option maxRecDepth 100000 in
set_option maxHeartbeats 4000000 in
theorem link_any {B b m : Nat} {w : World} {s : Bst} {v u q : Value} (h : Bld B b m w s v u q) (hok : BldOk s) :
    Calls Tryz.prog 19 #[.pointer (some ⟨b, 0, none⟩)] w (LinkTo B b m w v u q s (linkA s.labs s.code s.jmps)) := by
  obtain ⟨n, hn⟩ : ∃ n, s.jmps.length = n := ⟨_, rfl⟩
  obtain ⟨sq, cq, hq, hMq⟩ := Made.of_own jmpC_three h.jmps rfl (by have := hok.code; have := hok.jmps; unfold maxLen; omega)
  rw [hn] at hq
  subst hq
  have hn2 : n ≤ 1024 := by have := hok.code; have := hok.jmps; omega
  obtain ⟨⟨c0, c1, c2, c3, c4⟩, _⟩ := h.cells
  have H := Lib.hid h
  have HO := Lib.hid hok
  have HN := Lib.hid hn
  have HS := Lib.hid (fun i w' => spot_any i 4 w')
  clear h hok hn
  go_enter Tryz.func19, Tryz.ntmps19
  go_wp2_with fail
  go_loopw [12] (fun i wr => ∃ (i' : Nat) (c : List Ln), i = .int .i64 i' ∧ i' ≤ n ∧ c.length = s.code.length ∧ linkA s.labs s.code s.jmps = linkA s.labs c (s.jmps.drop i') ∧ Bld B b m wr ⟨c, s.labs, s.jmps, s.line⟩ v u (.slice sq n cq) ∧ Kept (foot b m v u (.slice sq n cq)) w wr) (fun i _ => n - (intOf i).toNat)
  case atStart => exact ⟨0, s.code, rfl, by omega, rfl, rfl, H.out, Kept.refl _ _⟩
  case round =>
    obtain ⟨i, c, rfl, hi, hcl, hlk, hb, hk⟩ := hrel
    have HL := Lib.hid hlk
    have HB := Lib.hid hb
    have HK := Lib.hid hk
    have HC := Lib.hid hcl
    clear hlk hb hk hcl c0 c1 c2 c3 c4
    by_cases hin : i < n
    case neg =>
      obtain rfl : i = n := by omega
      have HF : Hid (LinkTo B b m w v u (.slice sq i cq) s (linkA s.labs s.code s.jmps) (.returned .nilIface) wr) := Lib.hid (by
        rw [HL.out, List.drop_of_length_le (by rw [HN.out]; exact Nat.le_refl _)]
        exact ⟨HK.out, rfl, HB.out⟩)
      go_wp2_with fail
      go_ret
      exact HF.out
    obtain ⟨j, hj⟩ : ∃ j, s.jmps[i]? = some j := ⟨_, List.getElem?_eq_getElem (by rw [HN.out]; exact hin)⟩
    obtain ⟨a, ln, t⟩ := j
    have hjm := List.mem_of_getElem? hj
    have hac : a < s.code.length := HO.out.at_ _ hjm
    have htl : t.length ≤ 24 := HO.out.names _ hjm
    have hll : ln ≤ 200000 := HO.out.spots _ hjm
    have hcl4 : s.code.length ≤ 1024 := HO.out.code
    have HD : Hid (s.jmps.drop i = (a, ln, t) :: s.jmps.drop (i + 1)) := Lib.hid (by
      obtain ⟨h1, h2⟩ := List.getElem?_eq_some_iff.1 hj
      rw [← h2]; exact List.drop_eq_getElem_cons h1)
    rw [HD.out, link_cons] at HL
    obtain ⟨gq, capq, hq2, _⟩ := own_form HB.out.jmps (by show 0 < s.jmps.length; rw [HN.out]; omega)
    obtain rfl : sq = some ⟨gq, 0, none⟩ := by injection hq2
    have hrow := HB.out.jmps
    change wr.ownsRow B _ 3 _ s.jmps.length (flat jmpC s.jmps) at hrow
    rw [HN.out] at hrow
    have hcell : ∀ (o : Nat) z, (jmpC (a, ln, t))[o]? = some z → wr.cell? ⟨gq, i * 3 + o, none⟩ = some z := fun o z ho => by
      rw [World.ownsRow.cellAt hrow (i * 3 + o) (by have := (List.getElem?_eq_some_iff.1 ho).1; simp only [jmpC, List.length_cons, List.length_nil] at this; omega), flat_at jmpC_three _ i o _ hj (by have := (List.getElem?_eq_some_iff.1 ho).1; simp only [jmpC, List.length_cons, List.length_nil] at this; omega)]
      exact ho
    have x0 : wr.cell? ⟨gq, i * 3, none⟩ = some (.int .i64 a) := hcell 0 _ rfl
    have x1 : wr.cell? ⟨gq, i * 3 + 1, none⟩ = some (.int .i64 ln) := hcell 1 _ rfl
    have x2 : wr.cell? ⟨gq, i * 3 + 2, none⟩ = some (.string (strS t)) := hcell 2 _ rfl
    obtain ⟨W3, hW3⟩ : ∃ W3, wr.alloc (.cells #[.int .i64 a, .int .i64 ln, .string (strS t)] 76) = W3 := ⟨_, rfl⟩
    have hbx : W3.heap[wr.heap.size]? = some (.cells #[.int .i64 a, .int .i64 ln, .string (strS t)] 76 (0, 0)) := by rw [← hW3]; exact heap_new1 wr _
    have hk3 : Kept (fun _ => False) wr W3 := by rw [← hW3]; exact (Kept.refl _ wr).alloc _
    have HB3 := Lib.hid (HB.out.kept hk3 (fun _ _ f => f))
    have HK3 : Hid (Kept (foot b m v u (.slice (some ⟨gq, 0, none⟩) n cq)) w W3) := Lib.hid (HK.out.trans hk3 (fun _ _ f => f.elim))
    have y0 : W3.cell? ⟨wr.heap.size, 0, none⟩ = some (.int .i64 a) := by rw [cell_at W3 _ 0 _ _ hbx]; rfl
    have y1 : W3.cell? ⟨wr.heap.size, 1, none⟩ = some (.int .i64 ln) := by rw [cell_at W3 _ 1 _ _ hbx]; rfl
    have y2 : W3.cell? ⟨wr.heap.size, 2, none⟩ = some (.string (strS t)) := by rw [cell_at W3 _ 2 _ _ hbx]; rfl
    obtain ⟨⟨c0, c1, c2, c3, c4⟩, _⟩ := HB3.out.cells
    have hl1 := names_look HB3.out.names t (by unfold maxLen; omega)
    have hl2 := names_look (HB3.out.names.kept ((Kept.refl (fun _ => False) W3).drew) (fun f => f)) t (by unfold maxLen; omega)
    clear hj hjm hq2 hcell hbx hk3 hrow
    cases hf : findA s.labs t with
    | none =>
      rw [hf] at HL hl1 hl2
      have HF : Hid (LinkTo B b m w v u (.slice (some ⟨gq, 0, none⟩) n cq) s (linkA s.labs s.code s.jmps) (.returned (spotV W3.heap.size)) ((W3.drew).alloc (.cells (spotC (4, ln)) 67))) := Lib.hid (by
        rw [HL.out]
        exact ⟨HK3.out.drew.alloc _, W3.heap.size, HK3.out.size, rfl, heap_new1 W3.drew _⟩)
      clear hf
      go_wp2_with fail
      go_region
      all_goals go_wp2_with fail
      all_goals (refine (HS.out _ _).mono ?_)
      all_goals (rintro e w4 ⟨rfl, rfl⟩)
      all_goals go_wp2_with fail
      all_goals go_ret
      all_goals exact HF.out
    | some k =>
      rw [hf] at HL hl1 hl2
      obtain ⟨x, hx⟩ : ∃ x, c[a]? = some x := ⟨_, List.getElem?_eq_getElem (by rw [HC.out]; exact hac)⟩
      have hrc := HB3.out.code
      change W3.ownsRow B _ 5 _ c.length (flat insC c) at hrc
      rw [HC.out] at hrc
      obtain ⟨gv, capv, rfl, _⟩ := own_form hrc (by omega)
      have HPE : Hid (∀ W', Kept (fun _ => False) W3 W' → W'.cell? ⟨gv, a * 5 + 4, none⟩ = some (.int .i64 x.n) ∧ W'.frozen? ⟨gv, a * 5 + 4, none⟩ = false ∧ Bld B b m (W'.setCell ⟨gv, a * 5 + 4, none⟩ (.int .i64 k)) ⟨c.modify a (fun x => { x with n := k }), s.labs, s.jmps, s.line⟩ (.slice (some ⟨gv, 0, none⟩) s.code.length capv) u (.slice (some ⟨gq, 0, none⟩) n cq) ∧
          Kept (foot b m (.slice (some ⟨gv, 0, none⟩) s.code.length capv) u (.slice (some ⟨gq, 0, none⟩) n cq)) w (W'.setCell ⟨gv, a * 5 + 4, none⟩ (.int .i64 k))) := Lib.hid (fun W' hk => by
        obtain ⟨p1, p2, p3, p4⟩ := place_end (k := k) (HB3.out.kept hk (fun _ _ f => f)) (by show _ = Value.slice (some ⟨gv, 0, none⟩) c.length capv; rw [HC.out]) hx
        exact ⟨p1, p2, p3, (HK3.out.trans hk (fun _ _ f => f.elim)).trans p4 (fun i _ e => .inr (.inr (.inl e)))⟩)
      obtain ⟨q1, q2, _⟩ := HPE.out W3 (Kept.refl _ _)
      have hac' : (a : Int) < (s.code.length : Int) := by omega
      have hcn : (c.modify a (fun x => { x with n := k })).length = s.code.length := by rw [List.length_modify, HC.out]
      have HCN := Lib.hid hcn
      clear hf hx hrc hcn
      go_wp2_with fail
      go_region
      all_goals go_wp2_with fail
      all_goals go_region
      all_goals go_wp2_with fail
      all_goals (refine ⟨⟨i + 1, _, by go_num, by omega, HCN.out, HL.out, ?_, ?_⟩, by simp [intOf]; omega⟩)
      · exact (HPE.out W3 (Kept.refl _ _)).2.2.1.kept ((Kept.refl (fun _ => False) _).drew.drew) (fun _ _ f => f)
      · exact (HPE.out W3 (Kept.refl _ _)).2.2.2.drew.drew

end Go.Proofs.YtlhnbihpefgcbaaGreatDoor
