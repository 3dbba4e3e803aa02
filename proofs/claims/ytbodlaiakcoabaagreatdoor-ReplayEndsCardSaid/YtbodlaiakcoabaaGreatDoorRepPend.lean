/-
  From event to event: through.
  Conditions: the script and the events lie in memory; the events are of 64-bit numbers, 20000 at most.
  A history, gone through: Run, number, Pending.
  Conditions: the script and the events lie in memory; the events are of 64-bit numbers, 20000 at most.
  The calls that are on: number, Pending.
  Conditions: the script and the events lie in memory; the events are of 64-bit numbers, 20000 at most.
-/
import Derived.Test.YtbodlaiakcoabaaGreatDoorRepArg
import Derived.Test.YtbodlaiakcoabaaGreatDoorRepStart
import Derived.Test.YtbodlaiakcoabaaGreatDoorFew
import Derived.OwnWalk
section
namespace Go.Proofs.YtbodlaiakcoabaaGreatDoor
open Go.RowKit
set_option linter.unusedSimpArgs false
set_option linter.unusedVariables false
set_option maxRecDepth 100000

theorem ev_at {w : World} {B : Nat} {s : Option Addr} {l : List Ev} (h : Elems w B s 7 Ev.cells l) {k : Nat} {ev : Ev} (hk : l[k]? = some ev) :
    ∃ g off, s = some ⟨g, off, none⟩ ∧ g < B ∧ w.cell? ⟨g, off + k * 7, none⟩ = some (.int .i64 ev.kind) ∧ w.cell? ⟨g, off + k * 7 + 1, none⟩ = some (.int .i64 ev.thread) ∧ w.cell? ⟨g, off + k * 7 + 2, none⟩ = some (.int .i64 ev.now) ∧ w.cell? ⟨g, off + k * 7 + 3, none⟩ = some (.int .i64 ev.m.kind) ∧
      w.cell? ⟨g, off + k * 7 + 4, none⟩ = some (.int .i64 ev.m.v) ∧ w.cell? ⟨g, off + k * 7 + 5, none⟩ = some (.int .i64 ev.value) ∧ w.cell? ⟨g, off + k * 7 + 6, none⟩ = some (.int .i64 ev.got) := by
  obtain ⟨g, off, e, hb, hc⟩ := h.2 k ev hk
  exact ⟨g, off, e, hb, hc 0 _ rfl, hc 1 _ rfl, hc 2 _ rfl, hc 3 _ rfl, hc 4 _ rfl, hc 5 _ rfl, hc 6 _ rfl⟩

theorem good_start {x : Sc} (hl : largeF x = false) (hg : goodF x = true) : Good 0 (startM x.obs (x.prs.map Pr.ops)) := by
  unfold largeF at hl
  simp at hl
  unfold goodF at hg
  simp only [Bool.and_eq_true, bne_iff_ne, List.all_eq_true] at hg
  obtain ⟨⟨⟨⟨h1, h2⟩, h3⟩, h4⟩, h5⟩ := hg
  obtain ⟨⟨⟨l1, l2⟩, l3⟩, l4⟩ := hl
  refine ⟨by simpa [startM] using l2, by simpa [startM] using l1, by simp [startM], Int.le_refl _, by show (0 : Int) ≤ _; decide, fun y hy => ?_, fun t ht => ?_, fun j y hj hne => ?_⟩
  · obtain ⟨o, ho, rfl⟩ := List.mem_map.1 hy
    exact sound_new (h3 o ho)
  · obtain ⟨p, hp, rfl⟩ := List.mem_map.1 ht
    obtain ⟨pr, hpr, rfl⟩ := List.mem_map.1 hp
    refine ⟨Nat.zero_le _, ?_, fun op hop => ?_, Int.le_refl _, Int.le_refl _, fun c hc => by cases hc⟩
    · have := l4 pr hpr
      unfold smallF at this
      simpa using this
    · have h6 := h4 pr hpr
      unfold progF at h6
      rw [List.all_eq_true] at h6
      have h7 := h6 op hop
      unfold clF at h7
      simp only [Bool.and_eq_true, decide_eq_true_eq] at h7
      exact ⟨h7.1.1.1.2, h7.1.1.2⟩
  · have hy : (x.obs.map (fun o => newM o.kind o.n))[j]? = some y := hj
    rw [List.getElem?_map] at hy
    cases ho : x.obs[j]? with
    | none => rw [ho] at hy; simp at hy
    | some o =>
      rw [ho] at hy
      simp only [Option.map_some, Option.some.injEq] at hy
      subst hy
      exact absurd rfl hne

/-- What through tells of a script that may be. -/
def ThrTo (x : Sc) (L : List Ev) (w : World) (e : Ending) (w' : World) : Prop :=
  Kept (fun _ => False) w w' ∧
  ((∃ k, goM (startM x.obs (x.prs.map Pr.ops)) 0 L = .inl k ∧ ∃ g, e = .returned (.tuple #[.pointer none, .iface 63 (.pointer (some ⟨g, 0, none⟩))]) ∧ w'.heap[g]? = some (.cells #[.int .i64 (k : Int), .iface 48 (.int .i64 7)] 68 (0, 0))) ∨
   (∃ σ, goM (startM x.obs (x.prs.map Pr.ops)) 0 L = .inr σ ∧ ∃ p, e = .returned (.tuple #[.pointer (some ⟨p, 0, none⟩), .nilIface]) ∧ ∃ B κ m, In B p κ w' σ m ∧ w.heap.size ≤ B ∧ Good L.length σ))

theorem goM_step {σ0 σ : St} {L : List Ev} {k : Nat} {ev : Ev} (h : goM σ0 0 L = goM σ k (L.drop k)) (hk : L[k]? = some ev) :
    goM σ0 0 L = match evM σ ev with | none => .inl k | some σ' => goM σ' (k + 1) (L.drop (k + 1)) := by
  obtain ⟨h1, e1⟩ := List.getElem?_eq_some_iff.1 hk
  rw [h, List.drop_eq_getElem_cons h1, e1]
  rfl
set_option maxHeartbeats 8000000 in
theorem thr_any (x : Sc) (L : List Ev) (s : Option Addr) (cap : Nat) (w : World) (h : Lies w w.heap.size x) (hE : Elems w w.heap.size s 7 Ev.cells L) (h64 : ∀ ev ∈ L, Ev64 ev) (hn : L.length ≤ 20000) (hl : largeF x = false) (hg : goodF x = true) :
    Calls Tryz.prog 16 #[x.agg, .slice s L.length cap] w (ThrTo x L w) := by
  obtain ⟨W0, hW0⟩ : ∃ W0, w.alloc (.cells #[.slice x.os x.obs.length x.oc, .slice x.ps x.prs.length x.pc, .slice x.ks x.pis.length x.kc] 26) = W0 := ⟨_, rfl⟩
  have hk0 : Kept (fun _ => False) w W0 := by rw [← hW0]; exact (Kept.refl _ _).alloc _
  have hn0 : W0.heap[w.heap.size]? = some (.cells #[.slice x.os x.obs.length x.oc, .slice x.ps x.prs.length x.pc, .slice x.ks x.pis.length x.kc] 26 (0, 0)) := by rw [← hW0]; exact heap_new1 _ _
  have SC : Hid (∀ w', Kept (fun _ => False) W0 w' → w'.cell? ⟨w.heap.size, 0, none⟩ = some (.slice x.os x.obs.length x.oc) ∧ w'.cell? ⟨w.heap.size, 1, none⟩ = some (.slice x.ps x.prs.length x.pc) ∧ w'.cell? ⟨w.heap.size, 2, none⟩ = some (.slice x.ks x.pis.length x.kc)) := Lib.hid (fun w' hk => by
    have hb := hk.at0 hn0
    exact ⟨by rw [cell_at _ _ 0 _ _ hb]; rfl, by rw [cell_at _ _ 1 _ _ hb]; rfl, by rw [cell_at _ _ 2 _ _ hb]; rfl⟩)
  have HX := Lib.hid h
  have HE := Lib.hid hE
  have HK0 := Lib.hid hk0
  have HEV := Lib.hid h64
  have hgs := good_start hl hg
  have HGS := Lib.hid hgs
  have hx0 := h.kept hk0 (Nat.le_refl _) (fun _ _ f => f)
  have HCK := Lib.hid (check_small (x := x) hx0 hk0.size hl true hg)
  obtain ⟨s0, s1, s2⟩ := SC.out W0 (Kept.refl _ _)
  have n1 : (L.length : Int) ≤ 20000 := by omega
  clear h hE hk0 hn0 h64 hgs hx0
  go_enter Tryz.func16, Tryz.ntmps16
  go_wp2_with fail
  refine (HCK.out).mono ?_
  rintro e w1 ⟨rfl, hk1⟩
  obtain ⟨t0, t1, t2⟩ := SC.out w1 hk1
  have HK1 := Lib.hid (HK0.out.tr0 hk1)
  have HST := Lib.hid (start_any x w1 ((HX.out.kept HK1.out (Nat.le_refl _) (fun _ _ f => f)).more HK1.out.size) hl hg)
  clear hk1
  go_wp2_with fail
  refine HST.out.mono ?_
  rintro e w2 ⟨p, rfl, κ0, m0, hI0, hk2⟩
  have HI0 := Lib.hid hI0
  have HK2 := Lib.hid (HK1.out.tr0 hk2)
  have hB1 : w.heap.size ≤ w1.heap.size := HK1.out.size
  clear hI0 hk2
  go_wp2_with fail
  go_loopw [23] (fun i wr => ∃ (k : Nat) (κ : Nat → Nat) (m : Mem) (σ : St), i = .int .i64 k ∧ k ≤ L.length ∧ In w1.heap.size p κ wr σ m ∧ Good k σ ∧ goM (startM x.obs (x.prs.map Pr.ops)) 0 L = goM σ k (L.drop k) ∧ Kept (fun _ => False) w wr) (fun i _ => L.length - (intOf i).toNat)
  case atStart => exact ⟨0, κ0, m0, _, rfl, by omega, HI0.out, HGS.out, rfl, HK2.out⟩
  case round =>
    obtain ⟨k, κ, m, σ, rfl, hk1, hI, hG, hgo, hkr⟩ := hrel
    by_cases hkk : k < L.length
    · obtain ⟨ev, hev⟩ : ∃ ev, L[k]? = some ev := ⟨_, List.getElem?_eq_getElem hkk⟩
      obtain ⟨g, off, rfl, -, c0, c1, c2, c3, c4, c5, c6⟩ := ev_at (HE.out.kept hkr (Nat.le_refl _) (fun _ _ f => f)) hev
      have k0 : (0 : Int) ≤ (k : Int) := by omega
      have k1 : (k : Int) < (L.length : Int) := by omega
      obtain ⟨WA, hWA⟩ : ∃ WA, wr.alloc (.cells #[.int .i64 ev.kind, .int .i64 ev.thread, .int .i64 ev.now, .int .i64 ev.m.kind, .int .i64 ev.m.v, .int .i64 ev.value, .int .i64 ev.got] 38) = WA := ⟨_, rfl⟩
      have hka : Kept (fun _ => False) wr WA := by rw [← hWA]; exact (Kept.refl _ _).alloc _
      have hna : WA.heap[wr.heap.size]? = some (.cells #[.int .i64 ev.kind, .int .i64 ev.thread, .int .i64 ev.now, .int .i64 ev.m.kind, .int .i64 ev.m.v, .int .i64 ev.value, .int .i64 ev.got] 38 (0, 0)) := by rw [← hWA]; exact heap_new1 _ _
      obtain ⟨d0, d1, d2, d3, d4, d5, d6⟩ := ev_cells hna
      have hIA := hI.step (Step.of0 (C := fun _ => False) hka hI.wl) (fun _ f => f.elim)
      have HC := Lib.hid (event_any w1.heap.size p κ WA σ m hIA k hG (by omega) ev (HEV.out ev (List.mem_of_getElem? hev)))
      have HLOW := Lib.hid hI.low
      have HKA := Lib.hid (hkr.tr0 hka)
      have HEVK := Lib.hid hev
      have HGO := Lib.hid hgo
      have HG := Lib.hid hG
      have HKK := Lib.hid hkk
      clear hka hna hI hIA hev hgo hG hkr
      have fin : ∀ w5, Kept (fun b => κ b ≠ 0) WA w5 → Kept (fun _ => False) w w5 := fun w5 hk => HKA.out.trans hk (fun b hb hc => by have := HLOW.out b hc; omega)
      have HFIN := Lib.hid fin; clear fin
      cases hres : evM σ ev with
      | none =>
        rw [hres] at HC
        have HGM := Lib.hid (goM_step HGO.out HEVK.out)
        rw [hres] at HGM
        go_wp2_with fail
        refine HC.out.mono ?_
        rintro e w5 ⟨rfl, -, hk5⟩
        have HK5 := Lib.hid (HFIN.out _ hk5); clear hk5
        go_wp2_with fail
        go_ret2
        exact ⟨HK5.out.alloc _, .inl ⟨k, HGM.out, w5.heap.size, rfl, heap_new1 _ _⟩⟩
      | some σ' =>
        rw [hres] at HC
        have HGM := Lib.hid (goM_step HGO.out HEVK.out)
        rw [hres] at HGM
        have HG' := Lib.hid (good_ev HG.out (HEV.out ev (List.mem_of_getElem? HEVK.out)).n1 hres)
        go_wp2_with fail
        refine HC.out.mono ?_
        rintro e w5 ⟨rfl, hB5, hk5⟩
        obtain ⟨κ', m', hI5⟩ := hB5 σ' rfl
        have HK5 := Lib.hid (HFIN.out _ hk5)
        have HI5 := Lib.hid hI5
        clear hk5 hB5 hI5
        go_wp2_with fail
        go_roundw
        case rel => exact ⟨k + 1, κ', m', σ', by go_num, by omega, HI5.out, HG'.out, HGM.out, HK5.out⟩
        case measure => simp [intOf]; omega
    · have k1 : ¬ ((k : Int) < (L.length : Int)) := by omega
      obtain rfl : k = L.length := by omega
      have HT : Hid (ThrTo x L w (.returned (.tuple #[.pointer (some ⟨p, 0, none⟩), .nilIface])) wr) := Lib.hid ⟨hkr, .inr ⟨σ, by rw [hgo, List.drop_length]; rfl, p, rfl, w1.heap.size, κ, m, hI, hB1, hG⟩⟩
      clear hI hG hgo hkr hkk hk1
      go_wp2_with fail
      go_ret2
      exact HT.out

/-- Of a script that may not be. -/
theorem thr_bad (x : Sc) (L : Nat) (s : Option Addr) (cap : Nat) (w : World) (h : Lies w w.heap.size x) (hlg : (largeF x = false ∧ goodF x = true) → False) :
    Calls Tryz.prog 16 #[x.agg, .slice s L cap] w fun e w' => ∃ c : Int, e = .returned (.tuple #[.pointer none, .iface 48 (.int .i64 c)]) ∧ Kept (fun _ => False) w w' := by
  obtain ⟨W0, hW0⟩ : ∃ W0, w.alloc (.cells #[.slice x.os x.obs.length x.oc, .slice x.ps x.prs.length x.pc, .slice x.ks x.pis.length x.kc] 26) = W0 := ⟨_, rfl⟩
  have hk0 : Kept (fun _ => False) w W0 := by rw [← hW0]; exact (Kept.refl _ _).alloc _
  have hn0 : W0.heap[w.heap.size]? = some (.cells #[.slice x.os x.obs.length x.oc, .slice x.ps x.prs.length x.pc, .slice x.ks x.pis.length x.kc] 26 (0, 0)) := by rw [← hW0]; exact heap_new1 _ _
  have s0 : W0.cell? ⟨w.heap.size, 0, none⟩ = some (.slice x.os x.obs.length x.oc) := by rw [cell_at _ _ 0 _ _ hn0]; rfl
  have s1 : W0.cell? ⟨w.heap.size, 1, none⟩ = some (.slice x.ps x.prs.length x.pc) := by rw [cell_at _ _ 1 _ _ hn0]; rfl
  have s2 : W0.cell? ⟨w.heap.size, 2, none⟩ = some (.slice x.ks x.pis.length x.kc) := by rw [cell_at _ _ 2 _ _ hn0]; rfl
  have hx0 := h.kept hk0 (Nat.le_refl _) (fun _ _ f => f)
  have HCK : Hid (∃ c : Int, Calls Tryz.prog 21 #[x.agg] W0 fun e w' => e = .returned (.iface 48 (.int .i64 c)) ∧ Kept (fun _ => False) W0 w') := Lib.hid (by
    cases hl : largeF x with
    | true => exact ⟨8, check_large (x := x) hx0 hk0.size hl⟩
    | false =>
      cases hg : goodF x with
      | true => exact (hlg ⟨hl, hg⟩).elim
      | false => exact ⟨1, check_small (x := x) hx0 hk0.size hl false hg⟩)
  have HK0 := Lib.hid hk0
  obtain ⟨c, hc⟩ := HCK.out
  have HC := Lib.hid hc
  clear h hk0 hn0 hx0 hlg HCK hc
  go_enter Tryz.func16, Tryz.ntmps16
  go_wp2_with fail
  refine (HC.out).mono ?_
  rintro e w1 ⟨rfl, hk1⟩
  have HK1 := Lib.hid (HK0.out.tr0 hk1)
  clear hk1
  go_wp2_with fail
  go_ret2
  exact ⟨c, rfl, HK1.out⟩

end Go.Proofs.YtbodlaiakcoabaaGreatDoor
end
section
namespace Go.Proofs.YtbodlaiakcoabaaGreatDoor
open Go.RowKit
set_option linter.unusedSimpArgs false
set_option linter.unusedVariables false
set_option maxRecDepth 100000

/-- Things that Run tells. -/
structure Told11 (w w' : World) (v : Value) (xs : List Th) (tts : List Tt) : Prop where
  own : ∃ g c, v = .slice (some ⟨g, 0, none⟩) tts.length c ∧ w.heap.size ≤ g ∧ Row w' g c 42 15 Tt.cells tts
  same : tts.map Tt.x = xs
  ws : ∀ t ∈ tts, ∃ Q, ElemsQ Q w' t.s 2 Wt.cells t.x.ws
  wg : ∀ t ∈ tts, ∀ g c, v = .slice (some ⟨g, 0, none⟩) tts.length c → ElemsQ (fun b => b ≠ g) w' t.s 2 Wt.cells t.x.ws
def RunTo (x : Sc) (L : List Ev) (w : World) (e : Ending) (w' : World) : Prop :=
  Kept (fun _ => False) w w' ∧
  ((∃ k, goM (startM x.obs (x.prs.map Pr.ops)) 0 L = .inl k ∧ ∃ g, e = .returned (.tuple #[.slice none 0 0, .iface 63 (.pointer (some ⟨g, 0, none⟩))]) ∧ w'.heap[g]? = some (.cells #[.int .i64 (k : Int), .iface 48 (.int .i64 7)] 68 (0, 0))) ∨
   (∃ σ, goM (startM x.obs (x.prs.map Pr.ops)) 0 L = .inr σ ∧ ∃ g c tts, e = .returned (.tuple #[.slice (some ⟨g, 0, none⟩) tts.length c, .nilIface]) ∧ Told11 w w' (.slice (some ⟨g, 0, none⟩) tts.length c) σ.things tts ∧ Good L.length σ))

set_option maxHeartbeats 2000000 in
theorem run_any (x : Sc) (L : List Ev) (s : Option Addr) (cap : Nat) (w : World) (h : Lies w w.heap.size x) (hE : Elems w w.heap.size s 7 Ev.cells L) (h64 : ∀ ev ∈ L, Ev64 ev) (hn : L.length ≤ 20000) (hl : largeF x = false) (hg : goodF x = true) :
    Calls Tryz.prog 11 #[x.agg, .slice s L.length cap] w (RunTo x L w) := by
  obtain ⟨W0, hW0⟩ : ∃ W0, w.alloc (.cells #[.slice x.os x.obs.length x.oc, .slice x.ps x.prs.length x.pc, .slice x.ks x.pis.length x.kc] 26) = W0 := ⟨_, rfl⟩
  have hk0 : Kept (fun _ => False) w W0 := by rw [← hW0]; exact (Kept.refl _ _).alloc _
  have hn0 : W0.heap[w.heap.size]? = some (.cells #[.slice x.os x.obs.length x.oc, .slice x.ps x.prs.length x.pc, .slice x.ks x.pis.length x.kc] 26 (0, 0)) := by rw [← hW0]; exact heap_new1 _ _
  have s0 : W0.cell? ⟨w.heap.size, 0, none⟩ = some (.slice x.os x.obs.length x.oc) := by rw [cell_at _ _ 0 _ _ hn0]; rfl
  have s1 : W0.cell? ⟨w.heap.size, 1, none⟩ = some (.slice x.ps x.prs.length x.pc) := by rw [cell_at _ _ 1 _ _ hn0]; rfl
  have s2 : W0.cell? ⟨w.heap.size, 2, none⟩ = some (.slice x.ks x.pis.length x.kc) := by rw [cell_at _ _ 2 _ _ hn0]; rfl
  have HC := Lib.hid (thr_any x L s cap W0 ((h.kept hk0 (Nat.le_refl _) (fun _ _ f => f)).more hk0.size) ((hE.kept hk0 (Nat.le_refl _) (fun _ _ f => f)).more hk0.size) h64 hn hl hg)
  have HK0 := Lib.hid hk0
  clear h hE hk0 hn0
  go_enter Tryz.func11, Tryz.ntmps11
  go_wp2_with fail
  refine HC.out.mono ?_
  rintro e w1 ⟨hk1, hT⟩
  rcases hT with ⟨k, hgo, g, rfl, hsp⟩ | ⟨σ, hgo, p, rfl, B, κ, m, hI, hB, hG⟩
  · have HT : Hid (RunTo x L w (.returned (.tuple #[.slice none 0 0, .iface 63 (.pointer (some ⟨g, 0, none⟩))])) w1) := Lib.hid ⟨HK0.out.tr0 hk1, .inl ⟨k, hgo, g, rfl, hsp⟩⟩
    clear hk1 hgo hsp
    go_wp2_with fail
    go_ret2
    exact HT.out
  · have a := hI.cells
    obtain ⟨a0, a1, a2, a3⟩ := a
    have hgt : w.heap.size ≤ m.tg := Nat.le_trans HK0.out.size (Nat.le_trans hB (hI.low m.tg (by rw [hI.tcol]; decide)))
    have HT : Hid (RunTo x L w (.returned (.tuple #[.slice (some ⟨m.tg, 0, none⟩) m.tts.length m.tc, .nilIface])) w1) := Lib.hid ⟨HK0.out.tr0 hk1, .inr ⟨σ, hgo, m.tg, m.tc, m.tts, rfl, ⟨⟨_, _, rfl, hgt, hI.things⟩, hI.same, fun t ht => ⟨_, hI.ws t ht⟩, fun t ht g c e => by
      simp only [Value.slice.injEq, Option.some.injEq, Addr.mk.injEq, and_true, true_and] at e
      obtain ⟨e, _⟩ := e
      exact (hI.ws t ht).mono (fun b hb hbg => by rw [hbg, ← e, hI.tcol] at hb; cases hb)⟩, hG⟩⟩
    clear hk1 hgo hI hG
    go_wp2_with fail
    go_ret2
    exact HT.out
theorem run_bad (x : Sc) (L : Nat) (s : Option Addr) (cap : Nat) (w : World) (h : Lies w w.heap.size x) (hlg : (largeF x = false ∧ goodF x = true) → False) :
    Calls Tryz.prog 11 #[x.agg, .slice s L cap] w fun e w' => ∃ c : Int, e = .returned (.tuple #[.slice none 0 0, .iface 48 (.int .i64 c)]) ∧ Kept (fun _ => False) w w' := by
  obtain ⟨W0, hW0⟩ : ∃ W0, w.alloc (.cells #[.slice x.os x.obs.length x.oc, .slice x.ps x.prs.length x.pc, .slice x.ks x.pis.length x.kc] 26) = W0 := ⟨_, rfl⟩
  have hk0 : Kept (fun _ => False) w W0 := by rw [← hW0]; exact (Kept.refl _ _).alloc _
  have hn0 : W0.heap[w.heap.size]? = some (.cells #[.slice x.os x.obs.length x.oc, .slice x.ps x.prs.length x.pc, .slice x.ks x.pis.length x.kc] 26 (0, 0)) := by rw [← hW0]; exact heap_new1 _ _
  have s0 : W0.cell? ⟨w.heap.size, 0, none⟩ = some (.slice x.os x.obs.length x.oc) := by rw [cell_at _ _ 0 _ _ hn0]; rfl
  have s1 : W0.cell? ⟨w.heap.size, 1, none⟩ = some (.slice x.ps x.prs.length x.pc) := by rw [cell_at _ _ 1 _ _ hn0]; rfl
  have s2 : W0.cell? ⟨w.heap.size, 2, none⟩ = some (.slice x.ks x.pis.length x.kc) := by rw [cell_at _ _ 2 _ _ hn0]; rfl
  have HC := Lib.hid (thr_bad x L s cap W0 ((h.kept hk0 (Nat.le_refl _) (fun _ _ f => f)).more hk0.size) hlg)
  have HK0 := Lib.hid hk0
  clear h hk0 hn0 hlg
  go_enter Tryz.func11, Tryz.ntmps11
  go_wp2_with fail
  refine (HC.out).mono ?_
  rintro e w1 ⟨c, rfl, hk1⟩
  have HK1 := Lib.hid (HK0.out.tr0 hk1)
  clear hk1
  go_wp2_with fail
  go_ret2
  exact ⟨c, rfl, HK1.out⟩

end Go.Proofs.YtbodlaiakcoabaaGreatDoor
end
section
namespace Go.Proofs.YtbodlaiakcoabaaGreatDoor
open Go.RowKit
set_option linter.unusedSimpArgs false
set_option linter.unusedVariables false
set_option maxRecDepth 100000

def pendH (h : Hh) : Int := match h.ptr with | none => -1 | some _ => (h.begun : Int) - 1
def pendM (t : Tr) : Int := match t.call with | none => -1 | some _ => (t.begun : Int) - 1
theorem number_any (h : Hh) (b : Nat) (w : World) (hb : h.begun ≤ 1000) (hh : w.heap[b]? = some (.cells h.cells.toArray 60 (0, 0))) :
    Calls Tryz.prog 17 #[.pointer (some ⟨b, 0, none⟩)] w fun e w' => e = .returned (.int .i64 (pendH h)) ∧ Kept (fun _ => False) w w' := by
  have c1 : w.cell? ⟨b, 1, none⟩ = some (.int .i64 h.begun) := by rw [cell_at w b 1 _ _ hh]; rfl
  have c2 : w.cell? ⟨b, 2, none⟩ = some (.pointer (h.ptr.map fun b => ⟨b, 0, none⟩)) := by rw [cell_at w b 2 _ _ hh]; rfl
  clear hh
  unfold pendH
  cases hp : h.ptr with
  | none =>
    rw [hp] at c2
    have c2' : w.cell? ⟨b, 2, none⟩ = some (.pointer none) := c2
    clear c2
    go_enter Tryz.func17, Tryz.ntmps17
    go_wp2_with fail
    go_ret
    exact ⟨rfl, Kept.refl _ _⟩
  | some q =>
    rw [hp] at c2
    have c2' : w.cell? ⟨b, 2, none⟩ = some (.pointer (some ⟨q, 0, none⟩)) := c2
    clear c2
    go_enter Tryz.func17, Tryz.ntmps17
    go_wp2_with fail
    go_ret
    exact ⟨rfl, Kept.refl _ _⟩
theorem info_int : (Tryz.prog.info? 3).map (fun i => (i.zero, i.size, i.bytes)) = some (some (.int .i64 0), 1, 8) := by kernel_rfl
theorem intC_one (a : Int) : (intC a).length = 1 := rfl
theorem made_ints (n : Nat) : (madeCells #[.int .i64 0] n).toList = flat intC (List.replicate n 0) := by
  apply List.ext_getElem?
  intro k
  have hl := flat_len intC_one (List.replicate n 0)
  rw [List.length_replicate] at hl
  by_cases hk : k < n
  · have h1 : (List.replicate n (0 : Int))[k]? = some 0 := by rw [List.getElem?_replicate]; rw [if_pos (by omega)]
    have h2 := flat_at intC_one (List.replicate n 0) k 0 0 h1 (by omega)
    rw [show k * 1 + 0 = k from by omega] at h2
    rw [h2]
    simp [madeCells, hk, intC, Nat.mod_one]
  · rw [List.getElem?_eq_none (by simp [size_madeCells]; omega), List.getElem?_eq_none (by omega)]

/-- What Pending tells. -/
def PendTo (x : Sc) (L : List Ev) (w : World) (e : Ending) (w' : World) : Prop :=
  Kept (fun _ => False) w w' ∧
  ((∃ k, goM (startM x.obs (x.prs.map Pr.ops)) 0 L = .inl k ∧ e = .returned (.slice none 0 0)) ∨
   (∃ σ, goM (startM x.obs (x.prs.map Pr.ops)) 0 L = .inr σ ∧ Good L.length σ ∧ ∃ g, w.heap.size ≤ g ∧ e = .returned (.slice (some ⟨g, 0, none⟩) σ.threads.length σ.threads.length) ∧ Row w' g σ.threads.length 3 1 intC (σ.threads.map pendM)))

theorem pend_same {B p : Nat} {κ : Nat → Nat} {w : World} {σ : St} {m : Mem} (q : In B p κ w σ m) : m.hs.map pendH = σ.threads.map pendM := by
  apply List.ext_getElem?
  intro i
  rw [List.getElem?_map, List.getElem?_map]
  cases hh : m.hs[i]? with
  | none =>
    have : σ.threads.length ≤ i := by rw [← q.hlen]; exact List.getElem?_eq_none_iff.1 hh
    rw [List.getElem?_eq_none this]; rfl
  | some h =>
    have hl := (List.getElem?_eq_some_iff.1 hh).1
    obtain ⟨t, ht⟩ : ∃ t, σ.threads[i]? = some t := ⟨_, List.getElem?_eq_getElem (by rw [← q.hlen]; exact hl)⟩
    rw [ht]
    have hT := q.th i h t hh ht
    have hc := hT.call
    simp only [Option.map_some, Option.some.injEq]
    unfold pendH pendM
    cases e1 : h.ptr with
    | none =>
      cases e2 : t.call with
      | none => rfl
      | some c => rw [e1, e2] at hc; exact hc.elim
    | some b =>
      cases e2 : t.call with
      | none => rw [e1, e2] at hc; exact hc.elim
      | some c => simp only; rw [hT.begun]

set_option maxHeartbeats 8000000 in
theorem pend_any (x : Sc) (L : List Ev) (s : Option Addr) (cap : Nat) (w : World) (h : Lies w w.heap.size x) (hE : Elems w w.heap.size s 7 Ev.cells L) (h64 : ∀ ev ∈ L, Ev64 ev) (hn : L.length ≤ 20000) (hl : largeF x = false) (hg : goodF x = true) :
    Calls Tryz.prog 12 #[x.agg, .slice s L.length cap] w (PendTo x L w) := by
  obtain ⟨W0, hW0⟩ : ∃ W0, w.alloc (.cells #[.slice x.os x.obs.length x.oc, .slice x.ps x.prs.length x.pc, .slice x.ks x.pis.length x.kc] 26) = W0 := ⟨_, rfl⟩
  have hk0 : Kept (fun _ => False) w W0 := by rw [← hW0]; exact (Kept.refl _ _).alloc _
  have hn0 : W0.heap[w.heap.size]? = some (.cells #[.slice x.os x.obs.length x.oc, .slice x.ps x.prs.length x.pc, .slice x.ks x.pis.length x.kc] 26 (0, 0)) := by rw [← hW0]; exact heap_new1 _ _
  have s0 : W0.cell? ⟨w.heap.size, 0, none⟩ = some (.slice x.os x.obs.length x.oc) := by rw [cell_at _ _ 0 _ _ hn0]; rfl
  have s1 : W0.cell? ⟨w.heap.size, 1, none⟩ = some (.slice x.ps x.prs.length x.pc) := by rw [cell_at _ _ 1 _ _ hn0]; rfl
  have s2 : W0.cell? ⟨w.heap.size, 2, none⟩ = some (.slice x.ks x.pis.length x.kc) := by rw [cell_at _ _ 2 _ _ hn0]; rfl
  have HC := Lib.hid (thr_any x L s cap W0 ((h.kept hk0 (Nat.le_refl _) (fun _ _ f => f)).more hk0.size) ((hE.kept hk0 (Nat.le_refl _) (fun _ _ f => f)).more hk0.size) h64 hn hl hg)
  have HK0 := Lib.hid hk0
  clear h hE hk0 hn0
  obtain ⟨i0, hi, hz0, hz1, hz2⟩ := info_parts info_int
  have HI := Lib.hid hi
  have HZ0 := Lib.hid hz0
  have HZ1 := Lib.hid hz1
  have HZ2 := Lib.hid hz2
  clear hi hz0 hz1 hz2
  go_enter Tryz.func12, Tryz.ntmps12
  go_wp2_with fail
  refine HC.out.mono ?_
  rintro e w1 ⟨hk1, hT⟩
  rcases hT with ⟨k, hgo, g, rfl, hsp⟩ | ⟨σ, hgo, p, rfl, B, κ, m, hI, hB, hG⟩
  · have HT : Hid (PendTo x L w (.returned (.slice none 0 0)) w1) := Lib.hid ⟨HK0.out.tr0 hk1, .inl ⟨k, hgo, rfl⟩⟩
    clear hk1 hgo hsp
    go_wp2_with fail
    go_ret
    exact HT.out
  · obtain ⟨n, hnn⟩ : ∃ n, m.hs.length = n := ⟨_, rfl⟩
    have hbx := hI.box
    have a2 : w1.cell? ⟨p, 2, none⟩ = some (.slice (some ⟨m.hg, 0, none⟩) n m.hc) := by rw [cell_at w1 p _ _ _ hbx, ← hnn]; rfl
    have hn8 : n ≤ 8 := by rw [← hnn, hI.hlen]; exact hG.nthr
    have HN := Lib.hid hnn
    have HK1 := Lib.hid (HK0.out.tr0 hk1)
    have HIN := Lib.hid hI
    have HGO := Lib.hid hgo
    have HGG := Lib.hid hG
    have HBX := Lib.hid hbx
    clear hk1 hgo hI hG hnn hbx
    go_wp2_with (at_make; refine wpList_make_full _ rfl (.tmp 22) (.tmp 22) 44 rfl w1.heap.size 3 i0 (.int .i64 0) 1 Tryz.underlying44 HI.out HZ0.out HZ1.out .i64 .i64 n n n rfl rfl rfl rfl ?c1 ?c2 (Nat.le_refl _) ?_)
    case c1 => rw [HZ2.out]; omega
    case c2 => unfold maxLen; omega
    intro w2 hown hgrow
    have hown1 : w2.ownsRow w1.heap.size 3 1 (.slice (some ⟨w1.heap.size, 0, none⟩) n n) n (flat intC (List.replicate n 0)) := by rw [← made_ints]; exact hown
    have hR : Row w2 w1.heap.size n 3 1 intC (List.replicate n 0) := Row.made (by simp) (ownsRow_base hown1)
    have hk2 : Kept (fun _ => False) w1 w2 := (Kept.refl _ w1).grown hgrow (fun _ _ e => by simp at e)
    have b2 : w2.cell? ⟨p, 2, none⟩ = some (.slice (some ⟨m.hg, 0, none⟩) n m.hc) := (hk2.cell (World.block_lt_of_cell? _ _ a2) (fun f => f)).trans a2
    have HR := Lib.hid hR
    have HK2 := Lib.hid hk2
    clear hown hown1 hgrow hR hk2
    go_wp2_with fail
    go_loopw [29] (fun i wr => ∃ k : Nat, i = .int .i64 k ∧ k ≤ n ∧ Row wr w1.heap.size n 3 1 intC ((m.hs.take k).map pendH ++ List.replicate (n - k) 0) ∧ Kept (fun b => b = w1.heap.size) w2 wr) (fun i _ => n - (intOf i).toNat)
    case atStart => exact ⟨0, rfl, by omega, by simpa using HR.out, Kept.refl _ _⟩
    case round =>
      obtain ⟨k, rfl, hk1, hRr, hkr⟩ := hrel
      by_cases hkk : k < n
      · obtain ⟨h, hi⟩ : ∃ h, m.hs[k]? = some h := ⟨_, List.getElem?_eq_getElem (by rw [HN.out]; exact hkk)⟩
        obtain ⟨t, ht⟩ : ∃ t, σ.threads[k]? = some t := ⟨_, List.getElem?_eq_getElem (by rw [← HIN.out.hlen, HN.out]; exact hkk)⟩
        have hT := HIN.out.th k h t hi ht
        have hbg : h.begun ≤ 1000 := by have := (HGG.out.th t (List.mem_of_getElem? ht)); have := this.begun; have := this; have h3 := (HGG.out.th t (List.mem_of_getElem? ht)).ops; rw [hT.begun]; omega
        have hlt := HIN.out.threads.lt
        have hRt := (HIN.out.threads.kept HK2.out (fun f => f)).kept hkr (by omega)
        obtain ⟨z0, z1, z2, z3⟩ := th_cells hRt hi
        have k0 : (0 : Int) ≤ (k : Int) := by omega
        have k1 : (k : Int) < (n : Int) := by omega
        obtain ⟨WA, hWA⟩ : ∃ WA, wr.alloc (.cells #[.slice h.p.s h.p.ops.length h.p.cap, .int .i64 h.begun, .pointer (h.ptr.map fun b => ⟨b, 0, none⟩), .int .i64 h.breaks] 60) = WA := ⟨_, rfl⟩
        have hka : Kept (fun _ => False) wr WA := by rw [← hWA]; exact (Kept.refl _ _).alloc _
        have hna : WA.heap[wr.heap.size]? = some (.cells h.cells.toArray 60 (0, 0)) := by rw [← hWA]; exact heap_new1 _ _
        have HNUM := Lib.hid (number_any h wr.heap.size WA hbg hna)
        have hxk : ((m.hs.take k).map pendH ++ List.replicate (n - k) 0)[k]? = some 0 := by
          have hml := HN.out
          have hkl : ((m.hs.take k).map pendH).length = k := by rw [List.length_map, List.length_take]; omega
          rw [List.getElem?_append_right (by omega), hkl]
          rw [List.getElem?_replicate, if_pos (by omega)]
        have HFA : Hid (∀ w', Kept (fun _ => False) WA w' → w'.cell? ⟨w1.heap.size, k, none⟩ = some (.int .i64 0) ∧ w'.frozen? ⟨w1.heap.size, k, none⟩ = false ∧ Row (w'.setCell ⟨w1.heap.size, k, none⟩ (.int .i64 (pendH h))) w1.heap.size n 3 1 intC ((m.hs.take (k + 1)).map pendH ++ List.replicate (n - (k + 1)) 0) ∧ Kept (fun b => b = w1.heap.size) w2 (w'.setCell ⟨w1.heap.size, k, none⟩ (.int .i64 (pendH h)))) := Lib.hid (fun w' hk => by
          have hR2 := hRr.kept (hka.tr0 hk) (fun f => f)
          have hcl := hR2.cell intC_one (j := 0) hxk rfl
          have hst := Row.set intC_one hR2 hxk (j := 0) (x' := pendH h) (v := .int .i64 (pendH h)) (by omega) rfl
          rw [Nat.mul_one, Nat.add_zero] at hcl hst
          refine ⟨hcl, hR2.free _, ?_, ((hkr.trans (hka.tr0 hk) (fun _ _ f => f.elim)).setCell _ _ (fun _ => rfl))⟩
          have e : ((m.hs.take k).map pendH ++ List.replicate (n - k) 0).set k (pendH h) = (m.hs.take (k + 1)).map pendH ++ List.replicate (n - (k + 1)) 0 := by
            obtain ⟨h1, e1⟩ := List.getElem?_eq_some_iff.1 hi
            have hkl : ((m.hs.take k).map pendH).length = k := by rw [List.length_map, List.length_take]; omega
            rw [List.take_succ_eq_append_getElem h1, e1, List.map_append, List.set_append_right _ _ (by omega)]
            rw [hkl, Nat.sub_self, show n - k = (n - (k + 1)) + 1 from by omega, List.replicate_succ]
            simp
          rw [e] at hst
          exact hst)
        clear hRr hkr hi ht hT hRt hka hna hxk hlt
        go_wp2_with fail
        refine HNUM.out.mono ?_
        rintro e w5 ⟨rfl, hk5⟩
        obtain ⟨x0, x1, x2, x3⟩ := HFA.out w5 hk5
        have HX2 := Lib.hid x2
        have HX3 := Lib.hid x3
        clear x2 x3 hk5
        go_wp2_with fail
        go_roundw
        case rel => exact ⟨k + 1, by go_num, by omega, HX2.out, HX3.out⟩
        case measure => simp [intOf]; omega
      · have k1 : ¬ ((k : Int) < (n : Int)) := by omega
        have hkn : n = k := by omega
        subst hkn
        have hnl : n = σ.threads.length := by rw [← HN.out]; exact HIN.out.hlen
        have e : (m.hs.take n).map pendH ++ List.replicate (n - n) 0 = σ.threads.map pendM := by
          rw [List.take_of_length_le (by rw [HN.out]; exact Nat.le_refl _), Nat.sub_self, List.replicate_zero, List.append_nil]
          exact pend_same HIN.out
        rw [e] at hRr
        have HT : Hid (PendTo x L w (.returned (.slice (some ⟨w1.heap.size, 0, none⟩) n n)) wr) := Lib.hid ⟨(HK1.out.tr0 HK2.out).trans hkr (T := fun b => b = w1.heap.size) (S := fun _ => False) (fun b hb e => by have := HK1.out.size; omega), .inr ⟨σ, HGO.out, HGG.out, w1.heap.size, HK1.out.size, by rw [hnl], by rw [← hnl]; exact hRr⟩⟩
        clear hRr hkr hkk hk1 e hnl
        go_wp2_with fail
        go_ret
        exact HT.out

set_option maxHeartbeats 8000000 in
theorem pend_bad (x : Sc) (L : Nat) (s : Option Addr) (cap : Nat) (w : World) (h : Lies w w.heap.size x) (hlg : (largeF x = false ∧ goodF x = true) → False) :
    Calls Tryz.prog 12 #[x.agg, .slice s L cap] w fun e w' => e = .returned (.slice none 0 0) ∧ Kept (fun _ => False) w w' := by
  obtain ⟨W0, hW0⟩ : ∃ W0, w.alloc (.cells #[.slice x.os x.obs.length x.oc, .slice x.ps x.prs.length x.pc, .slice x.ks x.pis.length x.kc] 26) = W0 := ⟨_, rfl⟩
  have hk0 : Kept (fun _ => False) w W0 := by rw [← hW0]; exact (Kept.refl _ _).alloc _
  have hn0 : W0.heap[w.heap.size]? = some (.cells #[.slice x.os x.obs.length x.oc, .slice x.ps x.prs.length x.pc, .slice x.ks x.pis.length x.kc] 26 (0, 0)) := by rw [← hW0]; exact heap_new1 _ _
  have s0 : W0.cell? ⟨w.heap.size, 0, none⟩ = some (.slice x.os x.obs.length x.oc) := by rw [cell_at _ _ 0 _ _ hn0]; rfl
  have s1 : W0.cell? ⟨w.heap.size, 1, none⟩ = some (.slice x.ps x.prs.length x.pc) := by rw [cell_at _ _ 1 _ _ hn0]; rfl
  have s2 : W0.cell? ⟨w.heap.size, 2, none⟩ = some (.slice x.ks x.pis.length x.kc) := by rw [cell_at _ _ 2 _ _ hn0]; rfl
  have HC := Lib.hid (thr_bad x L s cap W0 ((h.kept hk0 (Nat.le_refl _) (fun _ _ f => f)).more hk0.size) hlg)
  have HK0 := Lib.hid hk0
  clear h hk0 hn0 hlg
  go_enter Tryz.func12, Tryz.ntmps12
  go_wp2_with fail
  refine (HC.out).mono ?_
  rintro e w1 ⟨c, rfl, hk1⟩
  have HK1 := Lib.hid (HK0.out.tr0 hk1)
  clear hk1
  go_wp2_with fail
  go_ret
  exact ⟨rfl, HK1.out⟩

end Go.Proofs.YtbodlaiakcoabaaGreatDoor
end
