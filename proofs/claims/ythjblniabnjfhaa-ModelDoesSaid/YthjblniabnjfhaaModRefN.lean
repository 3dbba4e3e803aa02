/-
  The document's answer of layer 10: lock's mark 13.
  Conditions: no count is beyond two millions; the waiters lie in memory.
-/
import Derived.Test.YthjblniabnjfhaaModRefQ
import Derived.LoopTactic
namespace Go.Proofs.Ythjblniabnjfhaa
open Go.RowKit
set_option linter.unusedSimpArgs false
set_option linter.unusedVariables false

/-- How many wait, as the thing's cell says. -/
def lenW (w : World) (b : Nat) : Nat := match w.cell? ⟨b, 12, none⟩ with | some (.slice _ n _) => n | _ => 0
theorem lenW_of {w : World} {b : Nat} {x : Th} {s : Option Addr} {c : Nat} (h : BoxT w b x s c) : lenW w b = x.ws.length := by unfold lenW; rw [h.cells.c12]
theorem first_at {t : Int} : ∀ {ws : List Wt} {p : Nat}, firstAt t ws = some p → ∃ q, ws[p]? = some q ∧ q.thread = t
  | [], p, h => by simp [firstAt] at h
  | q :: ws, p, h => by
    unfold firstAt at h
    by_cases e : q.thread = t
    · rw [if_pos e] at h
      simp only [Option.some.injEq] at h
      subst h
      exact ⟨q, rfl, e⟩
    · rw [if_neg e] at h
      cases hf : firstAt t ws with
      | none => rw [hf] at h; simp at h
      | some k =>
        rw [hf] at h
        simp only [Option.map_some, Option.some.injEq] at h
        subst h
        obtain ⟨q', h1, h2⟩ := first_at hf
        exact ⟨q', by simpa using h1, h2⟩
theorem filter_erase {f : Wt → Bool} : ∀ {ws : List Wt} {p : Nat} {q : Wt}, ws[p]? = some q → f q = false → (ws.eraseIdx p).filter f = ws.filter f
  | [], p, q, h, hf => by simp at h
  | a :: ws, 0, q, h, hf => by
    simp only [List.getElem?_cons_zero, Option.some.injEq] at h
    subst h
    rw [List.eraseIdx_cons_zero, List.filter_cons, hf]; rfl
  | a :: ws, p + 1, q, h, hf => by
    simp only [List.getElem?_cons_succ] at h
    rw [List.eraseIdx_cons_succ, List.filter_cons, List.filter_cons, filter_erase h hf]
theorem filter_no {t : Int} : ∀ {ws : List Wt}, firstAt t ws = none → ws.filter (fun q => q.thread != t) = ws
  | [], _ => rfl
  | q :: ws, h => by
    unfold firstAt at h
    by_cases e : q.thread = t
    · rw [if_pos e] at h; cases h
    · rw [if_neg e] at h
      have h2 : firstAt t ws = none := by
        cases hf : firstAt t ws with
        | none => rfl
        | some k => rw [hf] at h; simp at h
      have e2 : (q.thread != t) = true := bne_iff_ne.2 e
      rw [List.filter_cons, e2, if_pos rfl, filter_no h2]

set_option maxHeartbeats 4000000 in
set_option maxRecDepth 100000 in
theorem rlock_13 (x : Th) (t v : Int) (s : Option Addr) (c : Nat) (w : World) (hF : Fit x) (hE : InW w x s) (ht0 : 0 ≤ t) (hkd : (x.kind == 1) = true) :
    Calls Try.prog 22 #[x.agg s c, .int .i64 t, .int .i64 13, .int .i64 v] w (SaidB w s x.ws (if (v == 0 && waitsM x.ws t) = true then { x with ws := x.ws.filter (fun q => q.thread != t) } else x) (v == 0 && waitsM x.ws t)) := by
  have hl := hF.ws
  obtain ⟨W1, W2, hW1, hW2, s1, s2, hT, hZ, hk, hEl⟩ := ref_box x s c w hE
  obtain ⟨c0, c1, c2, c3, c4, c5, c6, c7, c8, c9, c10, c11, c12, c13, c14⟩ := hT.cells
  have f2 := hT.free 2
  have f3 := hT.free 3
  have HT := Lib.hid hT
  have HZ := Lib.hid hZ
  have HK := Lib.hid hk
  have HO := Lib.hid (Off.of hEl)
  have HF := Lib.hid hF
  clear hk hEl hE hT hZ hF
  obtain ⟨mb, hmm⟩ : ∃ mb, (v == 0 && waitsM x.ws t) = mb := ⟨_, rfl⟩
  rw [hmm]
  obtain ⟨pv, hpv⟩ : ∃ pv, atI (firstAt t x.ws) = pv := ⟨_, rfl⟩
  have hge := atI_ge (firstAt t x.ws)
  rw [hpv, ← waits_first] at hge
  have HPV := Lib.hid hpv
  have HSZ : Hid (w.heap.size + 2 ≤ W2.heap.size) := Lib.hid (by omega)
  clear hpv
  cases h1 : (waitsM x.ws t) with
  | false =>
    rw [h1] at hge
    have hm : mb = false := by rw [← hmm]; rw [h1, Bool.and_false]
    subst hm
    clear hmm
    rw [if_neg Bool.false_ne_true]
    have hTn := HT.out
    go_enter Try.func22, Try.ntmps22
    go_wp2_with (first | refine wpList_loadT (by rfl) (by rfl) (by rfl) (by assumption) ?_ | (refine wpList_storeT (by rfl) (by rfl) (by rfl) (by rfl) (by assumption) ?_; intro W5 hB5 hk5; obtain ⟨e0, e1, e2, e3, e4, e5, e6, e7, e8, e9, e10, e11, e12, e13, e14⟩ := hB5.cells))
    refine (place_any x t s c _ (by omega) HO.out.el pv HPV.out).mono ?_
    rintro e w3 ⟨rfl, hk3⟩
    have HT3 := Lib.hid (HT.out.kept0 hk3)
    have HZ3 := Lib.hid (HZ.out.kept0 hk3)
    have HK3 := Lib.hid (HK.out.tr0 hk3)
    have HO3 := Lib.hid (HO.out.kept0 hk3)
    clear hk3 c0 c1 c2 c3 c4 c5 c6 c7 c8 c9 c10 c11 c12 c13 c14
    obtain ⟨c0, c1, c2, c3, c4, c5, c6, c7, c8, c9, c10, c11, c12, c13, c14⟩ := HT3.out.cells
    have f2 := HT3.out.free 2
    have f3 := HT3.out.free 3
    have hTn := HT3.out
    have hZn := HZ3.out
    go_wp2_with (first | refine wpList_loadT (by rfl) (by rfl) (by rfl) (by assumption) ?_ | (refine wpList_storeT (by rfl) (by rfl) (by rfl) (by rfl) (by assumption) ?_; intro W5 hB5 hk5; obtain ⟨e0, e1, e2, e3, e4, e5, e6, e7, e8, e9, e10, e11, e12, e13, e14⟩ := hB5.cells))
    exact bodyPost_ret (v := .tuple #[Th.agg x s c, .bool false]) (by simp [results, Try.results22, go_sem, e0, e1, e2, e3, e4, e5, e6, e7, e8, e9, e10, e11, e12, e13, e14]) rfl (fin_off (y := x) (HK3.out.mono (fun _ _ f => f.elim)) (.inl ⟨rfl, rfl⟩) (Kept.one w.heap.size w3) hk5)
  | true =>
    rw [h1] at hge
    cases h2 : (v == 0) with
    | false =>
      have hm : mb = false := by rw [← hmm]; rw [h2, Bool.false_and]
      subst hm
      clear hmm
      rw [if_neg Bool.false_ne_true]
      have hTn := HT.out
      go_enter Try.func22, Try.ntmps22
      go_wp2_with (first | refine wpList_loadT (by rfl) (by rfl) (by rfl) (by assumption) ?_ | (refine wpList_storeT (by rfl) (by rfl) (by rfl) (by rfl) (by assumption) ?_; intro W5 hB5 hk5; obtain ⟨e0, e1, e2, e3, e4, e5, e6, e7, e8, e9, e10, e11, e12, e13, e14⟩ := hB5.cells))
      refine (place_any x t s c _ (by omega) HO.out.el pv HPV.out).mono ?_
      rintro e w3 ⟨rfl, hk3⟩
      have HT3 := Lib.hid (HT.out.kept0 hk3)
      have HZ3 := Lib.hid (HZ.out.kept0 hk3)
      have HK3 := Lib.hid (HK.out.tr0 hk3)
      have HO3 := Lib.hid (HO.out.kept0 hk3)
      clear hk3 c0 c1 c2 c3 c4 c5 c6 c7 c8 c9 c10 c11 c12 c13 c14
      obtain ⟨c0, c1, c2, c3, c4, c5, c6, c7, c8, c9, c10, c11, c12, c13, c14⟩ := HT3.out.cells
      have f2 := HT3.out.free 2
      have f3 := HT3.out.free 3
      have hTn := HT3.out
      have hZn := HZ3.out
      go_wp2_with (first | refine wpList_loadT (by rfl) (by rfl) (by rfl) (by assumption) ?_ | (refine wpList_storeT (by rfl) (by rfl) (by rfl) (by rfl) (by assumption) ?_; intro W5 hB5 hk5; obtain ⟨e0, e1, e2, e3, e4, e5, e6, e7, e8, e9, e10, e11, e12, e13, e14⟩ := hB5.cells))
      exact bodyPost_ret (v := .tuple #[Th.agg x s c, .bool false]) (by simp [results, Try.results22, go_sem, e0, e1, e2, e3, e4, e5, e6, e7, e8, e9, e10, e11, e12, e13, e14]) rfl (fin_off (y := x) (HK3.out.mono (fun _ _ f => f.elim)) (.inl ⟨rfl, rfl⟩) (Kept.one w.heap.size w3) hk5)
    | true =>
      have hm : mb = true := by rw [← hmm, h1, h2]; rfl
      subst hm
      clear hmm
      rw [if_pos rfl]
      obtain ⟨F, hF2⟩ : ∃ F, x.ws.filter (fun q => q.thread != t) = F := ⟨_, rfl⟩
      have HFL := Lib.hid hF2
      rw [hF2]
      clear hF2 h1
      have hTn := HT.out
      go_enter Try.func22, Try.ntmps22
      go_wp2_with (first | refine wpList_loadT (by rfl) (by rfl) (by rfl) (by assumption) ?_ | (refine wpList_storeT (by rfl) (by rfl) (by rfl) (by rfl) (by assumption) ?_; intro W5 hB5 hk5; obtain ⟨e0, e1, e2, e3, e4, e5, e6, e7, e8, e9, e10, e11, e12, e13, e14⟩ := hB5.cells))
      refine (place_any x t s c _ (by omega) HO.out.el pv HPV.out).mono ?_
      rintro e w3 ⟨rfl, hk3⟩
      have HT3 := Lib.hid (HT.out.kept0 hk3)
      have HZ3 := Lib.hid (HZ.out.kept0 hk3)
      have HK3 := Lib.hid (HK.out.tr0 hk3)
      have HO3 := Lib.hid (HO.out.kept0 hk3)
      clear hk3 c0 c1 c2 c3 c4 c5 c6 c7 c8 c9 c10 c11 c12 c13 c14
      obtain ⟨c0, c1, c2, c3, c4, c5, c6, c7, c8, c9, c10, c11, c12, c13, c14⟩ := HT3.out.cells
      have f2 := HT3.out.free 2
      have f3 := HT3.out.free 3
      have HS3 : Hid (w.heap.size + 2 ≤ w3.heap.size) := Lib.hid (by have := HK3.out.size; have := HSZ.out; have := HT3.out.lt; have := HZ3.out.lt; omega)
      have hTn := HT3.out
      go_wp2_with fail
      go_loopw [11] (fun a wr => ∃ (av : Int) (ws : List Wt) (s' : Option Addr) (c' : Nat), a = .int .i64 av ∧ atI (firstAt t ws) = av ∧ ws.length ≤ 200 ∧ ws.filter (fun q => q.thread != t) = F ∧ BoxT wr w.heap.size { x with ws := ws } s' c' ∧ BoxT wr (w.heap.size + 1) zeroTh none 0 ∧ Off w.heap.size wr s' ws ∧ ((s' = s ∧ ws = x.ws) ∨ NewW (w.heap.size + 2) wr s' c' ws) ∧ Kept (fun k => k = w.heap.size ∨ k = w.heap.size + 1) w wr ∧ w.heap.size + 2 ≤ wr.heap.size) (fun _ wr => lenW wr w.heap.size)
      case atStart => exact ⟨pv, x.ws, s, c, rfl, HPV.out, by omega, HFL.out, HT3.out, HZ3.out, HO3.out, .inl ⟨rfl, rfl⟩, HK3.out.mono (fun _ _ f => f.elim), HS3.out⟩
      case round =>
        clear hTn f2 f3 c0 c1 c2 c3 c4 c5 c6 c7 c8 c9 c10 c11 c12 c13 c14
        obtain ⟨av, ws, s', c', rfl, hav, hn, hfl, hB, hZ, hO, hsr, hk, hsz⟩ := hrel
        have HBr := Lib.hid hB
        have HZr := Lib.hid hZ
        have HOr := Lib.hid hO
        have HKr := Lib.hid hk
        have HFr := Lib.hid hfl
        have HSR := Lib.hid hsr
        clear hsr
        cases hfa : firstAt t ws with
        | none =>
          obtain rfl : av = -1 := by rw [← hav, hfa]; rfl
          have HWS : Hid (ws = F) := Lib.hid (by rw [← HFr.out]; exact (filter_no hfa).symm)
          have hws := HWS.out
          clear HWS
          subst hws
          clear hav hfa hn hfl hO hk hsz
          go_wp2_with (first | refine wpList_loadT (by rfl) (by rfl) (by rfl) (by assumption) ?_ | (refine wpList_storeT (by rfl) (by rfl) (by rfl) (by rfl) (by assumption) ?_; intro W5 hB5 hk5; obtain ⟨e0, e1, e2, e3, e4, e5, e6, e7, e8, e9, e10, e11, e12, e13, e14⟩ := hB5.cells))
          exact bodyPost_ret (v := .tuple #[Th.agg { x with ws := ws } s' c', .bool true]) (by simp [results, Try.results22, go_sem, e0, e1, e2, e3, e4, e5, e6, e7, e8, e9, e10, e11, e12, e13, e14]) rfl (fin_off (y := { x with ws := ws }) HKr.out HSR.out (Kept.one w.heap.size wr) hk5)
        | some p =>
          obtain rfl : av = (p : Int) := by rw [← hav, hfa]; rfl
          obtain ⟨q, hq, hqt⟩ := first_at hfa
          obtain ⟨ws2, hw2⟩ : ∃ ws2, ws.eraseIdx p = ws2 := ⟨_, rfl⟩
          have hplt : p < ws.length := (List.getElem?_eq_some_iff.1 hq).1
          have HL2 : Hid (ws2.length + 1 = ws.length) := Lib.hid (by rw [← hw2, List.length_eraseIdx_of_lt hplt]; omega)
          have HF2 : Hid (ws2.filter (fun q => q.thread != t) = F) := Lib.hid (by rw [← hw2, filter_erase hq (by rw [hqt]; simp), HFr.out])
          have HWI := Lib.hid (fun w' (h : Elems w' w'.heap.size s' 2 Wt.cells ws) => without_new ws ws2 ws.length rfl (by omega) p hw2 s' c' w' h)
          have HN : Hid (ws.length ≤ 200) := Lib.hid hn
          have HLN : Hid (lenW wr w.heap.size = ws.length) := Lib.hid (lenW_of hB)
          have HSr := Lib.hid hsz
          have k1 : (0 : Int) ≤ (p : Int) := by omega
          have d12 := hB.cells.c12
          clear hav hfa hn hfl hO hk hsz hq hqt hw2 hplt hZ
          go_wp2_with fail
          refine (HWI.out _ HOr.out.el).mono ?_
          rintro e w4 ⟨s4, c4, rfl, hN4, hk4⟩
          have HB4 := Lib.hid (HBr.out.kept0 hk4)
          have HZ4 := Lib.hid (HZr.out.kept0 hk4)
          have HO4 : Hid (Off w.heap.size w4 s4 ws2) := Lib.hid (Off.new hN4 HSr.out)
          have HN4 : Hid (NewW (w.heap.size + 2) w4 s4 c4 ws2) := Lib.hid (hN4.since HSr.out)
          have HK4 := Lib.hid (HKr.out.trans (hk4.mono (fun _ _ f => f.elim)) (fun _ _ e => e))
          have HS4 : Hid (w.heap.size + 2 ≤ w4.heap.size) := Lib.hid (by have := HSr.out; have := hk4.size; omega)
          clear hk4 hN4 hB d12
          have d12 := HB4.out.cells.c12
          have f12 := HB4.out.free 12
          obtain ⟨w5, hw5⟩ : ∃ w5, w4.setCell ⟨w.heap.size, 12, none⟩ (.slice s4 ws2.length c4) = w5 := ⟨_, rfl⟩
          have hB5 : BoxT w5 w.heap.size { x with ws := ws2 } s4 c4 := by rw [← hw5]; exact HB4.out.setWs s4 c4 ws2
          have HKO : Hid (Kept (fun k => k = w.heap.size) w4 w5) := Lib.hid (by rw [← hw5]; exact (Kept.one w.heap.size w4).sB _ _)
          have HB5 := Lib.hid hB5
          have HZ5 : Hid (BoxT w5 (w.heap.size + 1) zeroTh none 0) := Lib.hid (HZ4.out.kept HKO.out (by omega))
          have HO5 : Hid (Off w.heap.size w5 s4 ws2) := Lib.hid (HO4.out.kept (HKO.out.mono (fun _ _ e => .inl e)))
          have HN5 : Hid (NewW (w.heap.size + 2) w5 s4 c4 ws2) := Lib.hid (HN4.out.kept HKO.out (fun g hg e => by omega))
          have HK5 := Lib.hid (HK4.out.trans (HKO.out.mono (T := fun k => k = w.heap.size ∨ k = w.heap.size + 1) (fun _ _ e => .inl e)) (fun _ _ e => e))
          have HS5 : Hid (w.heap.size + 2 ≤ w5.heap.size) := Lib.hid (by have := HS4.out; have := HKO.out.size; omega)
          obtain ⟨pv2, hp2⟩ : ∃ pv2, atI (firstAt t ws2) = pv2 := ⟨_, rfl⟩
          have HP2 := Lib.hid hp2
          clear hp2
          go_wp2_with (first | refine wpList_loadT (by rfl) (by rfl) (by rfl) (by assumption) ?_)
          refine (place_any { x with ws := ws2 } t s4 c4 _ (by show ws2.length ≤ 300; have := HL2.out; have := HN.out; omega) HO5.out.el pv2 HP2.out).mono ?_
          rintro e w6 ⟨rfl, hk6⟩
          have HB6 := Lib.hid (HB5.out.kept0 hk6)
          have HZ6 := Lib.hid (HZ5.out.kept0 hk6)
          have HO6 := Lib.hid (HO5.out.kept0 hk6)
          have HN6 : Hid (NewW (w.heap.size + 2) w6 s4 c4 ws2) := Lib.hid (HN5.out.kept hk6 (fun _ _ f => f))
          have HK6 := Lib.hid (HK5.out.trans (hk6.mono (fun _ _ f => f.elim)) (fun _ _ e => e))
          have HS6 : Hid (w.heap.size + 2 ≤ w6.heap.size) := Lib.hid (by have := HS5.out; have := hk6.size; omega)
          clear hk6 hB5
          go_wp2_with fail
          go_roundw
          case rel => exact ⟨pv2, ws2, s4, c4, rfl, HP2.out, by have := HL2.out; have := HN.out; omega, HF2.out, HB6.out, HZ6.out, HO6.out, .inr HN6.out, HK6.out, HS6.out⟩
          case measure => rw [HLN.out, lenW_of HB6.out]; show ws2.length < ws.length; have := HL2.out; omega

end Go.Proofs.Ythjblniabnjfhaa
