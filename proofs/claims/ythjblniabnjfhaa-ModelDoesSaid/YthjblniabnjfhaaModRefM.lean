/-
  The document's answer of layer 10: lock's mark 11.
  Conditions: no count is beyond two millions; the waiters lie in memory.
-/
import Derived.Test.YthjblniabnjfhaaModRefQ
namespace Go.Proofs.Ythjblniabnjfhaa
open Go.RowKit
set_option linter.unusedSimpArgs false
set_option linter.unusedVariables false

set_option maxHeartbeats 4000000 in
set_option maxRecDepth 100000 in
theorem rlock_11_nil (x0 : Th) (t v : Int) (s : Option Addr) (c : Nat) (w : World) (hE : InW w ({ x0 with ws := [] } : Th) s) :
    Calls Try.prog 22 #[({ x0 with ws := [] } : Th).agg s c, .int .i64 t, .int .i64 11, .int .i64 v] w (SaidB w s [] ({ x0 with ws := [] } : Th) false) := by
  obtain ⟨W1, W2, hW1, hW2, s1, s2, hT, hZ, hk, hEl⟩ := ref_box ({ x0 with ws := [] } : Th) s c w hE
  obtain ⟨c0, c1, c2, c3, c4, c5, c6, c7, c8, c9, c10, c11, c12, c13, c14⟩ := hT.cells
  have HT := Lib.hid hT
  have HZ := Lib.hid hZ
  have HK := Lib.hid hk
  clear hk hEl hE hT hZ
  replace hW1 : w.alloc (.cells #[.int .i64 x0.kind, .int .i64 x0.n, .int .i64 x0.owner, .int .i64 x0.holds, .int .i64 (x0.r 0), .int .i64 (x0.r 1), .int .i64 (x0.r 2), .int .i64 (x0.r 3), .int .i64 (x0.r 4), .int .i64 (x0.r 5), .int .i64 (x0.r 6), .int .i64 (x0.r 7), .slice s 0 c, .int .i64 x0.offer, .int .i64 x0.item] 27) = W1 := hW1
  cases h1 : (x0.owner == t) with
  | false =>
    have hTn := HT.out
    have hZn := HZ.out
    go_enter Try.func22, Try.ntmps22
    go_wp2_with (first | refine wpList_loadT (by rfl) (by rfl) (by rfl) (by assumption) ?_ | (refine wpList_storeT (x := ({ x0 with ws := [] } : Th)) (s := s) (c := c) (by rfl) (by rfl) (by rfl) (by rfl) (by assumption) ?_; intro W5 hB5 hk5; obtain ⟨e0, e1, e2, e3, e4, e5, e6, e7, e8, e9, e10, e11, e12, e13, e14⟩ := hB5.cells))
    exact bodyPost_ret (v := .tuple #[Th.agg ({ x0 with ws := [] } : Th) s c, .bool false]) (by simp [results, Try.results22, go_sem, e0, e1, e2, e3, e4, e5, e6, e7, e8, e9, e10, e11, e12, e13, e14]) rfl (fin_off (y := ({ x0 with ws := [] } : Th)) (HK.out.mono (fun _ _ f => f.elim)) (.inl ⟨rfl, rfl⟩) (Kept.one w.heap.size W2) hk5)
  | true =>
    have hTn := HT.out
    have hZn := HZ.out
    go_enter Try.func22, Try.ntmps22
    go_wp2_with (first | refine wpList_loadT (by rfl) (by rfl) (by rfl) (by assumption) ?_ | (refine wpList_storeT (x := ({ x0 with ws := [] } : Th)) (s := s) (c := c) (by rfl) (by rfl) (by rfl) (by rfl) (by assumption) ?_; intro W5 hB5 hk5; obtain ⟨e0, e1, e2, e3, e4, e5, e6, e7, e8, e9, e10, e11, e12, e13, e14⟩ := hB5.cells))
    exact bodyPost_ret (v := .tuple #[Th.agg ({ x0 with ws := [] } : Th) s c, .bool false]) (by simp [results, Try.results22, go_sem, e0, e1, e2, e3, e4, e5, e6, e7, e8, e9, e10, e11, e12, e13, e14]) rfl (fin_off (y := ({ x0 with ws := [] } : Th)) (HK.out.mono (fun _ _ f => f.elim)) (.inl ⟨rfl, rfl⟩) (Kept.one w.heap.size W2) hk5)

set_option maxHeartbeats 4000000 in
set_option maxRecDepth 100000 in
theorem rlock_11 (x : Th) (t v : Int) (s : Option Addr) (c : Nat) (w : World) (hF : Fit x) (hE : InW w x s) (ht0 : 0 ≤ t) (hkd : (x.kind == 1) = true) :
    Calls Try.prog 22 #[x.agg s c, .int .i64 t, .int .i64 11, .int .i64 v] w (SaidB w s x.ws (if (x.owner == t && firstM x.ws v) = true then { x with ws := x.ws.tail } else x) (x.owner == t && firstM x.ws v)) := by
  cases hws : x.ws with
  | nil =>
    have hx : x = ({ x with ws := [] } : Th) := by rw [← hws]
    have e : (x.owner == t && firstM x.ws v) = false := by rw [hws]; exact Bool.and_false _
    rw [← hws, e, if_neg Bool.false_ne_true, hx]
    exact rlock_11_nil x t v s c w (by rw [← hx]; exact hE)
  | cons q l =>
  rw [← hws]
  have HWH := Lib.hid hws
  clear hws
  have hl := hF.ws
  obtain ⟨W1, W2, hW1, hW2, s1, s2, hT, hZ, hk, hEl⟩ := ref_box x s c w hE
  obtain ⟨c0, c1, c2, c3, c4, c5, c6, c7, c8, c9, c10, c11, c12, c13, c14⟩ := hT.cells
  have f2 := hT.free 2
  have f3 := hT.free 3
  have HT := Lib.hid hT
  have HZ := Lib.hid hZ
  have HK := Lib.hid hk
  have HO := Lib.hid (Off.of hEl)
  have HF := Lib.hid hF
  clear hk hEl hE hT hZ hF
  have f12 := HT.out.free 12
  have hlt := HT.out.lt
  obtain ⟨mb, hmm⟩ : ∃ mb, (x.owner == t && firstM x.ws v) = mb := ⟨_, rfl⟩
  rw [hmm]
  cases h1 : (x.owner == t) with
  | false =>
    have hm : mb = false := by rw [← hmm]; rw [h1]; rfl
    subst hm
    clear hmm
    rw [if_neg Bool.false_ne_true]
    have hTn := HT.out
    have hZn := HZ.out
    go_enter Try.func22, Try.ntmps22
    go_wp2_with (first | refine wpList_loadT (by rfl) (by rfl) (by rfl) (by assumption) ?_ | (refine wpList_storeT (by rfl) (by rfl) (by rfl) (by rfl) (by assumption) ?_; intro W5 hB5 hk5; obtain ⟨e0, e1, e2, e3, e4, e5, e6, e7, e8, e9, e10, e11, e12, e13, e14⟩ := hB5.cells))
    exact bodyPost_ret (v := .tuple #[Th.agg x s c, .bool false]) (by simp [results, Try.results22, go_sem, e0, e1, e2, e3, e4, e5, e6, e7, e8, e9, e10, e11, e12, e13, e14]) rfl (fin_off (y := x) (HK.out.mono (fun _ _ f => f.elim)) (.inl ⟨rfl, rfl⟩) (Kept.one w.heap.size W2) hk5)
  | true =>
      have hws := HWH.out
      obtain ⟨g, off, hs, hg, hcell⟩ := HO.out.el.2 0 q (by rw [hws]; rfl)
      have hq := hcell 0 _ rfl
      simp only [Nat.zero_mul, Nat.add_zero] at hq
      have hl1 : 0 < x.ws.length := by rw [hws]; simp
      have hl3 : (0 : Int) < (x.ws.length : Int) := by omega
      have hfm : firstM x.ws v = (v == q.thread) := by rw [hws]; exact beq_swap _ _
      have hte : Hid (x.ws.eraseIdx 0 = x.ws.tail) := Lib.hid (by rw [hws]; rfl)
      obtain ⟨ws', hw'⟩ : ∃ ws', x.ws.tail = ws' := ⟨_, rfl⟩
      have HWI := Lib.hid (fun w' (h : Elems w' w'.heap.size s 2 Wt.cells x.ws) => without_new x.ws ws' x.ws.length rfl (by omega) 0 (hte.out.trans hw') s c w' h)
      rw [hw']
      subst hs
      have HL3 := Lib.hid hl3
      clear hcell hws hl1 hte hw'
      cases h2 : (v == q.thread) with
      | false =>
        have hm : mb = false := by rw [← hmm]; rw [h1, hfm, h2]; rfl
        subst hm
        clear hmm
        rw [if_neg Bool.false_ne_true]
        have hTn := HT.out
        have hZn := HZ.out
        go_enter Try.func22, Try.ntmps22
        go_wp2_with (first | refine wpList_loadT (by rfl) (by rfl) (by rfl) (by assumption) ?_ | (refine wpList_storeT (by rfl) (by rfl) (by rfl) (by rfl) (by assumption) ?_; intro W5 hB5 hk5; obtain ⟨e0, e1, e2, e3, e4, e5, e6, e7, e8, e9, e10, e11, e12, e13, e14⟩ := hB5.cells))
        exact bodyPost_ret (v := .tuple #[Th.agg x (some ⟨g, off, none⟩) c, .bool false]) (by simp [results, Try.results22, go_sem, e0, e1, e2, e3, e4, e5, e6, e7, e8, e9, e10, e11, e12, e13, e14]) rfl (fin_off (y := x) (HK.out.mono (fun _ _ f => f.elim)) (.inl ⟨rfl, rfl⟩) (Kept.one w.heap.size W2) hk5)
      | true =>
        have hm : mb = true := by rw [← hmm, h1, hfm, h2]; rfl
        subst hm
        clear hmm hfm
        rw [if_pos rfl]
        have hTn := HT.out
        go_enter Try.func22, Try.ntmps22
        go_wp2_with (first | refine wpList_loadT (by rfl) (by rfl) (by rfl) (by assumption) ?_ | (refine wpList_storeT (by rfl) (by rfl) (by rfl) (by rfl) (by assumption) ?_; intro W5 hB5 hk5; obtain ⟨e0, e1, e2, e3, e4, e5, e6, e7, e8, e9, e10, e11, e12, e13, e14⟩ := hB5.cells))
        refine (HWI.out _ HO.out.el).mono ?_
        rintro e w3 ⟨s', c', rfl, hN3, hk3⟩
        have HT3 := Lib.hid (HT.out.kept0 hk3)
        have HZ3 := Lib.hid (HZ.out.kept0 hk3)
        have HK3 := Lib.hid (HK.out.tr0 hk3)
        have HO3 : Hid (NewW (w.heap.size + 2) w3 s' c' ws') := Lib.hid (hN3.since (by omega))
        clear hk3 hN3 hTn c0 c1 c2 c3 c4 c5 c6 c7 c8 c9 c10 c11 c12 c13 c14
        obtain ⟨c0, c1, c2, c3, c4, c5, c6, c7, c8, c9, c10, c11, c12, c13, c14⟩ := HT3.out.cells
        have f12 := HT3.out.free 12
        have hTn : BoxT (w3.setCell ⟨w.heap.size, 12, none⟩ (.slice s' ws'.length c')) w.heap.size { x with ws := ws' } s' c' := HT3.out.setWs s' c' ws'
        have hZn : BoxT (w3.setCell ⟨w.heap.size, 12, none⟩ (.slice s' ws'.length c')) (w.heap.size + 1) zeroTh none 0 := HZ3.out.kept ((Kept.one w.heap.size w3).sB _ _) (by omega)
        go_wp2_with (first | refine wpList_loadT (by rfl) (by rfl) (by rfl) (by assumption) ?_ | (refine wpList_storeT (by rfl) (by rfl) (by rfl) (by rfl) (by assumption) ?_; intro W5 hB5 hk5; obtain ⟨e0, e1, e2, e3, e4, e5, e6, e7, e8, e9, e10, e11, e12, e13, e14⟩ := hB5.cells))
        exact bodyPost_ret (v := .tuple #[Th.agg { x with ws := ws' } s' c', .bool true]) (by simp [results, Try.results22, go_sem, e0, e1, e2, e3, e4, e5, e6, e7, e8, e9, e10, e11, e12, e13, e14]) rfl (fin_off (y := { x with ws := ws' }) (HK3.out.mono (fun _ _ f => f.elim)) (.inr HO3.out) ((Kept.one w.heap.size w3).sB _ _) hk5)

end Go.Proofs.Ythjblniabnjfhaa
