/-
  What was taken, and is freed, is as it was: plain mathematics.
  Conditions: as each says.
-/
import Derived.Test.YthjblniabnjfhaaModLight
namespace Go.Proofs.Ythjblniabnjfhaa
open Go.RowKit
set_option linter.unusedSimpArgs false
set_option linter.unusedVariables false

/-- A thing as the statement asks of it. -/
structure Calm (x : Th) : Prop where
  fit : -1000000 ≤ x.holds ∧ x.holds ≤ 1000
  r0 : ∀ i, i < 8 → 0 ≤ x.r i
  r1 : ∀ i, i < 8 → x.r i ≤ 1000000
  n0 : 0 ≤ x.n
  n1 : x.n ≤ 1000
  h0 : 0 ≤ x.holds
  ow : (x.owner = -1 ∧ x.holds = 0) ∨ (x.owner ≠ -1 ∧ x.holds ≠ 0)
  it : x.kind = 5 → x.offer = -1 → x.item = 0
theorem Th.ext8 {a b : Th} (h1 : a.kind = b.kind) (h2 : a.n = b.n) (h3 : a.owner = b.owner) (h4 : a.holds = b.holds) (h5 : a.r = b.r) (h6 : a.ws = b.ws) (h7 : a.offer = b.offer) (h8 : a.item = b.item) : a = b := by
  cases a; cases b; simp_all
theorem may_t {x : Th} {t k v : Int} (h : mayM x t k v = true) : 0 ≤ t ∧ t < 8 ∧ mayInM x t k v = true := by
  unfold mayM at h
  split at h
  · cases h
  · exact ⟨by omega, by omega, h⟩
theorem may_of {x : Th} {t k v : Int} (h0 : 0 ≤ t) (h1 : t < 8) (h : mayInM x t k v = true) : mayM x t k v = true := by
  unfold mayM
  rw [if_neg (by omega)]; exact h
theorem do_of {x : Th} {t k v : Int} (h : mayM x t k v = true) : doM x t k v = doesM x t k v := by unfold doM; rw [if_pos h]

theorem does_held {x : Th} {t k v : Int} (h : x.kind = 1 ∨ x.kind = 4) : doesM x t k v = heldM x t k v := by
  unfold doesM
  rcases h with h | h <;> simp [h]
theorem does_count {x : Th} {t k v : Int} (h : x.kind = 2 ∨ x.kind = 3) : doesM x t k v = countM x k v := by
  unfold doesM
  rcases h with h | h <;> simp [h]
theorem does_swap {x : Th} {t k v : Int} (h : x.kind = 5) : doesM x t k v = swapM x t k v := by
  unfold doesM
  simp [h]

theorem back_take {x : Th} {t : Int} (hF : Fit x) (hx : Calm x) (h : mayM x t 1 1 = true) (h2 : x.kind ≠ 2) (h3 : x.kind ≠ 3) : mayM (doM x t 1 1) t 3 0 = true ∧ doM (doM x t 1 1) t 3 0 = x ∧ Fit (doM x t 1 1) := by
  obtain ⟨t0, t1, hi⟩ := may_t h
  have hk : x.kind = 1 ∨ x.kind = 4 := by
    unfold mayInM at hi
    refine Classical.byContradiction (fun hn => ?_)
    have a1 : (x.kind == 1) = false := by rw [beq_eq_false_iff_ne]; omega
    have a2 : (x.kind == 2) = false := by rw [beq_eq_false_iff_ne]; omega
    have a3 : (x.kind == 3) = false := by rw [beq_eq_false_iff_ne]; omega
    have a4 : (x.kind == 4) = false := by rw [beq_eq_false_iff_ne]; omega
    simp only [a1, a2, a3, a4, Bool.false_eq_true, if_false] at hi
    split at hi
    · replace hi : (false || quitM 1 1) = true := hi
      simp [quitM] at hi
    · cases hi
  have how := hx.ow
  have hh0 := hx.h0
  have hh1 := hx.fit.2
  have hy : doM x t 1 1 = takeM x t 1 := by
    rw [do_of h, does_held hk]
    rfl
  obtain ⟨kind, n, owner, holds, r, ws, offer, item⟩ := x
  simp only at hk how hh0 hh1
  have hft : ∀ h', 0 ≤ h' → h' ≤ 1001 → Fit ⟨kind, n, t, h', r, ws, offer, item⟩ := fun h' a b => ⟨hF.n0, hF.n1, (by show -2000000 ≤ h'; omega), (by show h' ≤ 2000000; omega), hF.r0, hF.r1, hF.ws, hF.o0, hF.o1, hF.t0, hF.t1⟩
  have hcase : (owner = -1 ∧ holds = 0 ∧ takeM ⟨kind, n, owner, holds, r, ws, offer, item⟩ t 1 = ⟨kind, n, t, 1, r, ws, offer, item⟩) ∨ (owner = t ∧ holds ≠ 0 ∧ takeM ⟨kind, n, owner, holds, r, ws, offer, item⟩ t 1 = ⟨kind, n, t, holds + 1, r, ws, offer, item⟩) := by
    rcases how with ⟨e1, e2⟩ | ⟨e1, e2⟩
    · refine .inl ⟨e1, e2, ?_⟩
      subst e1 e2
      unfold takeM
      rcases hk with rfl | rfl <;> simp
    · refine .inr ?_
      have hb : (owner == -1) = false := beq_eq_false_iff_ne.2 e1
      have hot : owner = t := by
        rcases hk with rfl | rfl
        · replace hi : ((isForM ⟨1, n, owner, holds, r, ws, offer, item⟩ t 1 || ((1 : Int) == 1 && onceM ⟨1, n, owner, holds, r, ws, offer, item⟩ t)) || quitM 1 1) = true := hi
          unfold isForM onceM at hi
          simp only [hb] at hi
          simp [quitM] at hi
          exact hi.1
        · replace hi : (((1 : Int) == 1 && ((owner == -1 && Th.sum ⟨4, n, owner, holds, r, ws, offer, item⟩ == 0) || onceM ⟨4, n, owner, holds, r, ws, offer, item⟩ t)) || quitM 1 1) = true := hi
          unfold onceM at hi
          simp only [hb] at hi
          simp [quitM] at hi
          exact hi.1
      refine ⟨hot, e2, ?_⟩
      unfold takeM
      simp only [hb, Bool.and_false, Bool.false_eq_true, if_false]
  rw [hy]
  have hm : ∀ h', mayM ⟨kind, n, t, h', r, ws, offer, item⟩ t 3 0 = true := fun h' => may_of t0 t1 (by
    rcases hk with rfl | rfl
    · show (((0 : Int) == 0 && t == t) || quitM 3 0) = true
      simp
    · show (((0 : Int) == 0 && t == t) || quitM 3 0) = true
      simp)
  have hd : ∀ h', doM ⟨kind, n, t, h', r, ws, offer, item⟩ t 3 0 = freeM ⟨kind, n, t, h', r, ws, offer, item⟩ := fun h' => by
    rw [do_of (hm h'), does_held hk]
    rfl
  rcases hcase with ⟨e1, e2, e3⟩ | ⟨e1, e2, e3⟩
  · rw [e3]
    refine ⟨hm _, ?_, hft _ (by omega) (by omega)⟩
    rw [hd]
    subst e1 e2
    rfl
  · rw [e3]
    refine ⟨hm _, ?_, hft _ (by omega) (by omega)⟩
    rw [hd]
    unfold freeM
    have : (holds + 1 - 1 == 0) = false := by rw [beq_eq_false_iff_ne]; omega
    simp only [this, Bool.false_eq_true, if_false]
    subst e1
    exact Th.ext8 rfl rfl rfl (by show holds + 1 - 1 = holds; omega) rfl rfl rfl rfl

theorem back_permits {x : Th} {t v : Int} (hF : Fit x) (hx : Calm x) (h : mayM x t 1 v = true) (h2 : x.kind = 2) : mayM (doM x t 1 v) t 3 v = true ∧ doM (doM x t 1 v) t 3 v = x ∧ Fit (doM x t 1 v) := by
  obtain ⟨t0, t1, hi⟩ := may_t h
  have n1 := hx.n1
  have hy : doM x t 1 v = { x with n := x.n - v } := by
    rw [do_of h, does_count (.inl h2)]
    rfl
  unfold mayInM at hi
  rw [h2] at hi
  replace hi : ((decide (1 ≤ v) && decide (v ≤ x.n)) || quitM 1 v) = true := hi
  simp [quitM] at hi
  have hm : mayM { x with n := x.n - v } t 3 v = true := may_of t0 t1 (by
    unfold mayInM
    simp only [h2]
    show ((decide (1 ≤ v) && !overM (x.n - v) v) || quitM 3 v) = true
    have : overM (x.n - v) v = false := by unfold overM; exact decide_eq_false (by omega)
    rw [this, decide_eq_true hi.1]
    rfl)
  rw [hy]
  refine ⟨hm, ?_, ⟨(by show -2000000 ≤ x.n - v; omega), (by show x.n - v ≤ 2000000; omega), hF.h0, hF.h1, hF.r0, hF.r1, hF.ws, hF.o0, hF.o1, hF.t0, hF.t1⟩⟩
  rw [do_of hm, does_count (x := { x with n := x.n - v }) (.inl h2)]
  show ({ x with n := x.n - v + v } : Th) = x
  exact Th.ext8 rfl (by show x.n - v + v = x.n; omega) rfl rfl rfl rfl rfl rfl

theorem read_kind {x : Th} {t : Int} (h : mayInM x t 2 0 = true) : x.kind = 4 := by
  refine Classical.byContradiction (fun hn => ?_)
  unfold mayInM at h
  have a4 : (x.kind == 4) = false := beq_eq_false_iff_ne.2 hn
  simp only [a4] at h
  repeat' split at h
  · replace h : (false || quitM 2 0) = true := h
    simp [quitM] at h
  · replace h : (false || quitM 2 0) = true := h
    simp [quitM] at h
  · replace h : (false || quitM 2 0) = true := h
    simp [quitM] at h
  · contradiction
  · replace h : (false || quitM 2 0) = true := h
    simp [quitM] at h
  · cases h
theorem back_read {x : Th} {t : Int} (hF : Fit x) (hx : Calm x) (h : mayM x t 2 0 = true) : mayM (doM x t 2 0) t 4 0 = true ∧ doM (doM x t 2 0) t 4 0 = x ∧ Fit (doM x t 2 0) := by
  obtain ⟨t0, t1, hi⟩ := may_t h
  have h4 := read_kind hi
  obtain ⟨m, rfl⟩ : ∃ m : Nat, t = m := ⟨t.toNat, by omega⟩
  have hr := hx.r0 m (by omega)
  have hy : doM x (m : Int) 2 0 = { x with r := updR x.r m (x.r m + 1) } := by
    rw [do_of h, does_held (.inr h4)]
    rfl
  have hm : mayM { x with r := updR x.r m (x.r m + 1) } (m : Int) 4 0 = true := may_of t0 t1 (by
    unfold mayInM
    simp only [h4]
    show (((0 : Int) == 0 && decide (0 < updR x.r m (x.r m + 1) m)) || quitM 4 0) = true
    rw [updR_at, decide_eq_true (by omega)]
    rfl)
  rw [hy]
  have hr1 := hx.r1 m (by omega)
  have hb : ∀ i, i < 8 → -2000000 ≤ updR x.r m (x.r m + 1) i ∧ updR x.r m (x.r m + 1) i ≤ 2000000 := fun i hi => by
    have a := hF.r0 i hi
    have b := hF.r1 i hi
    unfold updR
    split <;> omega
  refine ⟨hm, ?_, ⟨hF.n0, hF.n1, hF.h0, hF.h1, fun i hi => (hb i hi).1, fun i hi => (hb i hi).2, hF.ws, hF.o0, hF.o1, hF.t0, hF.t1⟩⟩
  rw [do_of hm, does_held (x := { x with r := updR x.r m (x.r m + 1) }) (.inr h4)]
  show ({ x with r := updR (updR x.r m (x.r m + 1)) m (updR x.r m (x.r m + 1) m - 1) } : Th) = x
  refine Th.ext8 rfl rfl rfl rfl ?_ rfl rfl rfl
  funext i
  show updR (updR x.r m (x.r m + 1)) m (updR x.r m (x.r m + 1) m - 1) i = x.r i
  rw [updR_at]
  unfold updR
  by_cases e : i = m
  · subst e; simp
  · simp [e]

theorem offer_kind {x : Th} {t v : Int} (h : mayInM x t 15 v = true) : x.kind = 5 := by
  refine Classical.byContradiction (fun hn => ?_)
  unfold mayInM at h
  have a5 : (x.kind == 5) = false := beq_eq_false_iff_ne.2 hn
  simp only [a5] at h
  repeat' split at h
  · replace h : (false || quitM 15 v) = true := h
    simp [quitM] at h
  · replace h : (false || quitM 15 v) = true := h
    simp [quitM] at h
  · replace h : (false || quitM 15 v) = true := h
    simp [quitM] at h
  · replace h : (false || quitM 15 v) = true := h
    simp [quitM] at h
  · contradiction
  · cases h
theorem back_offer {x : Th} {t v : Int} (hF : Fit x) (hx : Calm x) (h : mayM x t 15 v = true) : mayM (doM x t 15 v) t 16 0 = true ∧ doM (doM x t 15 v) t 16 0 = x ∧ Fit (doM x t 15 v) := by
  obtain ⟨t0, t1, hi⟩ := may_t h
  have h5 := offer_kind hi
  have hy : doM x t 15 v = { x with offer := t, item := v } := by
    rw [do_of h, does_swap h5]
    rfl
  unfold mayInM at hi
  rw [h5] at hi
  replace hi : ((x.offer == -1 && decide (0 ≤ v) && decide (v ≤ 1000)) || quitM 15 v) = true := hi
  simp [quitM] at hi
  have hit := hx.it h5 hi.1.1
  have hm : mayM { x with offer := t, item := v } t 16 0 = true := may_of t0 t1 (by
    unfold mayInM
    simp only [h5]
    show (((0 : Int) == 0 && t == t) || quitM 16 0) = true
    simp)
  rw [hy]
  refine ⟨hm, ?_, ⟨hF.n0, hF.n1, hF.h0, hF.h1, hF.r0, hF.r1, hF.ws, (by show -9223372036854775808 ≤ t; omega), (by show t ≤ 9223372036854775807; omega), hF.t0, hF.t1⟩⟩
  rw [do_of hm, does_swap (x := { x with offer := t, item := v }) h5]
  show ({ x with offer := -1, item := 0 } : Th) = x
  exact Th.ext8 rfl rfl rfl rfl rfl rfl hi.1.1.symm hit.symm

theorem take_not3 {x : Th} {t : Int} (h : mayM x t 1 1 = true) : (x.kind == 3) = false := by
  obtain ⟨_, _, hi⟩ := may_t h
  rw [beq_eq_false_iff_ne]
  intro e
  unfold mayInM at hi
  rw [e] at hi
  replace hi : (((1 : Int) == 0 && x.n == 0) || quitM 1 1) = true := hi
  simp [quitM] at hi
/-- A thing within what the statement asks. -/
theorem calm_of {x : Th} (hl : lightM x = true) (h8 : ∀ i, i < 8 → 0 ≤ x.r i) (hok : ∀ i, i < 8 → x.r i ≤ 1000000) (n0 : decide (x.n < 0) = false) (n1 : decide (1000 < x.n) = false) (h0 : decide (x.holds < 0) = false) (h1 : decide (1000 < x.holds) = false) (hit : x.kind = 5 → x.offer = -1 → x.item = 0) (how : (x.owner == -1) = (x.holds == 0)) : Calm x := by
  simp only [decide_eq_false_iff_not] at n0 n1 h0 h1
  refine ⟨by omega, h8, hok, by omega, by omega, by omega, ?_, hit⟩
  by_cases e : x.owner = -1
  · left
    rw [e] at how
    exact ⟨e, beq_iff_eq.1 how.symm⟩
  · right
    refine ⟨e, fun h => e ?_⟩
    rw [h] at how
    exact beq_iff_eq.1 how

end Go.Proofs.Ythjblniabnjfhaa
