/-
  What any instruction of the document's machine comes to, where it doesn't trap.
  Conditions: the world lies in memory, and the frame in a block of its own; it is an instruction, but for call and ret.
-/
import Derived.Test.YtofnomkedpagfaaMachOneA
import Derived.Test.YtofnomkedpagfaaMachOneB
import Derived.Test.YtofnomkedpagfaaMachOneC
import Derived.Test.YtofnomkedpagfaaMachOneD
import Derived.Test.YtofnomkedpagfaaMachOneE
import Derived.Test.YtofnomkedpagfaaMachOneF
import Derived.Test.YtofnomkedpagfaaMachDo
import Derived.Test.YtofnomkedpagfaaLine
import Derived.IntWalk
namespace Go.Proofs.Ytofnomkedpagfaa
open Go.RowKit
set_option linter.unusedSimpArgs false

/-- What an instruction's answer says of the state. -/
structure Says (x : Ix) (s : Ms) (r : Int × Ms) (k : Int) (note : Nt) (came : Int) (zs' : List Int) (ps' : List Pk) (f' : Fr) : Prop where
  st : r.2 = ⟨zs', ps', s.bs, if k = 2 then f' else f'.go (s.f.pc + 1), s.ns ++ (if x.op = 21 then [note] else [])⟩
  how : (x.op = 14 ∧ k = 3 ∧ came = r.1 ∧ (r.1 = 0 ∨ r.1 = 1)) ∨ (x.op = 22 ∧ k = 3 ∧ came = 2 ∧ r.1 = 2) ∨ (x.op ≠ 14 ∧ x.op ≠ 22 ∧ (k = 1 ∨ k = 2) ∧ came = 0 ∧ r.1 = 0)
  nt : x.op ≠ 21 → note = noNt
  gone : k = 2 → x.op ≠ 21

theorem may_bounds {op a b c n : Int} (h : mayL op a b c n = true) : (1 ≤ op ∧ op ≤ 22) ∧ (0 ≤ a ∧ a ≤ 15) ∧ (0 ≤ b ∧ b ≤ 15) ∧ (0 ≤ c ∧ c ≤ 15) ∧ (op = 7 → a ≤ 13) := by
  unfold mayL at h
  simp only [Bool.and_eq_true, decide_eq_true_eq, Bool.or_eq_true, bne_iff_ne] at h
  obtain ⟨⟨⟨⟨⟨⟨⟨⟨⟨⟨⟨⟨⟨h1, h2⟩, h3⟩, h4⟩, h5⟩, h6⟩, h7⟩, h8⟩, _⟩, _⟩, _⟩, _⟩, _⟩, h14⟩ := h
  exact ⟨⟨h1, h2⟩, ⟨h3, h4⟩, ⟨h5, h6⟩, ⟨h7, h8⟩, fun e => by rcases h14 with h | h; exact absurd e h; exact h⟩

section
variable {P : Wp} {og oc : Nat} {fb : Nat} {s : Ms} {w : World} {self : Nat}
/-- The document's answer to an instruction. -/
def OneSaid (P : Wp) (og fb self : Nat) (w : World) (x : Ix) (s : Ms) : Prop :=
  ∃ k note came zs' ps' f', Calls Try.prog 36 #[.pointer (some ⟨P.wb, 0, none⟩), x.agg, .int .i64 self, .pointer (some ⟨fb, 0, none⟩)] w (OneTo P og fb w k note came zs' ps' f') ∧ Says x s (doM P.most P.now self x s) k note came zs' ps' f'

theorem said_plain {x : Ix} {f' : Fr} {zs' : List Int} {ps' : List Pk} (hc : Calls Try.prog 36 #[.pointer (some ⟨P.wb, 0, none⟩), x.agg, .int .i64 self, .pointer (some ⟨fb, 0, none⟩)] w (OneTo P og fb w 1 noNt 0 zs' ps' f'))
    (h : doM P.most P.now self x s = (0, ⟨zs', ps', s.bs, f'.go (s.f.pc + 1), s.ns⟩)) (h14 : x.op ≠ 14) (h22 : x.op ≠ 22) (h21 : x.op ≠ 21) : OneSaid P og fb self w x s :=
  ⟨1, noNt, 0, zs', ps', f', hc, by rw [h]; simp [h21], .inr (.inr ⟨h14, h22, .inl rfl, rfl, by rw [h]⟩), fun _ => rfl, fun _ => h21⟩
theorem said_gone {x : Ix} {f' : Fr} (hc : Calls Try.prog 36 #[.pointer (some ⟨P.wb, 0, none⟩), x.agg, .int .i64 self, .pointer (some ⟨fb, 0, none⟩)] w (OneTo P og fb w 2 noNt 0 s.zs s.ps f'))
    (h : doM P.most P.now self x s = (0, ⟨s.zs, s.ps, s.bs, f', s.ns⟩)) (h14 : x.op ≠ 14) (h22 : x.op ≠ 22) (h21 : x.op ≠ 21) : OneSaid P og fb self w x s :=
  ⟨2, noNt, 0, s.zs, s.ps, f', hc, by rw [h]; simp [h21], .inr (.inr ⟨h14, h22, .inr rfl, rfl, by rw [h]⟩), fun _ => rfl, fun _ => h21⟩

theorem cell_ix (s : Ms) (q : Nat) {p : Int} (hp : p = (q : Int) + 1) : s.cell p = s.zs.getD q 0 := by
  subst hp
  unfold Ms.cell
  rw [show ((q : Int) + 1).toNat - 1 = q by omega]
theorem store_ix (s : Ms) (q : Nat) (v : Int) {p : Int} (hp : p = (q : Int) + 1) : s.store p v = { s with zs := s.zs.set q v } := by
  subst hp
  unfold Ms.store
  rw [show ((q : Int) + 1).toNat - 1 = q by omega]

theorem thr_of (s : Ms) (hs : self < s.ps.length) : s.ps[self]? = some (s.thr self) := by
  unfold Ms.thr
  rw [List.getD_eq_getElem?_getD, List.getElem?_eq_getElem hs]; rfl

theorem acc_said (h : OneAt P og oc s.zs s.ps fb s.f w) (op : Int) (a b : Nat) (c : Nat) (n : Int) (hop : op = 5 ∨ op = 6 ∨ op = 7) (ha : a < 16) (hb : b < 16) (h7 : op = 7 → a + 2 < 16)
    (ht : (doM P.most P.now self ⟨op, a, b, c, n⟩ s).1 ≠ 3) : OneSaid P og fb self w ⟨op, a, b, c, n⟩ s := by
  have hd := do_acc (most := P.most) (now := P.now) (self := self) (s := s) (op := op) (by omega) (by omega) ⟨op, a, b, c, n⟩ rfl
  have hpl : s.place ⟨op, a, b, c, n⟩ = wrap64 (s.f.r b + n) := by unfold Ms.place; rw [IntWalk.i64_left]; simp [Ms.reg]
  by_cases hin : s.has (s.place ⟨op, a, b, c, n⟩)
  · obtain ⟨p, hp⟩ : ∃ p, wrap64 (s.f.r b + n) = p := ⟨_, rfl⟩
    rw [hpl, hp] at hin
    have hin' : 1 ≤ p ∧ p ≤ (s.zs.length : Int) := hin
    obtain ⟨q, rfl⟩ : ∃ q : Nat, p = q + 1 := ⟨p.toNat - 1, by omega⟩
    have hq : q < s.zs.length := by omega
    rcases hop with rfl | rfl | rfl
    · have ha5 : accM ⟨5, a, b, c, n⟩ s = (0, { s with f := s.f.put a (s.zs.getD q 0) }) := by
        unfold accM; rw [hpl, hp, if_pos hin, if_pos rfl, put_nat, cell_ix s q rfl]
      refine said_plain (one_ld h self a b c n ha hb q _ hq hp rfl) ?_ (show (5 : Int) ≠ 14 by decide) (show (5 : Int) ≠ 22 by decide) (show (5 : Int) ≠ 21 by decide)
      rw [hd, ha5, if_neg (show ¬ (0 : Int) = 3 by decide)]; rfl
    · have ha6 : accM ⟨6, a, b, c, n⟩ s = (0, { s with zs := s.zs.set q (s.f.r a) }) := by
        unfold accM; rw [hpl, hp, if_pos hin, if_neg (show ¬ (6 : Int) = 5 by decide), if_pos rfl, reg_nat, store_ix s q _ rfl]
      refine said_plain (one_st h self a b c n ha hb q _ hq hp rfl) ?_ (show (6 : Int) ≠ 14 by decide) (show (6 : Int) ≠ 22 by decide) (show (6 : Int) ≠ 21 by decide)
      rw [hd, ha6, if_neg (show ¬ (0 : Int) = 3 by decide)]; rfl
    · have h2 := h7 rfl
      have er : s.reg ((a : Int) + 1) = s.f.r (a + 1) := by unfold Ms.reg; rw [show ((a : Int) + 1).toNat = a + 1 by omega]
      by_cases hc : s.zs.getD q 0 = s.f.r a
      · have ha7 : accM ⟨7, a, b, c, n⟩ s = (0, { s with zs := s.zs.set q (s.f.r (a + 1)), f := s.f.put (a + 2) 1 }) := by
          unfold accM
          rw [hpl, hp, if_pos hin, if_neg (show ¬ (7 : Int) = 5 by decide), if_neg (show ¬ (7 : Int) = 6 by decide), reg_nat, cell_ix s q rfl, if_pos hc, er, store_ix s q _ rfl]
          unfold Ms.put
          rw [show ((a : Int) + 2).toNat = a + 2 by omega]
        refine said_plain (one_cas_yes h self a b c n ha hb q _ hq hp rfl h2 (beq_iff_eq.2 hc)) ?_ (show (7 : Int) ≠ 14 by decide) (show (7 : Int) ≠ 22 by decide) (show (7 : Int) ≠ 21 by decide)
        rw [hd, ha7, if_neg (show ¬ (0 : Int) = 3 by decide)]; rfl
      · have ha7 : accM ⟨7, a, b, c, n⟩ s = (0, { s with f := s.f.put (a + 2) 0 }) := by
          unfold accM
          rw [hpl, hp, if_pos hin, if_neg (show ¬ (7 : Int) = 5 by decide), if_neg (show ¬ (7 : Int) = 6 by decide), reg_nat, cell_ix s q rfl, if_neg hc]
          unfold Ms.put
          rw [show ((a : Int) + 2).toNat = a + 2 by omega]
        refine said_plain (one_cas_no h self a b c n ha hb q _ hq hp rfl h2 (beq_eq_false_iff_ne.2 hc)) ?_ (show (7 : Int) ≠ 14 by decide) (show (7 : Int) ≠ 22 by decide) (show (7 : Int) ≠ 21 by decide)
        rw [hd, ha7, if_neg (show ¬ (0 : Int) = 3 by decide)]; rfl
  · exfalso
    apply ht
    have : accM ⟨op, a, b, c, n⟩ s = (3, s) := by unfold accM; rw [if_neg hin]
    rw [hd, this, if_pos rfl]

theorem jump_said (h : OneAt P og oc s.zs s.ps fb s.f w) (op : Int) (a b : Nat) (c : Nat) (n : Int) (hop : op = 8 ∨ op = 9 ∨ op = 10 ∨ op = 11) (ha : a < 16) (hb : b < 16) : OneSaid P og fb self w ⟨op, a, b, c, n⟩ s := by
  have hd := do_jump (most := P.most) (now := P.now) (self := self) (s := s) (op := op) (by omega) (by omega) ⟨op, a, b, c, n⟩ rfl
  have hy : leadsM ⟨op, a, b, c, n⟩ s.f.r = true → doM P.most P.now self ⟨op, a, b, c, n⟩ s = (0, ⟨s.zs, s.ps, s.bs, s.f.go n, s.ns⟩) := fun e => by rw [hd]; unfold jumpM; rw [e]; rfl
  have hn : leadsM ⟨op, a, b, c, n⟩ s.f.r = false → doM P.most P.now self ⟨op, a, b, c, n⟩ s = (0, ⟨s.zs, s.ps, s.bs, s.f.go (s.f.pc + 1), s.ns⟩) := fun e => by rw [hd]; unfold jumpM; rw [e]; rfl
  rcases hop with rfl | rfl | rfl | rfl
  · exact said_gone (one_jmp h self a b c n) (hy (by simp [leadsM])) (show (8 : Int) ≠ 14 by decide) (show (8 : Int) ≠ 22 by decide) (show (8 : Int) ≠ 21 by decide)
  · cases hc : (s.f.r a == s.f.r b) with
    | true => exact said_gone (one_jeq_yes h self a b c n ha hb hc) (hy (by simp [leadsM]; simpa using hc)) (show (9 : Int) ≠ 14 by decide) (show (9 : Int) ≠ 22 by decide) (show (9 : Int) ≠ 21 by decide)
    | false => exact said_plain (one_jeq_no h self a b c n ha hb hc) (hn (by simp [leadsM]; simpa using hc)) (show (9 : Int) ≠ 14 by decide) (show (9 : Int) ≠ 22 by decide) (show (9 : Int) ≠ 21 by decide)
  · cases hc : (s.f.r a != s.f.r b) with
    | true => exact said_gone (one_jne_yes h self a b c n ha hb hc) (hy (by simp [leadsM]; simpa using hc)) (show (10 : Int) ≠ 14 by decide) (show (10 : Int) ≠ 22 by decide) (show (10 : Int) ≠ 21 by decide)
    | false => exact said_plain (one_jne_no h self a b c n ha hb hc) (hn (by simp [leadsM]; simpa using hc)) (show (10 : Int) ≠ 14 by decide) (show (10 : Int) ≠ 22 by decide) (show (10 : Int) ≠ 21 by decide)
  · by_cases hc : s.f.r a < s.f.r b
    · exact said_gone (one_jlt_yes h self a b c n ha hb hc) (hy (by simp [leadsM]; exact hc)) (show (11 : Int) ≠ 14 by decide) (show (11 : Int) ≠ 22 by decide) (show (11 : Int) ≠ 21 by decide)
    · exact said_plain (one_jlt_no h self a b c n ha hb hc) (hn (by simp [leadsM]; omega)) (show (11 : Int) ≠ 14 by decide) (show (11 : Int) ≠ 22 by decide) (show (11 : Int) ≠ 21 by decide)

theorem one_any (h : OneAt P og oc s.zs s.ps fb s.f w) (x : Ix) (hx : mayL x.op x.a x.b x.c x.n = true) (h12 : x.op ≠ 12) (h13 : x.op ≠ 13) (hs : self < s.ps.length) (hodd : oddR P.most x s.zs.length (s.thr self) = false)
    (ht : (doM P.most P.now self x s).1 ≠ 3) : OneSaid P og fb self w x s := by
  obtain ⟨op, a, b, c, n⟩ := x
  obtain ⟨hop, ha, hb, hc, h7⟩ := may_bounds hx
  dsimp only at h12 h13 hop ha hb hc h7
  obtain ⟨a, rfl⟩ : ∃ k : Nat, a = k := ⟨a.toNat, by omega⟩
  obtain ⟨b, rfl⟩ : ∃ k : Nat, b = k := ⟨b.toNat, by omega⟩
  obtain ⟨c, rfl⟩ : ∃ k : Nat, c = k := ⟨c.toNat, by omega⟩
  have ha' : a < 16 := by omega
  have hb' : b < 16 := by omega
  have hc' : c < 16 := by omega
  have hp := thr_of s hs
  by_cases hacc : op = 5 ∨ op = 6 ∨ op = 7
  · exact acc_said h op a b c n hacc ha' hb' (fun e => by have := h7 e; omega) ht
  by_cases hj : op = 8 ∨ op = 9 ∨ op = 10 ∨ op = 11
  · exact jump_said h op a b c n hj ha' hb'
  have hcs : op = 1 ∨ op = 2 ∨ op = 3 ∨ op = 4 ∨ op = 14 ∨ op = 15 ∨ op = 16 ∨ op = 17 ∨ op = 18 ∨ op = 19 ∨ op = 20 ∨ op = 21 ∨ op = 22 := by omega
  clear hacc hj hop ha hb hc h7 h12 h13 hx
  rcases hcs with rfl | rfl | rfl | rfl | rfl | rfl | rfl | rfl | rfl | rfl | rfl | rfl | rfl
  · exact said_plain (one_set h self a b c n ha') do_set (show (1 : Int) ≠ 14 by decide) (show (1 : Int) ≠ 22 by decide) (show (1 : Int) ≠ 21 by decide)
  · exact said_plain (one_mov h self a b c n ha' hb') do_mov (show (2 : Int) ≠ 14 by decide) (show (2 : Int) ≠ 22 by decide) (show (2 : Int) ≠ 21 by decide)
  · exact said_plain (one_add h self a b c n ha' hb' hc') (by rw [← IntWalk.i64_left]; exact do_add) (show (3 : Int) ≠ 14 by decide) (show (3 : Int) ≠ 22 by decide) (show (3 : Int) ≠ 21 by decide)
  · exact said_plain (one_addi h self a b c n ha' hb') (by rw [← IntWalk.i64_left]; exact do_addi) (show (4 : Int) ≠ 14 by decide) (show (4 : Int) ≠ 22 by decide) (show (4 : Int) ≠ 21 by decide)
  · -- park
    have hbl : (s.thr self).blocked = false := by
      unfold oddR strange at hodd
      simp at hodd
      exact hodd.1
    by_cases hd : s.f.r a < -1
    · exfalso; apply ht; rw [do_park]; unfold parkM; rw [if_pos hd, if_pos rfl]
    have hpm : parkM P.now self (s.f.r a) s = (bitI ((s.thr self).parks P.now (s.f.r a)), s.setThr self ((s.thr self).park P.now (s.f.r a))) := by unfold parkM; rw [if_neg hd]
    have hdo : doM P.most P.now self ⟨14, a, b, c, n⟩ s = (bitI ((s.thr self).parks P.now (s.f.r a)), (s.setThr self ((s.thr self).park P.now (s.f.r a))).next) := by
      rw [do_park, hpm, if_neg]
      dsimp only; cases (s.thr self).parks P.now (s.f.r a) <;> decide
    cases hr : (s.thr self).parks P.now (s.f.r a) with
    | true =>
      refine ⟨3, noNt, 1, _, _, _, one_park_off h self a b c n ha' _ hp (by omega) hbl hr, ?_, ?_, fun _ => rfl, fun e => absurd e (by decide)⟩
      · rw [hdo]; simp; rfl
      · rw [hdo, hr]; exact .inl ⟨rfl, rfl, rfl, .inr rfl⟩
    | false =>
      refine ⟨3, noNt, 0, _, _, _, one_park_on h self a b c n ha' _ hp (by omega) hbl hr, ?_, ?_, fun _ => rfl, fun e => absurd e (by decide)⟩
      · rw [hdo]; simp; rfl
      · rw [hdo, hr]; exact .inl ⟨rfl, rfl, rfl, .inl rfl⟩
  · -- unpark
    by_cases hin : 0 ≤ s.f.r a ∧ s.f.r a < (s.ps.length : Int)
    · obtain ⟨j, hj⟩ : ∃ j : Nat, s.f.r a = j := ⟨(s.f.r a).toNat, by omega⟩
      have hjl : j < s.ps.length := by omega
      have hdo : doM P.most P.now self ⟨15, a, b, c, n⟩ s = (0, (s.setThr j (s.thr j).unpark).next) := by
        rw [do_unpark]
        have : unparkM (s.f.r a) s = (0, s.setThr j (s.thr j).unpark) := by unfold unparkM; rw [if_pos hin, hj]; rfl
        rw [this, if_neg (show ¬ (0 : Int) = 3 by decide)]
      exact said_plain (one_unpark h self a b c n ha' j _ (thr_of s hjl) hj) hdo (show (15 : Int) ≠ 14 by decide) (show (15 : Int) ≠ 22 by decide) (show (15 : Int) ≠ 21 by decide)
    · exfalso; apply ht; rw [do_unpark]; unfold unparkM; rw [if_neg hin, if_pos rfl]
  · -- alloc
    have hroom : 1 ≤ n ∧ n ≤ P.most - s.zs.length := by
      unfold oddR at hodd
      simp at hodd
      omega
    obtain ⟨m, rfl⟩ : ∃ m : Nat, n = m := ⟨n.toNat, by omega⟩
    refine said_plain (one_alloc h self a b c m ha' m rfl (by omega) (by omega)) ?_ (show (16 : Int) ≠ 14 by decide) (show (16 : Int) ≠ 22 by decide) (show (16 : Int) ≠ 21 by decide)
    rw [do_alloc]
    unfold allocM
    rw [if_neg (by omega)]
    simp only [put_nat, Int.toNat_natCast]
    rfl
  · exact said_plain (one_self h self a b c n ha') do_self (show (17 : Int) ≠ 14 by decide) (show (17 : Int) ≠ 22 by decide) (show (17 : Int) ≠ 21 by decide)
  · exact said_plain (one_now h self a b c n ha') do_now (show (18 : Int) ≠ 14 by decide) (show (18 : Int) ≠ 22 by decide) (show (18 : Int) ≠ 21 by decide)
  · -- intr
    cases hfl : (s.thr self).flag with
    | true => exact said_plain (one_intr_yes h self a b c n ha' _ hp hfl) (by rw [do_intr, hfl, put_nat]; rfl) (show (19 : Int) ≠ 14 by decide) (show (19 : Int) ≠ 22 by decide) (show (19 : Int) ≠ 21 by decide)
    | false => exact said_plain (one_intr_no h self a b c n ha' _ hp hfl) (by rw [do_intr, hfl, put_nat]; rfl) (show (19 : Int) ≠ 14 by decide) (show (19 : Int) ≠ 22 by decide) (show (19 : Int) ≠ 21 by decide)
  · -- setint
    have hbr : (s.thr self).broken = { s.thr self with flag := true } := by
      unfold oddR strange at hodd
      simp at hodd
      unfold Pk.broken
      rw [← hodd.1, ← hodd.2]
    exact said_plain (one_setint h self a b c n _ hp) (by rw [do_setint, hbr]; rfl) (show (20 : Int) ≠ 14 by decide) (show (20 : Int) ≠ 22 by decide) (show (20 : Int) ≠ 21 by decide)
  · -- mark
    refine ⟨1, ⟨n, s.f.r a⟩, 0, _, _, _, one_mark h self a b c n ha', ?_, ?_, fun e => absurd rfl e, fun e => absurd e (by decide)⟩
    · rw [do_mark]; simp; rfl
    · rw [do_mark]; exact .inr (.inr ⟨show (21 : Int) ≠ 14 by decide, show (21 : Int) ≠ 22 by decide, .inl rfl, rfl, rfl⟩)
  · -- done
    refine ⟨3, noNt, 2, _, _, _, one_done h self a b c n, ?_, ?_, fun _ => rfl, fun e => absurd e (by decide)⟩
    · rw [do_done]; simp; rfl
    · rw [do_done]; exact .inr (.inl ⟨rfl, rfl, rfl, rfl⟩)
end

end Go.Proofs.Ytofnomkedpagfaa
