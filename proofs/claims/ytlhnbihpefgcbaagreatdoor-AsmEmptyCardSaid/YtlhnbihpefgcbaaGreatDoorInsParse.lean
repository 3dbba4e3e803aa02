/-
  What the program's Parse comes to.
  Conditions: the table lies as the program's text lays it; lines of at most 100000 bytes.
-/
import Derived.Test.YtlhnbihpefgcbaaGreatDoorInsCore
namespace Go.Proofs.YtlhnbihpefgcbaaGreatDoor
open Go.RowKit

theorem core_text (l : Str) : coreL l = match l with
    | [] => some zeroLn
    | c :: _ => if c.toNat = 59 then some zeroLn
      else if l.getLast?.map UInt8.toNat = some 58 then (if isName l.dropLast then some { zeroLn with label := l.dropLast } else none)
      else partsL (Lib.splitK [32] 0 (min 4 (l.length + 1) - 1) l) := by
  match l with
  | [] => rfl
  | c :: r => rw [parts_ins]; rfl
theorem split_short (n : Nat) (k : Nat) : ∀ (l : Str), l.length ≤ n → ∀ p ∈ Lib.splitK [32] 0 k l, p.length ≤ n := by
  induction k with
  | zero => intro l hl p hp; simp only [Lib.splitK, List.mem_singleton] at hp; subst hp; exact hl
  | succ k ih =>
    intro l hl p hp
    unfold Lib.splitK at hp
    split at hp
    · simp only [List.mem_singleton] at hp; subst hp; exact hl
    · rcases List.mem_cons.1 hp with rfl | hp
      · rw [List.length_take]; omega
      · exact ih _ (by rw [List.length_drop]; omega) p hp
theorem trimS_short (l : Str) : (trimS l).length ≤ l.length := by
  unfold trimS trimR trimL
  rw [List.length_reverse]
  have h1 := (List.dropWhile_sublist isBlank (l := (l.dropWhile isBlank).reverse)).length_le
  have h2 := (List.dropWhile_sublist isBlank (l := l)).length_le
  rw [List.length_reverse] at h1
  omega

/-- What Parse leaves: the line and nothing, or an error. -/
def EndTo (w : World) (r : Option Ln) (e : Ending) (w' : World) : Prop :=
  ((∃ x, r = some x ∧ e = .returned (.tuple #[lnV x, .nilIface])) ∨ (r = none ∧ e = .returned (.tuple #[lnV zeroLn, .iface 47 (.int .i64 2)]))) ∧ Kept (fun _ => False) w w'
theorem first_at {t : ByteArray} (h : 0 < t.size) : ∃ r, bytesS t = t[0] :: r := by
  have := bytesS_at t 0 h
  rcases hb : bytesS t with _ | ⟨c, r⟩
  · rw [hb] at this; simp at this
  · rw [hb] at this
    simp only [List.getElem?_cons_zero, Option.some.injEq] at this
    exact ⟨r, by rw [this]⟩
theorem end_some {w wr : World} {x y : Ln} (hb : wr.heap[w.heap.size]? = some (.cells (lnCells x) 59 (0, 0))) (hk : Kept (fun _ => False) w wr) :
    (set7 wr w.heap.size (.string (strS y.label)) (.int .i64 y.op) (.int .i64 y.a) (.int .i64 y.b) (.int .i64 y.c) (.int .i64 y.n) (.string (strS y.target))).heap[w.heap.size]? = some (.cells (lnCells y) 59 (0, 0)) ∧
    Kept (fun _ => False) w (set7 wr w.heap.size (.string (strS y.label)) (.int .i64 y.op) (.int .i64 y.a) (.int .i64 y.b) (.int .i64 y.c) (.int .i64 y.n) (.string (strS y.target))) := ⟨set7_at hb, set7_kept (Nat.le_refl _) hk⟩

set_option maxHeartbeats 4000000 in
set_option maxRecDepth 100000 in
theorem parse_any (s : ByteArray) (w : World) (hL : Laid w) (hs : s.size ≤ 100000) : Calls Tryz.prog 27 #[.string s] w (EndTo w (parseL (bytesS s))) := by
  have hlen := trimS_short (bytesS s)
  rw [bytesS_len] at hlen
  obtain ⟨t, ht⟩ : ∃ t, strS (trimS (bytesS s)) = t := ⟨_, rfl⟩
  have htb : bytesS t = trimS (bytesS s) := by rw [← ht]; rfl
  have hts : t.size ≤ 100000 := by rw [← bytesS_len, htb]; omega
  obtain ⟨r, hr⟩ : ∃ r, parseL (bytesS s) = r := ⟨_, rfl⟩
  have hr2 : coreL (bytesS t) = r := by rw [htb]; exact hr
  have HT := Lib.hid (fun w' => trim_any s w' (by omega))
  rw [ht] at HT
  rw [hr]
  have hB := heap_new1 w (.cells (lnCells zeroLn) 59)
  have HB := Lib.hid hB
  have HK0 := Lib.hid ((Kept.refl (fun _ => False) w).alloc (.cells (lnCells zeroLn) 59))
  have HL := Lib.hid hL
  rw [core_text] at hr2
  have HR2 := Lib.hid hr2
  clear hr hr2 ht htb hlen hB hL
  go_enter Tryz.func27, Tryz.ntmps27
  go_wp2_with fail
  refine (HT.out _).mono ?_
  rintro e w1 ⟨rfl, hk1⟩
  have HB1 := Lib.hid (hk1.at0 HB.out)
  have HK1 := Lib.hid (HK0.out.trans hk1 (fun _ _ f => f))
  have HL1 := Lib.hid (HL.out.on0 HK1.out)
  clear hk1 HT HB HK0
  have HE0 := Lib.hid (end_some (y := zeroLn) HB1.out HK1.out)
  obtain ⟨⟨t0, t1, t2, t3, t4, t5, t6⟩, f0, f1, f2, f3, f4, f5, f6⟩ := cells7 HB1.out
  rcases Nat.eq_zero_or_pos t.size with h0 | h0
  · have hr : r = some zeroLn := by
      have h := HR2.out
      rw [show bytesS t = [] from List.eq_nil_of_length_eq_zero (by rw [bytesS_len]; exact h0)] at h
      exact h.symm
    obtain ⟨e1, e2⟩ := empty_yes h0
    have HF := Lib.hid (show EndTo w r (.returned (.tuple #[lnV zeroLn, .nilIface])) _ from ⟨.inl ⟨zeroLn, hr, rfl⟩, HE0.out.2⟩)
    clear hr h0
    go_wp2_with fail
    exact bodyPost_ret (res_line rfl _ w.heap.size zeroLn _ rfl HE0.out.1) rfl HF.out
  obtain ⟨e1, e2⟩ := empty_no h0
  obtain ⟨q, hq⟩ := first_at h0
  have h0' : (0 : Int) < (t.size : Int) := by omega
  have hr2 := HR2.out
  rw [bytesS_len] at hr2
  by_cases h59 : t[0].toNat = 59
  · have hr : r = some zeroLn := by
      rw [hq] at hr2
      dsimp only at hr2
      rw [if_pos h59] at hr2
      exact hr2.symm
    have n1 : ((t[0].toNat : Int) == 59) = true := by rw [beq_iff_eq]; omega
    have HF := Lib.hid (show EndTo w r (.returned (.tuple #[lnV zeroLn, .nilIface])) _ from ⟨.inl ⟨zeroLn, hr, rfl⟩, HE0.out.2⟩)
    clear hr hq hr2 h59
    go_wp2_with fail
    exact bodyPost_ret (res_line rfl _ w.heap.size zeroLn _ rfl HE0.out.1) rfl HF.out
  have n1 : ((t[0].toNat : Int) == 59) = false := by rw [beq_eq_false_iff_ne]; omega
  have hr3 : (if (bytesS t).getLast?.map UInt8.toNat = some 58 then (if isName (bytesS t).dropLast then some { zeroLn with label := (bytesS t).dropLast } else none) else partsL (Lib.splitK [32] 0 (min 4 (t.size + 1) - 1) (bytesS t))) = r := by
    rw [← hr2]
    conv => rhs; rw [hq]
    dsimp only
    rw [if_neg h59, ← hq]
  have HPT : Hid (∃ (g : Nat) (b : Bool), (∀ w', Calls Tryz.prog 48 #[.string t, .string { data := #[58] }] w' fun e w'' => e = .returned (.bool b) ∧ w'' = w') ∧ ((b = true ∧ g = 49) ∨ (b = false ∧ g = 47)) ∧ Calls Tryz.prog g #[.string t] w1 (PartTo w1 r)) := Lib.hid (by
    by_cases h58 : (bytesS t).getLast?.map UInt8.toNat = some 58
    · rw [if_pos h58] at hr3
      exact ⟨_, true, fun w' => by have := suffix_any t w' (by omega); rw [decide_eq_true h58] at this; exact this, .inl ⟨rfl, rfl⟩, parseLabel_any t w1 hts h58 r hr3⟩
    · rw [if_neg h58] at hr3
      exact ⟨_, false, fun w' => by have := suffix_any t w' (by omega); rw [decide_eq_false h58] at this; exact this, .inr ⟨rfl, rfl⟩, parseIns_any t w1 HL1.out h0 hts r hr3 (split_short _ _ _ (by rw [bytesS_len]; exact hts))⟩)
  obtain ⟨g, b, hsuf, hg, hcall⟩ := HPT.out
  have HS := Lib.hid hsuf
  have HC := Lib.hid hcall
  clear hsuf hcall HPT hr3 hr2 h59 hq t0 t1 t2 t3 t4 t5 t6 f0 f1 f2 f3 f4 f5 f6 HE0 HR2
  rcases hg with ⟨rfl, rfl⟩ | ⟨rfl, rfl⟩
  · go_wp2_with fail
    refine (HS.out _).mono ?_
    rintro e w2 ⟨rfl, rfl⟩
    go_wp2_with fail
    refine HC.out.mono ?_
    rintro e w3 ⟨x, ok, rfl, hx1, hx2, hk3⟩
    have hc : ∀ o, _ := fun (o : Obj) => cells7 (((Kept.refl (fun _ => False) w3).alloc o).at0 (hk3.at0 HB1.out))
    have t0 := fun o => (hc o).1.1
    have t1 := fun o => (hc o).1.2.1
    have t2 := fun o => (hc o).1.2.2.1
    have t3 := fun o => (hc o).1.2.2.2.1
    have t4 := fun o => (hc o).1.2.2.2.2.1
    have t5 := fun o => (hc o).1.2.2.2.2.2.1
    have t6 := fun o => (hc o).1.2.2.2.2.2.2
    have f0 := fun o => (hc o).2.1
    have f1 := fun o => (hc o).2.2.1
    have f2 := fun o => (hc o).2.2.2.1
    have f3 := fun o => (hc o).2.2.2.2.1
    have f4 := fun o => (hc o).2.2.2.2.2.1
    have f5 := fun o => (hc o).2.2.2.2.2.2.1
    have f6 := fun o => (hc o).2.2.2.2.2.2.2
    cases ok
    · have hr : r = none := by
        rcases hrr : r with _ | z
        · rfl
        · exact absurd (hx1 z hrr).1 (by simp)
      have HE := Lib.hid (end_some (y := zeroLn) (((Kept.refl (fun _ => False) w3).alloc (.cells (lnCells x) 59)).at0 (hk3.at0 HB1.out)) ((HK1.out.trans hk3 (fun _ _ f => f)).alloc (.cells (lnCells x) 59)))
      have HF := Lib.hid (show EndTo w r (.returned (.tuple #[lnV zeroLn, .iface 47 (.int .i64 2)])) _ from ⟨.inr ⟨hr, rfl⟩, HE.out.2⟩)
      clear hr hx1 hx2 hk3 hc
      go_wp2_with fail
      exact bodyPost_ret (res_line rfl _ w.heap.size zeroLn _ rfl HE.out.1) rfl HF.out
    · have hr : r = some x := by
        rcases hrr : r with _ | z
        · exact absurd (hx2 hrr) (by simp)
        · rw [(hx1 z hrr).2]
      have HE := Lib.hid (end_some (y := x) (((Kept.refl (fun _ => False) w3).alloc (.cells (lnCells x) 59)).at0 (hk3.at0 HB1.out)) ((HK1.out.trans hk3 (fun _ _ f => f)).alloc (.cells (lnCells x) 59)))
      have HF := Lib.hid (show EndTo w r (.returned (.tuple #[lnV x, .nilIface])) _ from ⟨.inl ⟨x, hr, rfl⟩, HE.out.2⟩)
      clear hr hx1 hx2 hk3 hc
      go_wp2_with fail
      exact bodyPost_ret (res_line rfl _ w.heap.size x _ rfl HE.out.1) rfl HF.out
  · go_wp2_with fail
    refine (HS.out _).mono ?_
    rintro e w2 ⟨rfl, rfl⟩
    go_wp2_with fail
    refine HC.out.mono ?_
    rintro e w3 ⟨x, ok, rfl, hx1, hx2, hk3⟩
    have hc : ∀ o, _ := fun (o : Obj) => cells7 (((Kept.refl (fun _ => False) w3).alloc o).at0 (hk3.at0 HB1.out))
    have t0 := fun o => (hc o).1.1
    have t1 := fun o => (hc o).1.2.1
    have t2 := fun o => (hc o).1.2.2.1
    have t3 := fun o => (hc o).1.2.2.2.1
    have t4 := fun o => (hc o).1.2.2.2.2.1
    have t5 := fun o => (hc o).1.2.2.2.2.2.1
    have t6 := fun o => (hc o).1.2.2.2.2.2.2
    have f0 := fun o => (hc o).2.1
    have f1 := fun o => (hc o).2.2.1
    have f2 := fun o => (hc o).2.2.2.1
    have f3 := fun o => (hc o).2.2.2.2.1
    have f4 := fun o => (hc o).2.2.2.2.2.1
    have f5 := fun o => (hc o).2.2.2.2.2.2.1
    have f6 := fun o => (hc o).2.2.2.2.2.2.2
    cases ok
    · have hr : r = none := by
        rcases hrr : r with _ | z
        · rfl
        · exact absurd (hx1 z hrr).1 (by simp)
      have HE := Lib.hid (end_some (y := zeroLn) (((Kept.refl (fun _ => False) w3).alloc (.cells (lnCells x) 59)).at0 (hk3.at0 HB1.out)) ((HK1.out.trans hk3 (fun _ _ f => f)).alloc (.cells (lnCells x) 59)))
      have HF := Lib.hid (show EndTo w r (.returned (.tuple #[lnV zeroLn, .iface 47 (.int .i64 2)])) _ from ⟨.inr ⟨hr, rfl⟩, HE.out.2⟩)
      clear hr hx1 hx2 hk3 hc
      go_wp2_with fail
      exact bodyPost_ret (res_line rfl _ w.heap.size zeroLn _ rfl HE.out.1) rfl HF.out
    · have hr : r = some x := by
        rcases hrr : r with _ | z
        · exact absurd (hx2 hrr) (by simp)
        · rw [(hx1 z hrr).2]
      have HE := Lib.hid (end_some (y := x) (((Kept.refl (fun _ => False) w3).alloc (.cells (lnCells x) 59)).at0 (hk3.at0 HB1.out)) ((HK1.out.trans hk3 (fun _ _ f => f)).alloc (.cells (lnCells x) 59)))
      have HF := Lib.hid (show EndTo w r (.returned (.tuple #[lnV x, .nilIface])) _ from ⟨.inl ⟨x, hr, rfl⟩, HE.out.2⟩)
      clear hr hx1 hx2 hk3 hc
      go_wp2_with fail
      exact bodyPost_ret (res_line rfl _ w.heap.size x _ rfl HE.out.1) rfl HF.out

end Go.Proofs.YtlhnbihpefgcbaaGreatDoor
