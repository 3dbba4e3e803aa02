/-
  What the document's Parse of layer 7 comes to.
  Conditions: a line of at most 100000 bytes.
-/
import Derived.Test.YtibgkhfadlgonaaDoorParseIns
namespace Go.Proofs.YtibgkhfadlgonaaDoor
open Go.RowKit

theorem isBlank_iff (c : UInt8) : isBlank c = true ↔ c.toNat = 32 ∨ c.toNat = 9 := by unfold isBlank; simp
theorem bytesS_first {t : ByteArray} (h : 0 < t.size) : bytesS t = t[0] :: (bytesS t).drop 1 := by
  have := bytesS_at t 0 h
  rcases hb : bytesS t with _ | ⟨c, r⟩
  · rw [hb] at this; simp at this
  · rw [hb] at this
    simp only [List.getElem?_cons_zero, Option.some.injEq] at this
    rw [this]; rfl
theorem bytesS_last {t : ByteArray} {m : Nat} (hm : m < t.size) (hm1 : t.size = m + 1) : bytesS t = (bytesS t).dropLast ++ [t[m]] := by
  have h0 : bytesS t ≠ [] := fun e => by have := bytesS_len t; rw [e] at this; simp at this; omega
  have h1 := List.dropLast_concat_getLast h0
  have h2 : (bytesS t).getLast h0 = t[m] := by
    have h3 : (bytesS t).getLast? = some ((bytesS t).getLast h0) := List.getLast?_eq_some_getLast h0
    rw [List.getLast?_eq_getElem?, bytesS_len, show t.size - 1 = m by omega, bytesS_at t m hm] at h3
    exact (Option.some.inj h3).symm
  rw [← h2, h1]

section
variable {w wr : World} {s t : ByteArray} {u : Nat → Value} {Q : Exit → Act → World → Prop} {l : Str} {b m : Nat}

set_option maxHeartbeats 2000000 in
set_option maxRecDepth 100000 in
theorem left_stop (ht : t.size ≤ 100000) (h : t.size = 0 ∨ ∃ h : 0 < t.size, isBlank t[0] = false) (hend : Hid (∀ a', (∃ u, a' = frO t b u) → Q (.exit 0) a' wr)) :
    Code.wp Tryd.prog parseA Q (frO t b u) wr := by
  rcases h with h | ⟨h, hb⟩
  · have h1 : ¬ (0 : Int) < (t.size : Int) := by omega
    clear h
    unfold frO frP
    conv => arg 2; whnf
    go_wp2_with fail
    exact hend.out _ (frO_of (by kernel_rfl))
  · have hb' : ¬ (t[0].toNat = 32 ∨ t[0].toNat = 9) := fun e => by rw [(isBlank_iff _).2 e] at hb; cases hb
    have h1 : (0 : Int) < (t.size : Int) := by omega
    have h2 : ((t[0].toNat : Int) == 32) = false := by rw [beq_eq_false_iff_ne]; omega
    have h3 : ((t[0].toNat : Int) == 9) = false := by rw [beq_eq_false_iff_ne]; omega
    clear hb hb'
    unfold frO frP
    conv => arg 2; whnf
    go_wp2_with fail
    exact hend.out _ (frO_of (by kernel_rfl))

set_option maxHeartbeats 2000000 in
set_option maxRecDepth 100000 in
theorem left_next (ht : t.size ≤ 100000) (h : 0 < t.size) (hb : isBlank t[0] = true) (hnext : Hid (∀ a', (∃ u, a' = frO (t.extract 1 t.size) b u) → Q .normal a' wr)) :
    Code.wp Tryd.prog parseA Q (frO t b u) wr := by
  have h1 : (0 : Int) < (t.size : Int) := by omega
  have h9 : (1 : Int) ≤ (t.size : Int) := by omega
  rcases (isBlank_iff _).1 hb with e | e
  · have h2 : ((t[0].toNat : Int) == 32) = true := by rw [beq_iff_eq]; omega
    clear hb e
    unfold frO frP
    conv => arg 2; whnf
    go_wp2_with fail
    exact hnext.out _ (frO_of (by kernel_rfl))
  · have h2 : ((t[0].toNat : Int) == 32) = false := by rw [beq_eq_false_iff_ne]; omega
    have h3 : ((t[0].toNat : Int) == 9) = true := by rw [beq_iff_eq]; omega
    clear hb e
    unfold frO frP
    conv => arg 2; whnf
    go_wp2_with fail
    exact hnext.out _ (frO_of (by kernel_rfl))

set_option maxHeartbeats 2000000 in
set_option maxRecDepth 100000 in
theorem right_zero (h : t.size = 0) (hend : Hid (∀ a', (∃ u, a' = frO t b u) → Q (.exit 2) a' wr)) : Code.wp Tryd.prog parseB Q (frO t b u) wr := by
  have h1 : ¬ (0 : Int) < (t.size : Int) := by omega
  clear h
  unfold frO frP
  conv => arg 2; whnf
  go_wp2_with fail
  exact hend.out _ (frO_of (by kernel_rfl))

set_option maxHeartbeats 2000000 in
set_option maxRecDepth 100000 in
theorem right_stop (ht : t.size ≤ 100000) (hm : m < t.size) (hm1 : t.size = m + 1) (hb : isBlank t[m] = false) (hend : Hid (∀ a', (∃ u, a' = frO t b u) → Q (.exit 2) a' wr)) :
    Code.wp Tryd.prog parseB Q (frO t b u) wr := by
  have hb' : ¬ (t[m].toNat = 32 ∨ t[m].toNat = 9) := fun e => by rw [(isBlank_iff _).2 e] at hb; cases hb
  have h1 : (0 : Int) < (t.size : Int) := by omega
  have h2 : ((t[m].toNat : Int) == 32) = false := by rw [beq_eq_false_iff_ne]; omega
  have h3 : ((t[m].toNat : Int) == 9) = false := by rw [beq_eq_false_iff_ne]; omega
  have hcast : (t.size : Int) - 1 = (m : Int) := by omega
  have hcmp : (m : Int) < (t.size : Int) := by omega
  have hm9 : (m : Int) ≤ 100000 := by omega
  clear hb hb' hm1
  unfold frO frP
  conv => arg 2; whnf
  go_wp2_with fail
  exact hend.out _ (frO_of (by kernel_rfl))

set_option maxHeartbeats 2000000 in
set_option maxRecDepth 100000 in
theorem right_next (ht : t.size ≤ 100000) (hm : m < t.size) (hm1 : t.size = m + 1) (hb : isBlank t[m] = true) (hnext : Hid (∀ a', (∃ u, a' = frO (t.extract 0 m) b u) → Q .normal a' wr)) :
    Code.wp Tryd.prog parseB Q (frO t b u) wr := by
  have h1 : (0 : Int) < (t.size : Int) := by omega
  have hcast : (t.size : Int) - 1 = (m : Int) := by omega
  have hcmp : (m : Int) < (t.size : Int) := by omega
  have hm9 : (m : Int) ≤ 100000 := by omega
  rcases (isBlank_iff _).1 hb with e | e
  · have h2 : ((t[m].toNat : Int) == 32) = true := by rw [beq_iff_eq]; omega
    clear hb e hm1
    unfold frO frP
    conv => arg 2; whnf
    go_wp2_with fail
    exact hnext.out _ (frO_of (by kernel_rfl))
  · have h2 : ((t[m].toNat : Int) == 32) = false := by rw [beq_eq_false_iff_ne]; omega
    have h3 : ((t[m].toNat : Int) == 9) = true := by rw [beq_iff_eq]; omega
    clear hb e hm1
    unfold frO frP
    conv => arg 2; whnf
    go_wp2_with fail
    exact hnext.out _ (frO_of (by kernel_rfl))
end

def sizeV (v : Value) : Nat := match v with
  | .string t => t.size
  | _ => 0

theorem left_loop {wr : World} {s : ByteArray} {u : Nat → Value} {Q : Exit → Act → World → Prop} {b : Nat} (hs : s.size ≤ 100000)
    (hend : ∀ a' t, (∃ u, a' = frO t b u) → t.size ≤ 100000 → bytesS t = trimL (bytesS s) → Q (.exit 0) a' wr) : Code.wp Tryd.prog (Code.loop parseA) Q (frO s b u) wr := by
  refine wp_loop (fun a' w' => w' = wr ∧ ∃ (t : ByteArray) (u : Nat → Value), a' = frO t b u ∧ t.size ≤ 100000 ∧ trimL (bytesS t) = trimL (bytesS s)) (fun a' _ => sizeV (a'.tmps.getD 0 undef)) ⟨rfl, s, u, rfl, hs, rfl⟩ ?_
  rintro _ _ ⟨rfl, t, u, rfl, ht, htr⟩
  by_cases h0 : t.size = 0
  · refine left_stop ht (.inl h0) (Lib.hid (fun a' he => hend a' t he ht ?_))
    rw [← htr, str_empty h0]; rfl
  have hp : 0 < t.size := by omega
  cases hb : isBlank t[0]
  · refine left_stop ht (.inr ⟨hp, hb⟩) (Lib.hid (fun a' he => hend a' t he ht ?_))
    rw [← htr]
    unfold trimL
    rw [bytesS_first hp, List.dropWhile_cons_of_neg (by rw [hb]; simp)]
  · have hsz : (t.extract 1 t.size).size = t.size - 1 := by rw [← bytesS_len, cut_first, List.length_drop, bytesS_len]
    refine left_next ht hp hb (Lib.hid ?_)
    rintro a' ⟨u', rfl⟩
    refine ⟨⟨rfl, _, u', rfl, by omega, ?_⟩, ?_⟩
    · rw [← htr, cut_first]
      conv => rhs; rw [bytesS_first hp]
      unfold trimL
      rw [List.dropWhile_cons_of_pos hb]
    · show (t.extract 1 t.size).size < t.size
      omega
theorem right_loop {wr : World} {s : ByteArray} {u : Nat → Value} {Q : Exit → Act → World → Prop} {b : Nat} (hs : s.size ≤ 100000)
    (hend : ∀ a' t, (∃ u, a' = frO t b u) → t.size ≤ 100000 → bytesS t = trimR (bytesS s) → Q (.exit 2) a' wr) : Code.wp Tryd.prog (Code.loop parseB) Q (frO s b u) wr := by
  refine wp_loop (fun a' w' => w' = wr ∧ ∃ (t : ByteArray) (u : Nat → Value), a' = frO t b u ∧ t.size ≤ 100000 ∧ trimR (bytesS t) = trimR (bytesS s)) (fun a' _ => sizeV (a'.tmps.getD 0 undef)) ⟨rfl, s, u, rfl, hs, rfl⟩ ?_
  rintro _ _ ⟨rfl, t, u, rfl, ht, htr⟩
  by_cases h0 : t.size = 0
  · refine right_zero h0 (Lib.hid (fun a' he => hend a' t he ht ?_))
    rw [← htr, str_empty h0]; rfl
  obtain ⟨m, hm1⟩ : ∃ m, t.size = m + 1 := ⟨t.size - 1, by omega⟩
  have hm : m < t.size := by omega
  cases hb : isBlank t[m]
  · refine right_stop ht hm hm1 hb (Lib.hid (fun a' he => hend a' t he ht ?_))
    rw [← htr]
    unfold trimR
    rw [bytesS_last hm hm1, List.reverse_append]
    show _ = (List.dropWhile isBlank (t[m] :: _)).reverse
    rw [List.dropWhile_cons_of_neg (by rw [hb]; simp)]
    simp
  · have hcut : bytesS (t.extract 0 m) = (bytesS t).dropLast := by rw [← cut_last, hm1]; rfl
    have hsz : (t.extract 0 m).size = t.size - 1 := by rw [← bytesS_len, hcut, List.length_dropLast, bytesS_len]
    refine right_next ht hm hm1 hb (Lib.hid ?_)
    rintro a' ⟨u', rfl⟩
    refine ⟨⟨rfl, _, u', rfl, by omega, ?_⟩, ?_⟩
    · rw [← htr, hcut]
      conv => rhs; rw [bytesS_last hm hm1]
      rw [trimR_all _ (by simp [hb])]
    · show (t.extract 0 m).size < t.size
      omega

theorem rest_any {w wr : World} {t : ByteArray} {u : Nat → Value} {Q : Exit → Act → World → Prop} {l : Str} (hv : VarL w wr zeroLn) (ht : t.size ≤ 100000) (hl : parseL l = coreL (bytesS t)) (hret : RetL w l Q) : Code.wp Tryd.prog parseRest Q (frO t w.heap.size u) wr := by
  by_cases h0 : t.size = 0
  · exact rest_empty hv (by rw [hl, str_empty h0]; rfl) h0 (Lib.hid hret)
  have hp : 0 < t.size := by omega
  obtain ⟨m, hm1⟩ : ∃ m, t.size = m + 1 := ⟨t.size - 1, by omega⟩
  have hm : m < t.size := by omega
  have e1 := bytesS_first hp
  have hla : (bytesS t).getLast? = some t[m] := by rw [List.getLast?_eq_getElem?, bytesS_len, show t.size - 1 = m by omega]; exact bytesS_at t m hm
  have hcore : coreL (bytesS t) = if t[0].toNat = 59 then some zeroLn else if t[m].toNat = 58 then (if isName (bytesS t).dropLast then some { zeroLn with label := (bytesS t).dropLast } else none) else insL (wordsL (bytesS t)) := by
    rcases hb : bytesS t with _ | ⟨c, r⟩
    · rw [hb] at e1; cases e1
    · rw [hb] at e1 hla
      have e2 : c = t[0] := by
        simp only [List.cons.injEq] at e1
        exact e1.1
      unfold coreL
      dsimp only
      rw [hla, e2]
      by_cases h : t[0].toNat = 59
      · rw [if_pos h, if_pos h]
      · rw [if_neg h, if_neg h]
        by_cases h' : t[m].toNat = 58
        · rw [if_pos h', if_pos (by simp [h'])]
        · rw [if_neg h', if_neg (by simpa using h')]
  rw [hcore] at hl
  by_cases h : t[0].toNat = 59
  · rw [if_pos h] at hl
    exact rest_semi hv hl hp h (Lib.hid hret)
  · rw [if_neg h] at hl
    by_cases h' : t[m].toNat = 58
    · rw [if_pos h'] at hl
      exact rest_label hv hm hm1 hp h h' ht hl (Lib.hid hret)
    · rw [if_neg h'] at hl
      exact rest_ins hv hm hm1 hp h h' ht hl (Lib.hid hret)

/-- What Parse leaves: a line, and whether it is one. -/
def ParseTo (w : World) (l : Str) (e : Ending) (w' : World) : Prop :=
  ∃ (x : Ln) (ok : Bool), e = .returned (.tuple #[.agg #[.string (strS x.label), .int .i64 x.op, .int .i64 x.a, .int .i64 x.b, .int .i64 x.c, .int .i64 x.n, .string (strS x.target)], .bool ok]) ∧ parseL l = (if ok then some x else none) ∧ (ok = false → x = zeroLn) ∧ Kept (fun _ => False) w w'

set_option maxHeartbeats 4000000 in
set_option maxRecDepth 100000 in
theorem refParse_any (s : ByteArray) (w : World) (hs : s.size ≤ 100000) : Calls Tryd.prog 7 #[.string s] w (ParseTo w (bytesS s)) := by
  obtain ⟨W0, hW0⟩ : ∃ W0, (w.alloc (.cells #[.string { data := #[] }, .int .i64 0, .int .i64 0, .int .i64 0, .int .i64 0, .int .i64 0, .string { data := #[] }] 26)).alloc (.cells #[.string { data := #[] }, .int .i64 0, .int .i64 0, .int .i64 0, .int .i64 0, .int .i64 0, .string { data := #[] }] 26) = W0 := ⟨_, rfl⟩
  have hv0 : VarL w W0 zeroLn := by
    refine ⟨?_, ?_, ?_⟩
    · rw [← hW0]
      have := heap_new1 (w.alloc (.cells #[.string { data := #[] }, .int .i64 0, .int .i64 0, .int .i64 0, .int .i64 0, .int .i64 0, .string { data := #[] }] 26)) (.cells #[.string { data := #[] }, .int .i64 0, .int .i64 0, .int .i64 0, .int .i64 0, .int .i64 0, .string { data := #[] }] 26)
      rw [World.size_alloc] at this
      exact this
    · rw [← hW0]
      exact (((Kept.refl (fun _ => False) (w.alloc (.cells #[.string { data := #[] }, .int .i64 0, .int .i64 0, .int .i64 0, .int .i64 0, .int .i64 0, .string { data := #[] }] 26))).alloc _).block _ (by simp) (fun f => f)).trans (heap_new1 w _)
    · rw [← hW0]; exact ((Kept.refl _ w).alloc _).alloc _
  have HV0 := Lib.hid hv0
  clear hv0
  have HLL := Lib.hid (fun (Q : Exit → Act → World → Prop) (act : Act) (he : ∃ u, act = frO s w.heap.size u) (hend : ∀ a' t, (∃ u, a' = frO t w.heap.size u) → t.size ≤ 100000 → bytesS t = trimL (bytesS s) → Q (.exit 0) a' W0) => (by
    obtain ⟨u, rfl⟩ := he
    exact left_loop hs hend : Code.wp Tryd.prog (Code.loop parseA) Q act W0))
  have HRL := Lib.hid (fun (t : ByteArray) (ht : t.size ≤ 100000) (Q : Exit → Act → World → Prop) (act : Act) (he : ∃ u, act = frO t w.heap.size u) (hend : ∀ a' t2, (∃ u, a' = frO t2 w.heap.size u) → t2.size ≤ 100000 → bytesS t2 = trimR (bytesS t) → Q (.exit 2) a' W0) => (by
    obtain ⟨u, rfl⟩ := he
    exact right_loop ht hend : Code.wp Tryd.prog (Code.loop parseB) Q act W0))
  go_enter Tryd.func7, Tryd.ntmps7
  go_wp2_with fail
  clear hW0
  refine HLL.out _ _ (frO_of (by kernel_rfl)) ?_
  rintro a' t ⟨u', rfl⟩ ht htr
  have HTR := Lib.hid htr
  have HT := Lib.hid ht
  clear htr ht
  unfold frO frP
  go_wp2_with fail
  refine HRL.out t HT.out _ _ (frO_of (by kernel_rfl)) ?_
  rintro a' t2 ⟨u2, rfl⟩ ht2 htr2
  have hl : parseL (bytesS s) = coreL (bytesS t2) := by unfold parseL trimS; rw [htr2, HTR.out]
  rename_i K hK
  show K (frO t2 w.heap.size u2) W0
  apply hK
  refine rest_any HV0.out ht2 hl ?_
  rintro a' w' ok ⟨u3, rfl⟩ ⟨hk, x, hx, hp, hz⟩
  clear hK HV0 HLL HRL
  obtain ⟨⟨t0, t1, t2, t3, t4, t5, t6⟩, _⟩ := cells7 hx
  unfold frQ
  exact bodyPost_ret (v := .tuple #[.agg #[.string (strS x.label), .int .i64 x.op, .int .i64 x.a, .int .i64 x.b, .int .i64 x.c, .int .i64 x.n, .string (strS x.target)], .bool ok]) (by simp [results, Tryd.results7, go_sem, t0, t1, t2, t3, t4, t5, t6]) rfl ⟨x, ok, rfl, hp, hz, hk⟩

end Go.Proofs.YtibgkhfadlgonaaDoor
