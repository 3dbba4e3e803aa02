/-
  What the document's May of layer 7 comes to.
  Conditions: an operation's number of 64 bits.
-/
import Derived.Test.YtofnomkedpagfaaRefMayT
import Derived.Test.YtofnomkedpagfaaRefTabC
import Derived.Deep.RegionWith
namespace Go.Proofs.Ytofnomkedpagfaa
open Go.RowKit

def numV (v : Value) : Nat := match v with
  | .int _ n => n.toNat
  | _ => 0
def anyT (l : Str) (n c : Nat) : Bool := (l.take n).any (fun d => d.toNat == c)
theorem anyT_next {l : Str} {n c : Nat} {d : UInt8} (h : l[n]? = some d) : anyT l (n + 1) c = (anyT l n c || d.toNat == c) := by
  unfold anyT
  rw [List.take_add_one, h, List.any_append]
  simp

set_option maxHeartbeats 1000000 in
theorem may_loop {wr : World} {t : ByteArray} {u : Nat → Value} {Q : Exit → Act → World → Prop} {g : Nat} (ht : t.size ≤ 100) (hlet : (bytesS t).all (fun c => c.toNat == 65 || c.toNat == 66 || c.toNat == 67 || c.toNat == 78 || c.toNat == 84) = true)
    (hend : ∀ a', (∃ u, a' = frM g t (anyT (bytesS t) t.size 65) (anyT (bytesS t) t.size 66) (anyT (bytesS t) t.size 67) (anyT (bytesS t) t.size 78) (anyT (bytesS t) t.size 84) (.int .i64 t.size) u) → Q (.exit 0) a' wr) : Code.wp Try.prog (Code.loop mayA) Q (frM g t false false false false false (.int .i64 0) u) wr := by
  refine wp_loop (fun a' w' => w' = wr ∧ ∃ (n : Nat) (u : Nat → Value), n ≤ t.size ∧ a' = frM g t (anyT (bytesS t) n 65) (anyT (bytesS t) n 66) (anyT (bytesS t) n 67) (anyT (bytesS t) n 78) (anyT (bytesS t) n 84) (.int .i64 n) u) (fun a' _ => t.size - numV (a'.tmps.getD 10 undef)) ⟨rfl, 0, u, by omega, rfl⟩ ?_
  rintro _ _ ⟨rfl, n, u, hn, rfl⟩
  by_cases hnt : n < t.size
  · have hat := bytesS_at t n hnt
    have hl := List.all_eq_true.1 hlet _ (List.mem_of_getElem? hat)
    simp only [Bool.or_eq_true, beq_iff_eq] at hl
    have fin : ∀ a' (A B C N T : Bool), (∃ u, a' = frM g t A B C N T (.int .i64 (n + 1 : Nat)) u) → A = anyT (bytesS t) (n + 1) 65 → B = anyT (bytesS t) (n + 1) 66 → C = anyT (bytesS t) (n + 1) 67 → N = anyT (bytesS t) (n + 1) 78 → T = anyT (bytesS t) (n + 1) 84 →
        ((∃ (n : Nat) (u : Nat → Value), n ≤ t.size ∧ a' = frM g t (anyT (bytesS t) n 65) (anyT (bytesS t) n 66) (anyT (bytesS t) n 67) (anyT (bytesS t) n 78) (anyT (bytesS t) n 84) (.int .i64 n) u) ∧ t.size - numV (a'.tmps.getD 10 undef) < t.size - numV ((frM g t (anyT (bytesS t) n 65) (anyT (bytesS t) n 66) (anyT (bytesS t) n 67) (anyT (bytesS t) n 78) (anyT (bytesS t) n 84) (.int .i64 n) u).tmps.getD 10 undef)) := by
      rintro a' A B C N T ⟨u', rfl⟩ rfl rfl rfl rfl rfl
      refine ⟨⟨n + 1, u', by omega, rfl⟩, ?_⟩
      show t.size - ((n + 1 : Nat) : Int).toNat < t.size - (n : Int).toNat
      omega
    rcases hl with (((hl | hl) | hl) | hl) | hl
    · refine may_A hnt (by omega) hl (Lib.hid (fun a' he => (fun h => ⟨⟨rfl, And.left h⟩, And.right h⟩) (fin a' _ _ _ _ _ he ?_ ?_ ?_ ?_ ?_))) <;> rw [anyT_next hat, hl] <;> simp
    · refine may_B hnt (by omega) hl (Lib.hid (fun a' he => (fun h => ⟨⟨rfl, And.left h⟩, And.right h⟩) (fin a' _ _ _ _ _ he ?_ ?_ ?_ ?_ ?_))) <;> rw [anyT_next hat, hl] <;> simp
    · refine may_C hnt (by omega) hl (Lib.hid (fun a' he => (fun h => ⟨⟨rfl, And.left h⟩, And.right h⟩) (fin a' _ _ _ _ _ he ?_ ?_ ?_ ?_ ?_))) <;> rw [anyT_next hat, hl] <;> simp
    · refine may_N hnt (by omega) hl (Lib.hid (fun a' he => (fun h => ⟨⟨rfl, And.left h⟩, And.right h⟩) (fin a' _ _ _ _ _ he ?_ ?_ ?_ ?_ ?_))) <;> rw [anyT_next hat, hl] <;> simp
    · refine may_T hnt (by omega) hl (Lib.hid (fun a' he => (fun h => ⟨⟨rfl, And.left h⟩, And.right h⟩) (fin a' _ _ _ _ _ he ?_ ?_ ?_ ?_ ?_))) <;> rw [anyT_next hat, hl] <;> simp
  · obtain rfl : n = t.size := by omega
    exact may_stop (by omega) (Lib.hid hend)

theorem may_out {op a b c n : Int} (h : ¬ (1 ≤ op ∧ op ≤ 22 ∧ 0 ≤ a ∧ a ≤ 15 ∧ 0 ≤ b ∧ b ≤ 15 ∧ 0 ≤ c ∧ c ≤ 15)) : mayL op a b c n = false := by
  unfold mayL
  rw [Bool.eq_false_iff]
  intro e
  simp only [Bool.and_eq_true, decide_eq_true_eq] at e
  exact h (by omega)

set_option maxHeartbeats 4000000 in
set_option maxRecDepth 100000 in
theorem refMay_any (op a b c n : Int) (w : World) : Calls Try.prog 35 #[.agg #[.int .i64 op, .int .i64 a, .int .i64 b, .int .i64 c, .int .i64 n]] w (BoolTo w (mayL op a b c n)) := by
  have HK := Lib.hid ((Kept.refl (fun _ => False) w).alloc (.cells #[.int .i64 op, .int .i64 a, .int .i64 b, .int .i64 c, .int .i64 n] 87))
  by_cases hgo : 1 ≤ op ∧ op ≤ 22 ∧ 0 ≤ a ∧ a ≤ 15 ∧ 0 ≤ b ∧ b ≤ 15 ∧ 0 ≤ c ∧ c ≤ 15
  case neg =>
    have HF : Hid (BoolTo w (mayL op a b c n) (.returned (.bool false)) (w.alloc (.cells #[.int .i64 op, .int .i64 a, .int .i64 b, .int .i64 c, .int .i64 n] 87))) := Lib.hid ⟨by rw [may_out hgo], HK.out⟩
    clear HK

    by_cases t0 : op < 1
    · clear hgo
      go_enter Try.func35, Try.ntmps35
      go_wp2_with fail
      go_ret
      exact HF.out
    by_cases t1 : 22 < op
    · clear hgo
      go_enter Try.func35, Try.ntmps35
      go_wp2_with fail
      go_ret
      exact HF.out
    by_cases t2 : a < 0
    · clear hgo
      go_enter Try.func35, Try.ntmps35
      go_wp2_with fail
      go_ret
      exact HF.out
    by_cases t3 : 15 < a
    · clear hgo
      go_enter Try.func35, Try.ntmps35
      go_wp2_with fail
      go_ret
      exact HF.out
    by_cases t4 : b < 0
    · clear hgo
      go_enter Try.func35, Try.ntmps35
      go_wp2_with fail
      go_ret
      exact HF.out
    by_cases t5 : 15 < b
    · clear hgo
      go_enter Try.func35, Try.ntmps35
      go_wp2_with fail
      go_ret
      exact HF.out
    by_cases t6 : c < 0
    · clear hgo
      go_enter Try.func35, Try.ntmps35
      go_wp2_with fail
      go_ret
      exact HF.out
    have t7 : 15 < c := by omega
    clear hgo
    go_enter Try.func35, Try.ntmps35
    go_wp2_with fail
    go_ret
    exact HF.out
  obtain ⟨o1, o2, r1, r2, r3, r4, r5, r6⟩ := hgo
  obtain ⟨j, hj⟩ : ∃ j : Nat, op = ((j + 1 : Nat) : Int) := ⟨(op - 1).toNat, by omega⟩
  have hj22 : j < 22 := by omega
  have HB := Lib.hid (heap_new1 w (.cells #[.int .i64 op, .int .i64 a, .int .i64 b, .int .i64 c, .int .i64 n] 87))
  obtain ⟨wd, hwd⟩ : ∃ l, (specL ((j + 1 : Nat) : Int)).1 = l := ⟨_, rfl⟩
  obtain ⟨hs, hhs⟩ : ∃ l, (specL ((j + 1 : Nat) : Int)).2 = l := ⟨_, rfl⟩
  obtain ⟨q1, q2, q3, q4⟩ := spec_nosp j hj22
  have htab := tab_at j hj22
  rw [hwd] at q1 q2 htab
  rw [hhs] at q3 q4 htab
  have hL : mayL op a b c n = ((anyT hs hs.length 65 || a == 0) && (anyT hs hs.length 66 || b == 0) && (anyT hs hs.length 67 || c == 0) && (anyT hs hs.length 78 || anyT hs hs.length 84 || n == 0) && (anyT hs hs.length 84 || small n) && (op != 7 || decide (a ≤ 13))) := by
    have e : ∀ k, hasL k op = anyT hs hs.length k := fun k => by unfold hasL anyT; rw [List.take_length, hj, hhs]
    unfold mayL
    rw [e, e, e, e, e, decide_eq_true o1, decide_eq_true o2, decide_eq_true r1, decide_eq_true r2, decide_eq_true r3, decide_eq_true r4, decide_eq_true r5, decide_eq_true r6]
    rfl
  obtain ⟨t, htt⟩ : ∃ t, strS hs = t := ⟨_, rfl⟩
  have htb : bytesS t = hs := by rw [← htt]; rfl
  have hts : t.size = hs.length := by rw [← bytesS_len, htb]
  have HSP := Lib.hid (fun w' => refSplit_any (strS (wd ++ 32 :: hs)) wd hs rfl (fun c hc => by have := List.all_eq_true.1 q1 c hc; rw [bne_iff_ne] at this; exact this) (by rw [strS_size]; simp; omega) w')
  rw [htt] at HSP
  have HTAB : Hid (∀ w' : World, w'.heap[w.heap.size + 1]? = some (.cells tabCells 9 (0, 0)) → w'.cell? ⟨w.heap.size + 1, j, none⟩ = some (.string (strS (wd ++ 32 :: hs)))) := Lib.hid (fun w' h => by rw [cell_at _ _ _ _ _ h, htab])
  have hcast : op - 1 = (j : Int) := by omega
  have hw1 : IntKind.i64.wrap (j : Int) = (j : Int) := IntWalk.i64_in _ (by omega)
  have hj0 : (0 : Int) ≤ (j : Int) := by omega
  have hj9 : (j : Int) < 22 := by omega
  have n1 : ¬ op < 1 := by omega
  have n2 : ¬ 22 < op := by omega
  have n3 : ¬ a < 0 := by omega
  have n4 : ¬ 15 < a := by omega
  have n5 : ¬ b < 0 := by omega
  have n6 : ¬ 15 < b := by omega
  have n7 : ¬ c < 0 := by omega
  have n8 : ¬ 15 < c := by omega
  have HLOOP := Lib.hid (fun (wr : World) (Q : Exit → Act → World → Prop) (act : Act) (he : ∃ u, act = frM w.heap.size t false false false false false (.int .i64 0) u) (hend : ∀ a', (∃ u, a' = frM w.heap.size t (anyT hs hs.length 65) (anyT hs hs.length 66) (anyT hs hs.length 67) (anyT hs hs.length 78) (anyT hs hs.length 84) (.int .i64 t.size) u) → Q (.exit 0) a' wr) => (by
    obtain ⟨u, rfl⟩ := he
    refine may_loop (by omega) (by rw [htb]; exact q4) ?_
    rw [htb, hts]
    intro a' h
    rw [hts] at hend
    exact hend a' h : Code.wp Try.prog (Code.loop mayA) Q act wr))
  have HEND := Lib.hid (fun (wr : World) (Q : Exit → Act → World → Prop) (act : Act) (he : ∃ u, act = frM w.heap.size t (anyT hs hs.length 65) (anyT hs hs.length 66) (anyT hs hs.length 67) (anyT hs hs.length 78) (anyT hs hs.length 84) (.int .i64 t.size) u) (hk : Kept (fun _ => False) (w.alloc (.cells #[.int .i64 op, .int .i64 a, .int .i64 b, .int .i64 c, .int .i64 n] 87)) wr) (hret : ∀ a', (∃ u, a' = frE (mayL op a b c n) u) → Q .ret a' wr) => (by
    obtain ⟨u, rfl⟩ := he
    have hb := hk.at0 HB.out
    obtain ⟨A, hA⟩ : ∃ A, anyT hs hs.length 65 = A := ⟨_, rfl⟩
    rw [hL, hA] at hret
    rw [hA]
    cases A
    · exact may_endF hb rfl rfl rfl rfl rfl rfl rfl rfl (Lib.hid (fun a' v h hv => by subst hv; exact hret a' h))
    · exact may_endT hb rfl rfl rfl rfl rfl rfl rfl rfl (Lib.hid (fun a' v h hv => by subst hv; exact hret a' h)) : Code.wp Try.prog mayEnd Q act wr))
  clear hL htb hts q1 q2 q3 q4 htab hwd hhs o1 o2 r1 r2 r3 r4 r5 r6 hj htt hj22
  go_enter Try.func35, Try.ntmps35
  go_wp2_with fail
  clear n1 n2 n3 n4 n5 n6 n7 n8
  go_region_with (first
    | (go_at_call 40; refine (refTableC_any _).mono ?_; rintro e w1 ⟨rfl, hT, hk1⟩; have hkw := ((Kept.refl (fun _ => False) (w.alloc (.cells #[.int .i64 op, .int .i64 a, .int .i64 b, .int .i64 c, .int .i64 n] 87))).drew).trans hk1 (fun _ _ f => f); obtain ⟨c0, c1, c2, c3, c4, _⟩ := cells5 (hkw.at0 HB.out); have hcell := HTAB.out w1 (by simpa using hT); have HKW := Lib.hid hkw; clear hT hk1 hkw)
    | (go_at_call 41; refine (HSP.out _).mono ?_; rintro e w2 ⟨rfl, hk2⟩; have HK2 := Lib.hid (HKW.out.trans hk2 (fun _ _ f => f)); clear hk2))
  all_goals (
    go_wp2_with fail
    refine HLOOP.out _ _ _ (frM_of (by kernel_rfl)) ?_
    rintro a' ⟨u2, rfl⟩
    rename_i K hK
    show K (frM w.heap.size t _ _ _ _ _ _ u2) w2
    apply hK
    refine HEND.out _ _ _ ⟨u2, rfl⟩ HK2.out ?_
    rintro a' ⟨u3, rfl⟩
    unfold frE
    exact bodyPost_ret (results_tmp rfl _ _ _) rfl ⟨rfl, HK.out.trans HK2.out (fun _ _ f => f)⟩)

end Go.Proofs.Ytofnomkedpagfaa
