/-
  A reader of bytes in memory; what its spoil and number come to.
  Conditions: the bytes lie in blocks that were there before the reader.
-/
import Derived.Test.YtkicpbnphbcdaaaWire
import Derived.Test.YtkicpbnphbcdaaaBytes
import Derived.Test.YtkicpbnphbcdaaaCheck
namespace Go.Proofs.Ytkicpbnphbcdaaa
open Go.RowKit

/-- The reader at block r; none: it is bad. -/
def Rd (w : World) (r B : Nat) : Option (List Nat) → Prop
  | none => w.heap[r]? = some (.cells #[.slice none 0 0, .bool true] 68 (0, 0))
  | some bs => (∃ A c, w.heap[r]? = some (.cells #[.slice A bs.length c, .bool false] 68 (0, 0)) ∧ bs.length ≤ c ∧ Elems w B A 1 bC bs) ∧ ∀ b ∈ bs, b < 256

theorem Rd.lt {w : World} {r B : Nat} {st : Option (List Nat)} (h : Rd w r B st) : r < w.heap.size := by
  match st, h with
  | none, h => exact (Array.getElem?_eq_some_iff.1 h).1
  | some bs, ⟨⟨A, c, h, _⟩, _⟩ => exact (Array.getElem?_eq_some_iff.1 h).1
theorem Rd.kept {w w' : World} {r B : Nat} {S : Nat → Prop} {st : Option (List Nat)} (h : Rd w r B st) (hk : Kept S w w') (hB : B ≤ r) (hS : ∀ k, k ≤ r → ¬ S k) : Rd w' r B st := by
  have hl := h.lt
  match st, h with
  | none, h => exact (hk.block r hl (hS r (Nat.le_refl _))).trans h
  | some bs, ⟨⟨A, c, h, h2, h3⟩, h4⟩ => exact ⟨⟨A, c, (hk.block r hl (hS r (Nat.le_refl _))).trans h, h2, h3.kept hk (by omega) (fun k hk' => hS k (by omega))⟩, h4⟩

theorem blk_set {w : World} {g : Nat} {t : TypeId} {cs : Array Value} (h : w.heap[g]? = some (.cells cs t (0, 0))) (i : Nat) (u : Value) : (w.setCell ⟨g, i, none⟩ u).heap[g]? = some (.cells (cs.setIfInBounds i u) t (0, 0)) := by
  simp [World.setCell, Array.getElem?_modify, h]

theorem spoil_any {w : World} {r : Nat} {a b : Value} (h : w.heap[r]? = some (.cells #[a, b] 68 (0, 0))) :
    Calls Try.prog 58 #[.pointer (some ⟨r, 0, none⟩)] w fun e w' => e = .returned (.tuple #[]) ∧ w'.heap[r]? = some (.cells #[.slice none 0 0, .bool true] 68 (0, 0)) ∧ Kept (fun k => k = r) w w' := by
  have c0 : w.cell? ⟨r, 0, none⟩ = some a := by rw [cell_at w _ 0 _ _ h]; rfl
  have c1 : w.cell? ⟨r, 1, none⟩ = some b := by rw [cell_at w _ 1 _ _ h]; rfl
  have f0 : w.frozen? ⟨r, 0, none⟩ = false := frozen_at w _ 0 _ _ h
  have f1 : w.frozen? ⟨r, 1, none⟩ = false := frozen_at w _ 1 _ _ h
  have hf : ((w.setCell ⟨r, 0, none⟩ (.slice none 0 0)).setCell ⟨r, 1, none⟩ (.bool true)).heap[r]? = some (.cells #[.slice none 0 0, .bool true] 68 (0, 0)) := blk_set (blk_set h 0 _) 1 _
  have HF := Lib.hid hf
  clear h hf
  go_enter Try.func58, Try.ntmps58
  go_wp2_with fail
  go_end0
  exact ⟨rfl, HF.out, ((Kept.refl (fun k => k = r) w).setCell ⟨r, 0, none⟩ _ (fun _ => rfl)).setCell ⟨r, 1, none⟩ _ (fun _ => rfl)⟩

theorem sum_shift (x acc k : Nat) (hk : k ≤ 9) (hx : k = 9 → x ≤ 1) (ha : acc < 128 ^ k) : IntKind.u64.wrap ((acc : Int) + IntKind.u64.wrap ((x : Int) % 128 * 2 ^ (k * 7))) = ((acc + x % 128 * 128 ^ k : Nat) : Int) := by
  have hx128 : x % 128 < 128 := Nat.mod_lt _ (by omega)
  have e : ((x : Int) % 128) = ((x % 128 : Nat) : Int) := by omega
  rw [e]
  have hy1 : k = 9 → x % 128 ≤ 1 := fun h => by have := hx h; omega
  generalize x % 128 = y at *
  clear hx e
  have hm : k * 7 = 7 * k := by omega
  have h2 : (2 : Int) ^ (7 * k) = ((128 ^ k : Nat) : Int) := by
    rw [Int.pow_mul]
    simp
  rw [hm, h2]
  have w : ∀ n : Int, IntKind.u64.wrap n = n % 18446744073709551616 := fun n => by simp [IntKind.wrap, IntKind.bits, IntKind.signed]
  have hb : acc + y * 128 ^ k < 18446744073709551616 := by
    by_cases h9 : k = 9
    · subst h9
      have := hy1 rfl
      calc acc + y * 128 ^ 9 ≤ acc + 1 * 128 ^ 9 := Nat.add_le_add_left (Nat.mul_le_mul_right _ this) _
        _ < 18446744073709551616 := by omega
    · have h8 : 128 ^ k ≤ 128 ^ 8 := Nat.pow_le_pow_right (by omega) (by omega)
      have := Nat.mul_le_mul (show y ≤ 127 by omega) h8
      omega
  rw [w, w]
  have e1 : (y : Int) * ((128 ^ k : Nat) : Int) = ((y * 128 ^ k : Nat) : Int) := by simp
  rw [e1]
  omega

/-- The rest, and what is read of it. -/
def NumTo (w : World) (r B : Nat) (st : Option (List Nat)) (e : Ending) (w' : World) : Prop := e = .returned (.int .i64 (numP st).1) ∧ Rd w' r B (numP st).2 ∧ Kept (fun k => k = r) w w'

theorem unfold_any (v : Int) (u : Nat) (hv : v = (u : Int)) (hu : u < 18446744073709551616) (w : World) : Calls Try.prog 59 #[.int .u64 v] w fun e w' => e = .returned (.int .i64 (unfoldN u)) ∧ w = w' := by
  subst hv
  by_cases h : u % 2 = 1
  · have e : unfoldN u = -((u : Int) / 2) - 1 := by unfold unfoldN; rw [if_pos h]; omega
    have h1 : (u : Int) % 2 = 1 := by omega
    rw [e]
    clear e h
    go_enter Try.func59, Try.ntmps59
    go_wp2_with fail
    go_ret
    exact ⟨rfl, rfl⟩
  · have e : unfoldN u = (u : Int) / 2 := by unfold unfoldN; rw [if_neg h]; omega
    have h1 : ((u : Int) % 2 == 1) = false := by rw [beq_eq_false_iff_ne]; omega
    rw [e]
    clear e h
    go_enter Try.func59, Try.ntmps59
    go_wp2_with fail
    go_ret
    exact ⟨rfl, rfl⟩

theorem number_none {w : World} {r B : Nat} (h : Rd w r B none) : Calls Try.prog 50 #[.pointer (some ⟨r, 0, none⟩)] w (NumTo w r B none) := by
  have h0 : w.heap[r]? = some (.cells #[.slice none 0 0, .bool true] 68 (0, 0)) := h
  have c0 : w.cell? ⟨r, 0, none⟩ = some (.slice none 0 0) := by rw [cell_at w _ 0 _ _ h0]; rfl
  have HS := Lib.hid (spoil_any h0)
  clear h h0
  go_enter Try.func50, Try.ntmps50
  go_wp2_with fail
  refine wp_loop_rounds 1 ?_
  rw [rounds_succ]
  go_wp2_with fail
  refine (HS.out).mono ?_
  rintro e w2 ⟨rfl, h2, hk2⟩
  have HF : Hid (NumTo w r B none (.returned (.int .i64 0)) w2) := Lib.hid ⟨rfl, h2, hk2⟩
  clear h2 hk2
  go_wp2_with fail
  go_ret
  exact HF.out

theorem sum_nine {acc : Nat} (h : acc < 128 ^ 9) : IntKind.u64.wrap ((acc : Int) + 9223372036854775808) = ((acc + 1 % 128 * 128 ^ 9 : Nat) : Int) := by
  have w : ∀ n : Int, IntKind.u64.wrap n = n % 18446744073709551616 := fun n => by simp [IntKind.wrap, IntKind.bits, IntKind.signed]
  rw [w]; omega
theorem acc_next {x acc k : Nat} (h : acc < 128 ^ k) : acc + x % 128 * 128 ^ k < 128 ^ (k + 1) := by
  have := Nat.mul_le_mul_right (128 ^ k) (show x % 128 ≤ 127 by omega)
  rw [Nat.pow_succ]; omega

set_option maxHeartbeats 4000000 in
set_option maxRecDepth 100000 in
theorem number_some {w : World} {r B : Nat} {bs : List Nat} (h : Rd w r B (some bs)) (hB : B ≤ r) : Calls Try.prog 50 #[.pointer (some ⟨r, 0, none⟩)] w (NumTo w r B (some bs)) := by
  obtain ⟨⟨A, c, h0, hc, hE⟩, hb⟩ := h
  have hmax := hE.1
  unfold maxLen at hmax
  have c0 : w.cell? ⟨r, 0, none⟩ = some (.slice A bs.length c) := by rw [cell_at w _ 0 _ _ h0]; rfl
  have f0 : w.frozen? ⟨r, 0, none⟩ = false := frozen_at w _ 0 _ _ h0
  have HS := Lib.hid (spoil_any h0)
  have HE := Lib.hid hE
  have HB := Lib.hid hb
  have H0 := Lib.hid h0
  clear h0 hE hb
  go_enter Try.func50, Try.ntmps50
  go_wp2_with fail
  go_loopw [3, 11] (fun u i wr => ∃ (k acc : Nat), i = .int .i64 k ∧ u = .int .u64 acc ∧ k ≤ bs.length ∧ k ≤ 9 ∧ acc < 128 ^ k ∧ readD 0 0 bs = readD k acc (bs.drop k) ∧ wr = w) (fun _ i _ => bs.length - (intOf i).toNat)
  case atStart => exact ⟨0, 0, rfl, rfl, by omega, by omega, by decide, by rw [List.drop_zero], rfl⟩
  case round =>
    obtain ⟨k, acc, rfl, rfl, hk1, hk9, hacc, hrd, rfl⟩ := hrel
    have HRD := Lib.hid hrd; clear hrd
    have HACC := Lib.hid hacc; clear hacc
    by_cases hkk : k < bs.length
    · obtain ⟨x, hx⟩ : ∃ x, bs[k]? = some x := ⟨_, List.getElem?_eq_getElem hkk⟩
      have hxb := HB.out x (List.mem_of_getElem? hx)
      obtain ⟨g, off, rfl, hg, hcell⟩ := HE.out.2 k x hx
      have c1 : wr.cell? ⟨g, off + k, none⟩ = some (.int .u8 x) := by have := hcell 0 _ rfl; rwa [Nat.mul_one, Nat.add_zero] at this
      have hdrop : bs.drop k = x :: bs.drop (k + 1) := by obtain ⟨h1, h2⟩ := List.getElem?_eq_some_iff.1 hx; rw [← h2]; exact List.drop_eq_getElem_cons h1
      have HD : Hid (readD 0 0 bs = readD k acc (x :: bs.drop (k + 1))) := Lib.hid (by rw [HRD.out, hdrop])
      have HCL : Hid (g < wr.heap.size ∧ g < B) := Lib.hid ⟨World.block_lt_of_cell? wr _ c1, hg⟩
      have HK9 := Lib.hid hk9
      clear hx hcell hdrop HRD
      have hbadF : ∀ w2, readD k acc (x :: bs.drop (k + 1)) = none → w2.heap[r]? = some (.cells #[.slice none 0 0, .bool true] 68 (0, 0)) → Kept (fun k => k = r) wr w2 → NumTo wr r B (some bs) (.returned (.int .i64 0)) w2 := by
        intro w2 hn h2 hk2
        unfold NumTo numP
        dsimp only
        rw [HD.out, hn]
        exact ⟨rfl, h2, hk2⟩
      have HBAD := Lib.hid hbadF
      clear hbadF
      by_cases h9 : k = 9
      · subst h9
        by_cases hx1 : 1 < x
        · have hx1' : (1 : Int) < (x : Int) := by omega
          have hn : readD 9 acc (x :: bs.drop (9 + 1)) = none := by rw [readD, if_pos (.inl ⟨rfl, hx1⟩)]
          have HN := Lib.hid hn
          clear hn hx1
          go_wp2_with fail
          refine (HS.out).mono ?_
          rintro e w2 ⟨rfl, h2, hk2⟩
          have HF := Lib.hid (HBAD.out w2 HN.out h2 hk2)
          clear h2 hk2
          go_wp2_with fail
          go_ret
          exact HF.out
        · by_cases hx0 : x = 0
          · subst hx0
            have hn : readD 9 acc (0 :: bs.drop (9 + 1)) = none := by rw [readD, if_pos (.inr (.inl ⟨by omega, rfl⟩))]
            have HN := Lib.hid hn
            clear hn hx1
            go_wp2_with fail
            refine (HS.out).mono ?_
            rintro e w2 ⟨rfl, h2, hk2⟩
            have HF := Lib.hid (HBAD.out w2 HN.out h2 hk2)
            clear h2 hk2
            go_wp2_with fail
            go_ret
            exact HF.out
          · obtain rfl : x = 1 := by omega
            have HNB : Hid (¬ ((9 = 9 ∧ 1 < 1) ∨ (0 < 9 ∧ 1 = 0) ∨ 256 ≤ 1)) := Lib.hid (by omega)
            clear hx0 hx1
            have hrd2 : 1 < 128 → readD 0 0 bs = some (acc + 1 % 128 * 128 ^ 9, bs.drop (9 + 1)) := fun hx128 => by rw [HD.out, readD, if_neg HNB.out, if_pos hx128]
            have hlt : 1 < 128 → acc + 1 % 128 * 128 ^ 9 < 18446744073709551616 := fun hx128 => by obtain ⟨u, _, hu1, hu, _⟩ := readD_sound _ _ _ _ _ (by omega) (hrd2 hx128); omega
            have hdl : (bs.drop (9 + 1)).length = bs.length - (9 + 1) := List.length_drop
            have hfin : 1 < 128 → ∀ A', (bs.length - (9 + 1) ≠ 0 → A' = some ⟨g, off + (9 + 1), none⟩) → NumTo wr r B (some bs) (.returned (.int .i64 (unfoldN (acc + 1 % 128 * 128 ^ 9)))) (wr.setCell ⟨r, 0, none⟩ (.slice A' (bs.length - (9 + 1)) (c - (9 + 1)))) := by
              intro hx128 A' hA'
              unfold NumTo numP
              dsimp only
              rw [hrd2 hx128]
              refine ⟨rfl, ⟨⟨A', c - (9 + 1), by rw [blk_set H0.out]; show _ = some (Obj.cells #[.slice A' (bs.drop (9 + 1)).length _, _] _ _); rw [hdl]; rfl, by rw [hdl]; omega, ?_⟩, fun b hb => HB.out b (List.mem_of_mem_drop hb)⟩, (Kept.refl (fun k => k = r) wr).setCell ⟨r, 0, none⟩ _ (fun _ => rfl)⟩
              refine ⟨by have := HE.out.1; rw [hdl]; omega, fun i y hi => ?_⟩
              have hil : i < bs.length - (9 + 1) := by have := (List.getElem?_eq_some_iff.1 hi).1; omega
              rw [List.getElem?_drop] at hi
              obtain ⟨g', off', e', hb', hc'⟩ := HE.out.2 _ y hi
              simp only [Option.some.injEq, Addr.mk.injEq, and_true] at e'
              obtain ⟨rfl, rfl⟩ := e'
              refine ⟨g, off + (9 + 1), hA' (by omega), hb', fun j v hj => ?_⟩
              rw [((Kept.refl (fun k => k = r) wr).setCell ⟨r, 0, none⟩ _ (fun _ => rfl)).cell (p := ⟨g, _, none⟩) HCL.out.1 (fun e => by have h1 := HCL.out.2; have e' : g = r := e; omega), ← hc' j v hj]
              congr 2; omega
            have HFIN := Lib.hid hfin
            have HLT := Lib.hid hlt
            clear hfin hlt hrd2 hdl
            have hs9 : IntKind.u64.wrap ((acc : Int) + 9223372036854775808) = ((acc + 1 % 128 * 128 ^ 9 : Nat) : Int) := sum_nine HACC.out
            have HS9 := Lib.hid hs9
            clear hs9
            by_cases hcap : c = 9 + 1
            · subst hcap
              go_wp2_with fail
              refine (unfold_any _ (acc + 1 % 128 * 128 ^ 9) HS9.out (HLT.out (by omega)) _).mono ?_
              rintro e w2 ⟨rfl, rfl⟩
              have HF := Lib.hid (HFIN.out (by omega) (some ⟨g, off, none⟩) (by omega))
              go_wp2_with fail
              go_ret
              exact (by have := HF.out; simpa [show bs.length - (9 + 1) = 0 by omega] using this)
            · have hcap' : (9 : Int) + 1 < (c : Int) := by omega
              go_wp2_with fail
              refine (unfold_any _ (acc + 1 % 128 * 128 ^ 9) HS9.out (HLT.out (by omega)) _).mono ?_
              rintro e w2 ⟨rfl, rfl⟩
              have HF := Lib.hid (HFIN.out (by omega) (some ⟨g, off + (9 + 1), none⟩) (fun _ => rfl))
              go_wp2_with fail
              go_ret
              exact (by have := HF.out; simpa using this)
      · have h9' : ((k : Int) == 9) = false := by rw [beq_eq_false_iff_ne]; omega
        by_cases hk0 : 0 < k
        · have hk0' : (0 : Int) < (k : Int) := by omega
          by_cases hx0 : x = 0
          · have hx0' : ((x : Int) == 0) = true := by rw [beq_iff_eq]; omega
            have hn : readD k acc (x :: bs.drop (k + 1)) = none := by rw [readD, if_pos (.inr (.inl ⟨by omega, hx0⟩))]
            clear hx0
            have HN := Lib.hid hn
            clear hn
            go_wp2_with fail
            refine (HS.out).mono ?_
            rintro e w2 ⟨rfl, h2, hk2⟩
            have HF := Lib.hid (HBAD.out w2 HN.out h2 hk2)
            clear h2 hk2
            go_wp2_with fail
            go_ret
            exact HF.out
          · have hx0' : ((x : Int) == 0) = false := by rw [beq_eq_false_iff_ne]; omega
            have HNB : Hid (¬ ((k = 9 ∧ 1 < x) ∨ (0 < k ∧ x = 0) ∨ 256 ≤ x)) := Lib.hid (by omega)
            have HXB : Hid (k = 9 → x ≤ 1) := Lib.hid (by omega)
            have H9 := Lib.hid h9
            clear h9 hx0
            have hrd2 : x < 128 → readD 0 0 bs = some (acc + x % 128 * 128 ^ k, bs.drop (k + 1)) := fun hx128 => by rw [HD.out, readD, if_neg HNB.out, if_pos hx128]
            have hlt : x < 128 → acc + x % 128 * 128 ^ k < 18446744073709551616 := fun hx128 => by obtain ⟨u, _, hu1, hu, _⟩ := readD_sound _ _ _ _ _ (by omega) (hrd2 hx128); omega
            have hdl : (bs.drop (k + 1)).length = bs.length - (k + 1) := List.length_drop
            have hfin : x < 128 → ∀ A', (bs.length - (k + 1) ≠ 0 → A' = some ⟨g, off + (k + 1), none⟩) → NumTo wr r B (some bs) (.returned (.int .i64 (unfoldN (acc + x % 128 * 128 ^ k)))) (wr.setCell ⟨r, 0, none⟩ (.slice A' (bs.length - (k + 1)) (c - (k + 1)))) := by
              intro hx128 A' hA'
              unfold NumTo numP
              dsimp only
              rw [hrd2 hx128]
              refine ⟨rfl, ⟨⟨A', c - (k + 1), by rw [blk_set H0.out]; show _ = some (Obj.cells #[.slice A' (bs.drop (k + 1)).length _, _] _ _); rw [hdl]; rfl, by rw [hdl]; omega, ?_⟩, fun b hb => HB.out b (List.mem_of_mem_drop hb)⟩, (Kept.refl (fun k => k = r) wr).setCell ⟨r, 0, none⟩ _ (fun _ => rfl)⟩
              refine ⟨by have := HE.out.1; rw [hdl]; omega, fun i y hi => ?_⟩
              have hil : i < bs.length - (k + 1) := by have := (List.getElem?_eq_some_iff.1 hi).1; omega
              rw [List.getElem?_drop] at hi
              obtain ⟨g', off', e', hb', hc'⟩ := HE.out.2 _ y hi
              simp only [Option.some.injEq, Addr.mk.injEq, and_true] at e'
              obtain ⟨rfl, rfl⟩ := e'
              refine ⟨g, off + (k + 1), hA' (by omega), hb', fun j v hj => ?_⟩
              rw [((Kept.refl (fun k => k = r) wr).setCell ⟨r, 0, none⟩ _ (fun _ => rfl)).cell (p := ⟨g, _, none⟩) HCL.out.1 (fun e => by have h1 := HCL.out.2; have e' : g = r := e; omega), ← hc' j v hj]
              congr 2; omega
            have HFIN := Lib.hid hfin
            have HLT := Lib.hid hlt
            have hnext : ¬ x < 128 → readD 0 0 bs = readD (k + 1) (acc + x % 128 * 128 ^ k) (bs.drop (k + 1)) := fun hx128 => by rw [HD.out, readD, if_neg HNB.out, if_neg hx128]
            have HNEXT := Lib.hid hnext
            clear hfin hlt hrd2 hdl hnext
            by_cases hx2 : x < 128
            · have hx2' : (x : Int) < 128 := by omega
              have HX2 := Lib.hid hx2; clear hx2
              by_cases hcap : c = k + 1
              · subst hcap
                go_wp2_with fail
                refine (unfold_any _ (acc + x % 128 * 128 ^ k) (sum_shift x acc k HK9.out HXB.out HACC.out) (HLT.out HX2.out) _).mono ?_
                rintro e w2 ⟨rfl, rfl⟩
                have HF := Lib.hid (HFIN.out HX2.out (some ⟨g, off, none⟩) (by omega))
                go_wp2_with fail
                go_ret
                exact (by have := HF.out; simpa [show bs.length - (k + 1) = 0 by omega] using this)
              · have hcap' : (k : Int) + 1 < (c : Int) := by omega
                go_wp2_with fail
                refine (unfold_any _ (acc + x % 128 * 128 ^ k) (sum_shift x acc k HK9.out HXB.out HACC.out) (HLT.out HX2.out) _).mono ?_
                rintro e w2 ⟨rfl, rfl⟩
                have HF := Lib.hid (HFIN.out HX2.out (some ⟨g, off + (k + 1), none⟩) (fun _ => rfl))
                go_wp2_with fail
                go_ret
                exact (by have := HF.out; simpa using this)
            · have hx2' : ¬ ((x : Int) < 128) := by omega
              have hfin : ∃ (k' acc' : Nat), Value.int .i64 ((k : Int) + 1) = .int .i64 k' ∧ Value.int .u64 (IntKind.u64.wrap ((acc : Int) + IntKind.u64.wrap ((x : Int) % 128 * 2 ^ (k * 7)))) = .int .u64 acc' ∧ k' ≤ bs.length ∧ k' ≤ 9 ∧ acc' < 128 ^ k' ∧ readD 0 0 bs = readD k' acc' (bs.drop k') ∧ wr = wr :=
                ⟨k + 1, acc + x % 128 * 128 ^ k, by go_num, by rw [sum_shift x acc k HK9.out HXB.out HACC.out], by omega, by have := H9.out; omega, acc_next HACC.out, HNEXT.out hx2, rfl⟩
              have HF := Lib.hid hfin
              clear hfin hx2
              go_wp2_with fail
              go_roundw
              case rel =>
                obtain ⟨a, b, r1, r2, r3, r4, r5, r6, _⟩ := HF.out
                exact ⟨a, b, r1, r2, r3, r4, r5, r6, by first | rfl | trivial⟩
              case measure => simp [intOf]; omega
        · have hk0' : ¬ ((0 : Int) < (k : Int)) := by omega
          have H9 := Lib.hid h9
          have HNB : Hid (¬ ((k = 9 ∧ 1 < x) ∨ (0 < k ∧ x = 0) ∨ 256 ≤ x)) := Lib.hid (by omega)
          have HXB : Hid (k = 9 → x ≤ 1) := Lib.hid (by omega)
          have hrd2 : x < 128 → readD 0 0 bs = some (acc + x % 128 * 128 ^ k, bs.drop (k + 1)) := fun hx128 => by rw [HD.out, readD, if_neg HNB.out, if_pos hx128]
          have hlt : x < 128 → acc + x % 128 * 128 ^ k < 18446744073709551616 := fun hx128 => by obtain ⟨u, _, hu1, hu, _⟩ := readD_sound _ _ _ _ _ (by omega) (hrd2 hx128); omega
          have hdl : (bs.drop (k + 1)).length = bs.length - (k + 1) := List.length_drop
          have hfin : x < 128 → ∀ A', (bs.length - (k + 1) ≠ 0 → A' = some ⟨g, off + (k + 1), none⟩) → NumTo wr r B (some bs) (.returned (.int .i64 (unfoldN (acc + x % 128 * 128 ^ k)))) (wr.setCell ⟨r, 0, none⟩ (.slice A' (bs.length - (k + 1)) (c - (k + 1)))) := by
            intro hx128 A' hA'
            unfold NumTo numP
            dsimp only
            rw [hrd2 hx128]
            refine ⟨rfl, ⟨⟨A', c - (k + 1), by rw [blk_set H0.out]; show _ = some (Obj.cells #[.slice A' (bs.drop (k + 1)).length _, _] _ _); rw [hdl]; rfl, by rw [hdl]; omega, ?_⟩, fun b hb => HB.out b (List.mem_of_mem_drop hb)⟩, (Kept.refl (fun k => k = r) wr).setCell ⟨r, 0, none⟩ _ (fun _ => rfl)⟩
            refine ⟨by have := HE.out.1; rw [hdl]; omega, fun i y hi => ?_⟩
            have hil : i < bs.length - (k + 1) := by have := (List.getElem?_eq_some_iff.1 hi).1; omega
            rw [List.getElem?_drop] at hi
            obtain ⟨g', off', e', hb', hc'⟩ := HE.out.2 _ y hi
            simp only [Option.some.injEq, Addr.mk.injEq, and_true] at e'
            obtain ⟨rfl, rfl⟩ := e'
            refine ⟨g, off + (k + 1), hA' (by omega), hb', fun j v hj => ?_⟩
            rw [((Kept.refl (fun k => k = r) wr).setCell ⟨r, 0, none⟩ _ (fun _ => rfl)).cell (p := ⟨g, _, none⟩) HCL.out.1 (fun e => by have h1 := HCL.out.2; have e' : g = r := e; omega), ← hc' j v hj]
            congr 2; omega
          have HFIN := Lib.hid hfin
          have HLT := Lib.hid hlt
          have hnext : ¬ x < 128 → readD 0 0 bs = readD (k + 1) (acc + x % 128 * 128 ^ k) (bs.drop (k + 1)) := fun hx128 => by rw [HD.out, readD, if_neg HNB.out, if_neg hx128]
          have HNEXT := Lib.hid hnext
          clear hfin hlt hrd2 hdl hnext
          by_cases hx2 : x < 128
          · have hx2' : (x : Int) < 128 := by omega
            have HX2 := Lib.hid hx2; clear hx2
            by_cases hcap : c = k + 1
            · subst hcap
              go_wp2_with fail
              refine (unfold_any _ (acc + x % 128 * 128 ^ k) (sum_shift x acc k HK9.out HXB.out HACC.out) (HLT.out HX2.out) _).mono ?_
              rintro e w2 ⟨rfl, rfl⟩
              have HF := Lib.hid (HFIN.out HX2.out (some ⟨g, off, none⟩) (by omega))
              go_wp2_with fail
              go_ret
              exact (by have := HF.out; simpa [show bs.length - (k + 1) = 0 by omega] using this)
            · have hcap' : (k : Int) + 1 < (c : Int) := by omega
              go_wp2_with fail
              refine (unfold_any _ (acc + x % 128 * 128 ^ k) (sum_shift x acc k HK9.out HXB.out HACC.out) (HLT.out HX2.out) _).mono ?_
              rintro e w2 ⟨rfl, rfl⟩
              have HF := Lib.hid (HFIN.out HX2.out (some ⟨g, off + (k + 1), none⟩) (fun _ => rfl))
              go_wp2_with fail
              go_ret
              exact (by have := HF.out; simpa using this)
          · have hx2' : ¬ ((x : Int) < 128) := by omega
            have hfin : ∃ (k' acc' : Nat), Value.int .i64 ((k : Int) + 1) = .int .i64 k' ∧ Value.int .u64 (IntKind.u64.wrap ((acc : Int) + IntKind.u64.wrap ((x : Int) % 128 * 2 ^ (k * 7)))) = .int .u64 acc' ∧ k' ≤ bs.length ∧ k' ≤ 9 ∧ acc' < 128 ^ k' ∧ readD 0 0 bs = readD k' acc' (bs.drop k') ∧ wr = wr :=
              ⟨k + 1, acc + x % 128 * 128 ^ k, by go_num, by rw [sum_shift x acc k HK9.out HXB.out HACC.out], by omega, by have := H9.out; omega, acc_next HACC.out, HNEXT.out hx2, rfl⟩
            have HF := Lib.hid hfin
            clear hfin hx2
            go_wp2_with fail
            go_roundw
            case rel =>
              obtain ⟨a, b, r1, r2, r3, r4, r5, r6, _⟩ := HF.out
              exact ⟨a, b, r1, r2, r3, r4, r5, r6, by first | rfl | trivial⟩
            case measure => simp [intOf]; omega
    · have HN : Hid (readD 0 0 bs = none) := Lib.hid (by rw [HRD.out, List.drop_of_length_le (by omega)]; rfl)
      go_wp2_with fail
      refine (HS.out).mono ?_
      rintro e w2 ⟨rfl, h2, hk2⟩
      have HF : Hid (NumTo wr r B (some bs) (.returned (.int .i64 0)) w2) := Lib.hid (by
        unfold NumTo numP
        dsimp only
        rw [HN.out]
        exact ⟨rfl, h2, hk2⟩)
      clear h2 hk2
      go_wp2_with fail
      go_ret
      exact HF.out

theorem number_any {w : World} {r B : Nat} {st : Option (List Nat)} (h : Rd w r B st) (hB : B ≤ r) : Calls Try.prog 50 #[.pointer (some ⟨r, 0, none⟩)] w (NumTo w r B st) := by
  match st, h with
  | none, h => exact number_none h
  | some bs, h => exact number_some h hB

end Go.Proofs.Ytkicpbnphbcdaaa
