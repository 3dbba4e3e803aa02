/-
  The document's answer of layer 10: without.
  Conditions: the waiters lie in memory, 300 at most.
-/
import Derived.Test.YthjblniabnjfhaaModRefS
namespace Go.Proofs.Ythjblniabnjfhaa
open Go.RowKit
set_option linter.unusedSimpArgs false
set_option linter.unusedVariables false

theorem erase_keep {ws : List Wt} {k p : Nat} {q : Wt} (h : ws[k]? = some q) (hn : k ≠ p) : (ws.take (k + 1)).eraseIdx p = (ws.take k).eraseIdx p ++ [q] := by
  have hk : k < ws.length := (List.getElem?_eq_some_iff.1 h).1
  have hl : (ws.take k).length = k := by rw [List.length_take]; omega
  rw [List.take_add_one, h, Option.toList_some]
  by_cases hp : p < k
  · rw [List.eraseIdx_append_of_lt_length (by omega)]
  · rw [List.eraseIdx_append_of_length_le (by omega), hl, List.eraseIdx_of_length_le (by simp; omega), List.eraseIdx_of_length_le (by omega)]
theorem erase_at {ws : List Wt} {k : Nat} {q : Wt} (h : ws[k]? = some q) : (ws.take (k + 1)).eraseIdx k = (ws.take k).eraseIdx k := by
  have hk : k < ws.length := (List.getElem?_eq_some_iff.1 h).1
  have hl : (ws.take k).length = k := by rw [List.length_take]; omega
  rw [List.take_add_one, h, Option.toList_some, List.eraseIdx_append_of_length_le (by omega), hl, Nat.sub_self, List.eraseIdx_of_length_le (l := ws.take k) (by omega)]
  simp
theorem erase_le (ws : List Wt) (k p : Nat) : ((ws.take k).eraseIdx p).length ≤ k := Nat.le_trans (List.length_eraseIdx_le _ _) (by rw [List.length_take]; omega)

set_option maxHeartbeats 4000000 in
set_option maxRecDepth 100000 in
theorem without_any (ws : List Wt) (n : Nat) (hn : ws.length = n) (hl : n ≤ 300) (p : Nat) (s : Option Addr) (c : Nat) (w : World) (hE : Elems w w.heap.size s 2 Wt.cells ws) :
    Calls Try.prog 38 #[.slice s n c, .int .i64 (p : Int)] w fun e w' => ∃ s' c', e = .returned (.slice s' (ws.eraseIdx p).length c') ∧ NewW w.heap.size w' s' c' (ws.eraseIdx p) ∧ Kept (fun _ => False) w w' := by
  obtain ⟨i2, hi2, hz2, hn2, hb2⟩ := info_parts info_wt
  have HI := Lib.hid hi2; clear hi2
  have HZ := Lib.hid hz2; clear hz2
  have HN2 := Lib.hid hn2; clear hn2
  have HBY := Lib.hid hb2; clear hb2
  have HN := Lib.hid hn
  have HP : Hid (∀ w' i q, Kept (fun _ => False) w w' → ws[i]? = some q → ∃ g off, s = some ⟨g, off, none⟩ ∧ w'.cell? ⟨g, off + i * 2, none⟩ = some (.int .i64 q.thread) ∧ w'.cell? ⟨g, off + i * 2 + 1, none⟩ = some (.int .i64 q.holds)) := Lib.hid (fun w' i q hk hi => by
    obtain ⟨g, off, e, _, h⟩ := (hE.kept hk (Nat.le_refl _) (fun _ _ f => f)).2 i q hi
    exact ⟨g, off, e, h 0 _ rfl, h 1 _ rfl⟩)
  clear hE hn
  go_enter Try.func38, Try.ntmps38
  go_wp2_with fail
  go_loopw [5, 6] (fun o i wr => ∃ (k : Nat) (s' : Option Addr) (c' : Nat), o = .slice s' ((ws.take k).eraseIdx p).length c' ∧ i = .int .i64 k ∧ k ≤ n ∧ OwnW w.heap.size wr s' c' ((ws.take k).eraseIdx p) ∧ Kept (fun _ => False) w wr) (fun _ i _ => n - (intOf i).toNat)
  case atStart => exact ⟨0, none, 0, rfl, rfl, Nat.zero_le _, World.ownsRow_nil _ _ _ _, Kept.refl _ _⟩
  case round =>
    obtain ⟨k, s', c', rfl, rfl, hk, hO, hkk⟩ := hrel
    have HO := Lib.hid hO
    have HK := Lib.hid hkk
    clear hO hkk
    have hle := erase_le ws k p
    obtain ⟨m, hm⟩ : ∃ m, ((ws.take k).eraseIdx p).length = m := ⟨_, rfl⟩
    by_cases hlt : k < n
    · obtain ⟨q, hq⟩ : ∃ q, ws[k]? = some q := ⟨_, List.getElem?_eq_getElem (by rw [HN.out]; exact hlt)⟩
      obtain ⟨g, off, rfl, y0, y1⟩ := HP.out wr k q HK.out hq
      have k1 : (k : Int) < (n : Int) := by omega
      have k2 : (k : Int) + 1 ≤ 301 := by omega
      by_cases he : k = p
      · have HE : Hid ((ws.take (k + 1)).eraseIdx p = (ws.take k).eraseIdx p) := Lib.hid (by subst he; exact erase_at hq)
        have he2 : ((k : Int) != (p : Int)) = false := by rw [he]; simp
        clear hq hlt hle hm
        go_wp2_with fail
        go_roundw
        case rel => exact ⟨k + 1, s', c', by rw [HE.out], by go_num, by omega, by rw [HE.out]; exact HO.out, HK.out⟩
        case measure => simp [intOf]; omega
      · have HE : Hid ((ws.take (k + 1)).eraseIdx p = (ws.take k).eraseIdx p ++ [q]) := Lib.hid (erase_keep hq he)
        have he2 : ((k : Int) != (p : Int)) = true := by rw [bne_iff_ne]; omega
        have HOWN : Hid ((wr.alloc (.cells #[.int .i64 q.thread, .int .i64 q.holds] 44)).ownsRow w.heap.size 44 2 (.slice s' ((ws.take k).eraseIdx p).length c') ((ws.take k).eraseIdx p).length (flat Wt.cells ((ws.take k).eraseIdx p))) := Lib.hid (HO.out.kept ((Kept.refl (fun _ => False) wr).alloc _) (fun _ _ f => f))
        have HEL : Hid (Elems (wr.alloc (.cells #[.int .i64 q.thread, .int .i64 q.holds] 44)) (wr.heap.size + 1) (some ⟨wr.heap.size, 0, none⟩) 2 Wt.cells [q]) :=
          Lib.hid (Elems.block (f := Wt.cells) (xs := [q]) Wt.two (heap_new1 wr _) rfl (by show 1 ≤ maxLen; decide))
        have HF : Hid (∀ v' w4, w4.ownsRow w.heap.size 44 2 v' (((ws.take k).eraseIdx p).length + 1) (flat Wt.cells ((ws.take k).eraseIdx p) ++ flat Wt.cells [q]) → (wr.alloc (.cells #[.int .i64 q.thread, .int .i64 q.holds] 44)).grownBy w4 (Value.slice s' ((ws.take k).eraseIdx p).length c').ownBlock → ∃ s2 c2, v' = .slice s2 ((ws.take (k + 1)).eraseIdx p).length c2 ∧ OwnW w.heap.size w4 s2 c2 ((ws.take (k + 1)).eraseIdx p) ∧ Kept (fun _ => False) w w4) := Lib.hid (fun v' w4 g1 g2 => by
          have hl2 : ((ws.take k).eraseIdx p ++ [q]).length = ((ws.take k).eraseIdx p).length + 1 := by simp
          rw [show flat Wt.cells ((ws.take k).eraseIdx p) ++ flat Wt.cells [q] = flat Wt.cells ((ws.take k).eraseIdx p ++ [q]) from by simp [flat]] at g1
          obtain ⟨s2, c2, rfl, _⟩ := Made.of_own Wt.two g1 hl2.symm (by rw [hl2]; unfold maxLen; omega)
          refine ⟨s2, c2, by rw [HE.out], ?_, ?_⟩
          · rw [HE.out]; unfold OwnW; rw [hl2] at g1 ⊢; exact g1
          · have h1 : Kept (fun g => w.heap.size ≤ g) w w4 := (((HK.out.alloc _).mono (T := fun g => w.heap.size ≤ g) (fun _ _ f => f.elim))).grown g2 (fun g _ e => (World.ownsRow.lt HOWN.out g e).1)
            exact ⟨h1.os, h1.tape, h1.output, h1.size, fun g hg _ => h1.block g hg (by omega)⟩)
        have HS : Hid (w.heap.size ≤ (wr.alloc (.cells #[.int .i64 q.thread, .int .i64 q.holds] 44)).heap.size) := Lib.hid (by have := HK.out.size; simp; omega)
        clear hq hlt he hm
        go_wp2_with (at_builtin; refine wpList_append_elems (ys := [q]) _ (by rfl) _ _ 25 (by rfl) w.heap.size 44 i2 (.agg #[.int .i64 0, .int .i64 0]) 2 16 Try.underlying25 HI.out HZ.out HN2.out HBY.out rfl (by decide) Wt.two (wt_cell _) (.slice s' ((ws.take k).eraseIdx p).length c') ((ws.take k).eraseIdx p).length (flat Wt.cells ((ws.take k).eraseIdx p)) (by rfl) HOWN.out (wr.heap.size + 1) _ 1 (by rfl) HEL.out (by show ((ws.take k).eraseIdx p).length + 1 ≤ maxLen; unfold maxLen; omega) (by show (((ws.take k).eraseIdx p).length + 1) * 16 ≤ _; omega) HS.out ?_)
        intro v' w4 g1 g2 _
        obtain ⟨s2, c2, rfl, hO2, hk4⟩ := HF.out v' w4 g1 g2
        have HO2 := Lib.hid hO2
        have HK4 := Lib.hid hk4
        clear g1 g2 hO2 hk4 hle
        go_wp2_with fail
        go_roundw
        case rel => exact ⟨k + 1, s2, c2, rfl, by go_num, by omega, HO2.out, HK4.out⟩
        case measure => simp [intOf]; omega
    · obtain rfl : k = n := by omega
      have k1 : ¬ ((k : Int) < (k : Int)) := by omega
      have HT : Hid (ws.take k = ws) := Lib.hid (List.take_of_length_le (by rw [HN.out]; exact Nat.le_refl _))
      clear hm
      go_wp2_with fail
      go_ret
      have hel : NewW w.heap.size wr s' c' (ws.eraseIdx p) := by have h := HO.out; rw [HT.out] at h hle; exact h.new (by unfold maxLen; omega)
      first | exact ⟨s', c', by rw [HT.out]; rfl, hel, HK.out⟩ | exact ⟨s', ⟨c', by rw [HT.out]; rfl⟩, hel, HK.out⟩

end Go.Proofs.Ythjblniabnjfhaa
