/-
  What the program's Find comes to.
  Conditions: the labels are at most maxLen.
  What the laws of layer 8 lean on: an error's number, bounds, a name's place from the end.
  Conditions: none.
-/
import Derived.Test.YtlhnbihpefgcbaaGreatDoorAsmMem
import Derived.Test.YtlhnbihpefgcbaaGreatDoorAsmUp
import Derived.Test.YtlhnbihpefgcbaaGreatDoorAsmRefOne
section
namespace Go.Proofs.YtlhnbihpefgcbaaGreatDoor
open Go.RowKit

set_option maxHeartbeats 2000000 in
theorem find_any (l : Labs) (sl : Option Addr) (cap B : Nat) (name : ByteArray) (w : World) (hE : Elems w B sl 2 labC l) (hB : B ≤ w.heap.size) {n : Nat} (hn : l.length = n) :
    Calls Tryz.prog 14 #[.slice sl n cap, .string name] w fun e w' => e = .returned (.int .i64 (placeA l (bytesS name))) ∧ Kept (fun _ => False) w w' := by
  have HE := Lib.hid (fun w' (hk : Kept (fun _ => False) w w') => hE.kept hk hB (fun _ _ f => f))
  have HM : Hid (n ≤ maxLen) := Lib.hid (by rw [← hn]; exact hE.1)
  have hn63 : (n : Int) ≤ 9223372036854775807 := by have := HM.out; unfold maxLen at this; omega
  have HN := Lib.hid hn
  clear hE hn
  go_enter Tryz.func14, Tryz.ntmps14
  go_wp2_with fail
  go_loopw [9] (fun i wr => ∃ k : Nat, i = .int .i64 k ∧ k ≤ n ∧ Kept (fun _ => False) w wr ∧ ∀ j q, j < k → l[j]? = some q → q.1 ≠ bytesS name) (fun i _ => n - (intOf i).toNat)
  case atStart => exact ⟨0, rfl, by omega, Kept.refl _ _, fun j q h => by omega⟩
  case round =>
    obtain ⟨k, rfl, hk, hkk, hno⟩ := hrel
    have HNO := Lib.hid hno
    have HK := Lib.hid hkk
    clear hno hkk
    by_cases hkn : k < n
    case neg =>
      obtain rfl : k = n := by omega
      have HR : Hid (placeA l (bytesS name) = -1) := Lib.hid (find_no (fun j q h => HNO.out j q (by rw [← HN.out]; exact h)))
      go_wp2_with fail
      go_ret
      exact ⟨by rw [HR.out]; rfl, HK.out⟩
    obtain ⟨p, hp⟩ : ∃ p, l[k]? = some p := ⟨_, List.getElem?_eq_getElem (by rw [HN.out]; exact hkn)⟩
    obtain ⟨g, off, rfl, hg, hc⟩ := (HE.out wr HK.out).2 k p hp
    have x0 : wr.cell? ⟨g, off + k * 2, none⟩ = some (.string (strS p.1)) := hc 0 _ rfl
    have x1 : wr.cell? ⟨g, off + k * 2 + 1, none⟩ = some (.int .i64 p.2) := hc 1 _ rfl
    obtain ⟨W3, hW3⟩ : ∃ W3, wr.alloc (.cells #[.string (strS p.1), .int .i64 p.2] 35) = W3 := ⟨_, rfl⟩
    have hbx : W3.heap[wr.heap.size]? = some (.cells #[.string (strS p.1), .int .i64 p.2] 35 (0, 0)) := by rw [← hW3]; exact heap_new1 wr _
    have y0 : W3.cell? ⟨wr.heap.size, 0, none⟩ = some (.string (strS p.1)) := by rw [cell_at W3 _ 0 _ _ hbx]; rfl
    have y1 : W3.cell? ⟨wr.heap.size, 1, none⟩ = some (.int .i64 p.2) := by rw [cell_at W3 _ 1 _ _ hbx]; rfl
    have HK3 : Hid (Kept (fun _ => False) w W3) := Lib.hid (by rw [← hW3]; exact HK.out.alloc _)
    have hst := str_eq (strS p.1) (bytesS name)
    rw [strS_bytes, bytesS_str] at hst
    have HP := Lib.hid hp
    clear hc hp hbx
    by_cases hq : p.1 = bytesS name
    · rw [decide_eq_true hq] at hst
      have HR : Hid (placeA l (bytesS name) = p.2) := Lib.hid (find_at HP.out hq HNO.out)
      clear hq
      go_wp2_with fail
      go_ret
      exact ⟨by rw [HR.out]; rfl, HK3.out⟩
    · rw [decide_eq_false hq] at hst
      have HR : Hid (∀ j q, j < k + 1 → l[j]? = some q → q.1 ≠ bytesS name) := Lib.hid (fun j q h1 h2 => by
        rcases Nat.lt_or_ge j k with h | h
        · exact HNO.out j q h h2
        · obtain rfl : j = k := by omega
          rw [HP.out] at h2
          obtain rfl := Option.some.inj h2
          exact hq)
      clear hq
      go_wp2_with fail
      go_roundw
      case rel => exact ⟨k + 1, by go_num, by omega, HK3.out, HR.out⟩
      case measure => simp [intOf]; omega

end Go.Proofs.YtlhnbihpefgcbaaGreatDoor
end
section
namespace Go.Proofs.YtlhnbihpefgcbaaGreatDoor
open Go.RowKit

theorem asm_codes {LS : List Str} {p : Nat × Nat} (h : asmA LS = .error p) : 1 ≤ p.1 ∧ p.1 ≤ 8 := by
  have h1 : ∀ (ls : List Str) (i : Nat) (c : List Ln) (l : Labs) (q : Nat × Nat), oneA i ls c l = .error q → 1 ≤ q.1 ∧ q.1 ≤ 8 := by
    intro ls
    induction ls with
    | nil => intro i c l q h; cases h
    | cons s r ih =>
      intro i c l q h
      rw [one_cons] at h
      cases e : parseL s with
      | none => rw [e] at h; injection h with h; subst h; exact ⟨by simp, by simp⟩
      | some x =>
        rw [e] at h
        dsimp only at h
        split at h
        · injection h with h; subst h; exact ⟨by simp, by simp⟩
        split at h
        · injection h with h; subst h; exact ⟨by simp, by simp⟩
        exact ih _ _ _ _ h
  unfold asmA at h
  cases e : oneA 0 LS [] [] with
  | error q => rw [e] at h; injection h with h; subst h; exact h1 _ _ _ _ _ e
  | ok q =>
    obtain ⟨c, l⟩ := q
    rw [e] at h
    dsimp only at h
    split at h
    · injection h with h; subst h; exact ⟨by simp, by simp⟩
    · cases h
theorem place_step (l : Labs) (s : Str) (k : Nat) (x : Str × Nat) (h : l[k]? = some x) : placeA (l.drop k) s = if x.1 = s then (x.2 : Int) else placeA (l.drop (k + 1)) s := by
  obtain ⟨h1, h2⟩ := List.getElem?_eq_some_iff.1 h
  rw [List.drop_eq_getElem_cons h1, h2]
  unfold placeA findA
  rw [List.find?_cons]
  by_cases e : x.1 = s
  · simp [e]
  · simp [e]

theorem run_ok : ∀ (ls : List Str) (b b' : Bst), BldOk b → b.line + ls.length ≤ 200000 → runA b ls = .ok b' → BldOk b'
  | [], b, b', hb, _, h => by injection h with h; rw [← h]; exact hb
  | s :: r, b, b', hb, hl, h => by
    rw [run_cons] at h
    rw [List.length_cons] at hl
    cases e : addA b s with
    | error q => rw [e] at h; cases h
    | ok b1 =>
      rw [e] at h
      exact run_ok r b1 b' (add_ok hb (by omega) e) (by rw [(add_short hb.code e).2.1]; omega) h
theorem asm_len {LS : List Str} {c : List Ln} {l : Labs} (hl : LS.length ≤ 200000) (h : asmA LS = .ok (c, l)) : c.length ≤ 1024 ∧ l.length ≤ 200000 := by
  rw [← prog_is] at h
  unfold progA at h
  cases e : runA bst0 LS with
  | error q => rw [e] at h; cases h
  | ok b =>
    rw [e] at h
    dsimp only at h
    have hb := run_ok LS bst0 b ⟨by decide, by decide, fun j h => (by cases h), by decide, by decide, fun j h => (by cases h), fun j h => (by cases h)⟩ (by show 0 + LS.length ≤ 200000; omega) e
    cases e2 : linkA b.labs b.code b.jmps with
    | error i => rw [e2] at h; cases h
    | ok c' =>
      rw [e2] at h
      injection h with h; injection h with h1 h2
      subst h1 h2
      rw [link_len _ _ _ _ e2]
      exact ⟨hb.code, Nat.le_trans hb.labs hb.line⟩

end Go.Proofs.YtlhnbihpefgcbaaGreatDoor
end
