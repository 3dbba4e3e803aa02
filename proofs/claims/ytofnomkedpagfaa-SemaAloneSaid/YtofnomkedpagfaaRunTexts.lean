/-
  What the texts of layer 14's statements are: Tries, Missing, Others.
  Conditions: a kind is 1, 3 or 4; at most 20 labels of at most 100 bytes.
-/
import Derived.Test.YtofnomkedpagfaaRunCode
import Derived.Test.YtofnomkedpagfaaAsmMem
namespace Go.Proofs.Ytofnomkedpagfaa
open Go.RowKit
set_option linter.unusedVariables false

def trL (k : Int) : List Str := if k = 1 then ["lock.try".toUTF8.data.toList, "lock.tryfair".toUTF8.data.toList] else if k = 3 then ["latch.try".toUTF8.data.toList] else ["rw.trywrite".toUTF8.data.toList, "rw.trywritefair".toUTF8.data.toList, "rw.tryread".toUTF8.data.toList, "rw.tryreadfair".toUTF8.data.toList]
def missL (xs : List Str) : Str := xs.flatMap (fun x => x ++ [58, 10])
def retT : Str := "mov r0 r15\nmov r1 r15\nret\n".toUTF8.data.toList
theorem ret_len : retT.length = 26 := by kernel_rfl
theorem miss_take {xs : List Str} {k : Nat} {x : Str} (h : xs[k]? = some x) : missL (xs.take (k + 1)) = missL (xs.take k) ++ (x ++ [58, 10]) := by
  unfold missL
  rw [List.take_add_one, h, Option.toList_some, List.flatMap_append]
  simp
theorem miss_all {xs : List Str} {n : Nat} (h : xs.length = n) : missL (xs.take n) = missL xs := by rw [List.take_of_length_le (by omega)]

set_option maxHeartbeats 2000000 in
theorem missing_any (xs : List Str) (n : Nat) (sl : Option Addr) (cap B : Nat) (w : World) (hx : ∀ x ∈ xs, x.length ≤ 100) (hn : xs.length = n) (hn20 : n ≤ 20) (hE : Elems w B sl 1 sC xs) :
    Calls Try.prog 30 #[.slice sl n cap] w fun e w' => w' = w ∧ ∃ t, e = .returned (.string t) ∧ bytesS t = missL xs ++ retT := by
  have HE := Lib.hid hE
  have HN := Lib.hid hn
  have HX := Lib.hid hx
  clear hE hn hx
  go_enter Try.func30, Try.ntmps30
  go_wp2_with fail
  go_loop [3, 4] (fun v i => ∃ (k : Nat) (t : ByteArray), i = .int .i64 k ∧ v = .string t ∧ k ≤ n ∧ t.size ≤ 102 * k ∧ bytesS t = missL (xs.take k)) (fun _ i => n - (intOf i).toNat)
  case atStart => exact ⟨0, _, rfl, rfl, by omega, Nat.zero_le _, rfl⟩
  case round =>
    obtain ⟨k, t, rfl, rfl, hk, hts, htb⟩ := hrel
    have HTB := Lib.hid htb
    have HTS := Lib.hid hts
    clear htb hts
    by_cases hkn : k < n
    case neg =>
      obtain rfl : k = n := by omega
      obtain ⟨t2, ht2⟩ : ∃ t2, strS (bytesS t ++ retT) = t2 := ⟨_, rfl⟩
      have hb2 : bytesS t2 = bytesS t ++ retT := by rw [← ht2]; rfl
      have hadd : ∀ (w' : World), (Op.stringOp .add t (strS retT)).run Try.prog w' = .ok (.string t2) w' := fun w' => by
        have := run_string_add_sum (P := Try.prog) w' t (strS retT) (by rw [strS_size, ret_len]; have := HTS.out; omega)
        have e : t ++ strS retT = t2 := bytesS_inj (by rw [bytesS_add, hb2]; rfl)
        rw [e] at this
        exact this
      have HF : Hid (bytesS t2 = missL xs ++ retT) := Lib.hid (by rw [hb2, HTB.out, miss_all HN.out])
      have hadd2 : ∀ (w' : World), (Op.stringOp .add t ({ data := #[109, 111, 118, 32, 114, 48, 32, 114, 49, 53, 10, 109, 111, 118, 32, 114, 49, 32, 114, 49, 53, 10, 114, 101, 116, 10] } : ByteArray)).run Try.prog w' = .ok (.string t2) w' := hadd
      clear hb2 ht2 hadd
      go_wp2_with fail
      go_ret
      exact ⟨rfl, t2, rfl, HF.out⟩
    obtain ⟨x, hxk⟩ : ∃ x, xs[k]? = some x := ⟨_, List.getElem?_eq_getElem (by rw [HN.out]; exact hkn)⟩
    obtain ⟨g, off, rfl, hg, hc⟩ := HE.out.2 k x hxk
    have x0 : w.cell? ⟨g, off + k, none⟩ = some (.string (strS x)) := by have := hc 0 _ rfl; rwa [Nat.mul_one, Nat.add_zero] at this
    have hxl : (strS x).size ≤ 100 := by rw [strS_size]; exact HX.out x (List.mem_of_getElem? hxk)
    obtain ⟨t1, ht1⟩ : ∃ t1, t ++ strS x = t1 := ⟨_, rfl⟩
    have hadd1 : ∀ (w' : World), (Op.stringOp .add t (strS x)).run Try.prog w' = .ok (.string t1) w' := fun w' => by
      have := run_string_add_sum (P := Try.prog) w' t (strS x) (by have := HTS.out; omega)
      rw [ht1] at this
      exact this
    have hs1 : t1.size = t.size + (strS x).size := by rw [← ht1]; simp
    obtain ⟨t2, ht2⟩ : ∃ t2, t1 ++ strS [58, 10] = t2 := ⟨_, rfl⟩
    have hadd2 : ∀ (w' : World), (Op.stringOp .add t1 ({ data := #[58, 10] } : ByteArray)).run Try.prog w' = .ok (.string t2) w' := fun w' => by
      have := run_string_add_sum (P := Try.prog) w' t1 (strS [58, 10]) (by rw [strS_size, hs1]; have := HTS.out; simp; omega)
      rw [ht2] at this
      exact this
    have HF : Hid (t2.size ≤ 102 * (k + 1) ∧ bytesS t2 = missL (xs.take (k + 1))) := Lib.hid ⟨by
      have h2 : t2.size = t1.size + 2 := by rw [← ht2, ← bytesS_len, bytesS_add, List.length_append, bytesS_len]; rfl
      have := HTS.out
      omega, by rw [← ht2, bytesS_add, ← ht1, bytesS_add, HTB.out, miss_take hxk, List.append_assoc]; rfl⟩
    clear ht1 ht2 hs1 hxl hc hxk
    go_wp2_with fail
    go_round
    case rel => exact ⟨k + 1, t2, by go_num, rfl, by omega, HF.out.1, HF.out.2⟩
    case measure => simp [intOf]; omega

set_option maxHeartbeats 2000000 in
theorem tries_any (k : Int) (hk : k = 1 ∨ k = 3 ∨ k = 4) (w : World) : Calls Try.prog 29 #[.int .i64 k] w fun e w' => ∃ a cap, e = .returned (.slice (some ⟨a, 0, none⟩) (trL k).length cap) ∧ Elems w' w'.heap.size (some ⟨a, 0, none⟩) 1 sC (trL k) ∧ Kept (fun _ => False) w w' ∧ w.heap.size ≤ a := by
  have HE : Hid (∀ N : Array Value, N = (flat sC (trL k)).toArray → Elems (w.alloc (.cells N 9)) (w.alloc (.cells N 9)).heap.size (some ⟨w.heap.size, 0, none⟩) 1 sC (trL k)) := Lib.hid (fun N hN => (Elems.block sC_one (heap_new1 w _) hN (by rcases hk with rfl | rfl | rfl <;> (unfold maxLen; simp [trL]))).more (Array.getElem?_eq_some_iff.1 (heap_new1 w _)).1)
  have HK : Hid (∀ N, Kept (fun _ => False) w (w.alloc N)) := Lib.hid (fun N => (Kept.refl _ w).alloc N)
  rcases hk with rfl | rfl | rfl
  · go_enter Try.func29, Try.ntmps29
    go_wp2_with fail
    go_ret
    exact ⟨_, 2, rfl, HE.out _ rfl, HK.out _, Nat.le_refl _⟩
  · go_enter Try.func29, Try.ntmps29
    go_wp2_with fail
    go_ret
    exact ⟨_, 1, rfl, HE.out _ rfl, HK.out _, Nat.le_refl _⟩
  · go_enter Try.func29, Try.ntmps29
    go_wp2_with fail
    go_ret
    exact ⟨_, 4, rfl, HE.out _ rfl, HK.out _, Nat.le_refl _⟩

theorem qcode_any (w : World) : Calls Try.prog 19 #[] w fun e w' => e = .returned (.string qB) ∧ w' = w := by
  go_enter Try.func19, Try.ntmps19
  generalize hL : (List.append _ _ : List UInt8) = L
  have HQ : Hid (({ data := L.toArray } : ByteArray) = qB) := Lib.hid (by rw [← hL]; kernel_rfl)
  clear hL
  go_wp2_with fail
  go_ret
  exact ⟨by rw [HQ.out]; rfl, rfl⟩
theorem scode_any (w : World) : Calls Try.prog 20 #[] w fun e w' => e = .returned (.string sB) ∧ w' = w := by
  go_enter Try.func20, Try.ntmps20
  generalize hL : (List.append _ _ : List UInt8) = L
  have HQ : Hid (({ data := L.toArray } : ByteArray) = sB) := Lib.hid (by rw [← hL]; kernel_rfl)
  clear hL
  go_wp2_with fail
  go_ret
  exact ⟨by rw [HQ.out]; rfl, rfl⟩

/-- The labels that are missing, after so many kinds. -/
def othL : Nat → List Str
  | 0 => []
  | 1 => trL 1
  | 2 => trL 1
  | 3 => trL 1 ++ trL 3
  | _ => trL 1 ++ trL 3 ++ trL 4
theorem oth_len (k : Nat) : (othL k).length ≤ 7 := by
  match k with
  | 0 | 1 | 2 | 3 => simp [othL, trL]
  | k + 4 => show (trL 1 ++ trL 3 ++ trL 4).length ≤ 7; simp [trL]
theorem oth_next (k : Nat) (hk : k = 0 ∨ k = 2 ∨ k = 3) : othL (k + 1) = othL k ++ trL ((k : Int) + 1) := by
  rcases hk with rfl | rfl | rfl <;> rfl
theorem oth_text : missL (othL 4) ++ retT = oT := by kernel_rfl
theorem oth_short : ∀ x ∈ othL 4, x.length ≤ 100 := by
  have h : (othL 4).all (fun x => decide (x.length ≤ 100)) = true := by kernel_rfl
  exact fun x hx => of_decide_eq_true (List.all_eq_true.1 h x hx)

set_option maxHeartbeats 4000000 in
set_option maxRecDepth 100000 in
theorem others_any (w : World) : Calls Try.prog 21 #[.int .i64 2] w fun e w' => e = .returned (.string (strS oT)) ∧ Kept (fun _ => False) w w' := by
  obtain ⟨i4, hi4, hz4, hn4, hb4⟩ := info_parts Try.infoStr
  have HI4 := Lib.hid hi4; clear hi4
  have HZ4 := Lib.hid hz4; clear hz4
  have HN4 := Lib.hid hn4; clear hn4
  have HB4 := Lib.hid hb4; clear hb4
  go_enter Try.func21, Try.ntmps21
  go_wp2_with fail
  go_loopw [3, 4] (fun v i wr => ∃ (k : Nat), i = .int .i64 ((k : Int) + 1) ∧ k ≤ 4 ∧ wr.ownsRow w.heap.size 9 1 v (othL k).length (flat sC (othL k)) ∧ Kept (fun _ => False) w wr) (fun _ i _ => 5 - (intOf i).toNat)
  case atStart => exact ⟨0, rfl, by omega, World.ownsRow_nil _ _ _ _, Kept.refl _ w⟩
  case round =>
    obtain ⟨k, rfl, hk, hown, hkk⟩ := hrel
    have HOWN := Lib.hid hown
    have HK := Lib.hid hkk
    clear hown hkk
    by_cases hk4 : k < 4
    case neg =>
      obtain rfl : k = 4 := by omega
      obtain ⟨sl, c, hv, hM⟩ := Made.of_own sC_one HOWN.out rfl (by have := oth_len 4; unfold maxLen; omega)
      subst hv
      have HMI := Lib.hid (missing_any (othL 4) _ sl c wr.heap.size wr oth_short rfl (by have := oth_len 4; omega) hM.elems)
      clear hM
      obtain ⟨n, hn⟩ : ∃ n, (othL 4).length = n := ⟨_, rfl⟩
      rw [hn] at HMI ⊢
      clear hn
      go_wp2_with fail
      refine HMI.out.mono ?_
      rintro e w2 ⟨rfl, t, rfl, ht⟩
      have HT : Hid (t = strS oT) := Lib.hid (bytesS_inj (by rw [ht, oth_text]; rfl))
      clear ht
      go_wp2_with fail
      go_ret
      exact ⟨by rw [HT.out]; rfl, HK.out⟩
    by_cases hk1 : k = 1
    · subst hk1
      go_wp2_with fail
      go_roundw
      case rel => exact ⟨2, rfl, by omega, HOWN.out, HK.out⟩
      case measure => simp [intOf]
    · have hkc : k = 0 ∨ k = 2 ∨ k = 3 := by omega
      have HNX := Lib.hid (oth_next k hkc)
      have HTR := Lib.hid (tries_any ((k : Int) + 1) (by omega) wr)
      have hk2 : ¬ ((k : Int) + 1 = 2) := by omega
      obtain ⟨ys, hys⟩ : ∃ ys, trL ((k : Int) + 1) = ys := ⟨_, rfl⟩
      rw [hys] at HTR HNX
      have HL := Lib.hid (oth_len (k + 1))
      rw [HNX.out, List.length_append] at HL
      clear hys
      go_wp2_with fail
      refine HTR.out.mono ?_
      rintro e w2 ⟨a, cap, rfl, he, hk2, ha⟩
      have HE := Lib.hid he
      have HK3 := Lib.hid (HK.out.tr0 hk2)
      have HO2 : Hid (w2.ownsRow w.heap.size 9 1 u3 (othL k).length (flat sC (othL k))) := Lib.hid (own_kept HOWN.out hk2 (fun g e f => f))
      clear he hk2 ha
      go_wp2_with (at_builtin; refine wpList_append_elems (f := sC) (ys := ys) _ rfl (.tmp 12) (.tmp 14) 28 rfl w.heap.size 9 i4 (.string { data := #[] }) 1 16 Try.underlying28 HI4.out HZ4.out HN4.out HB4.out rfl (by decide) sC_one (sC_cell _) u3 (othL k).length (flat sC (othL k)) rfl ?c1 w2.heap.size (some ⟨a, 0, none⟩) cap rfl ?c2 ?c3 ?c4 ?c5 ?_)
      case c1 => exact HO2.out
      case c2 => exact HE.out
      case c3 => have := HL.out; unfold maxLen; omega
      case c4 => have := HL.out; omega
      case c5 => exact HK3.out.size
      intro v' w3 h1 h2 h3
      have HF : Hid (w3.ownsRow w.heap.size 9 1 v' (othL (k + 1)).length (flat sC (othL (k + 1))) ∧ Kept (fun _ => False) w w3) := Lib.hid ⟨by
        rw [HNX.out, List.length_append, show flat sC (othL k ++ ys) = flat sC (othL k) ++ flat sC ys by simp [flat]]; exact h1, HK3.out.grown h2 (fun g hg e => by have := (World.ownsRow.lt HO2.out g e).1; omega)⟩
      clear h1 h2 h3
      go_wp2_with fail
      go_roundw
      case rel => exact ⟨k + 1, by go_num, by omega, HF.out.1, HF.out.2⟩
      case measure => simp [intOf]; omega

/-- What Texts tells. -/
theorem texts_any (w : World) : Calls Try.prog 7 #[] w fun e w' => ∃ a, e = .returned (.slice (some ⟨a, 0, none⟩) 3 3) ∧ Elems w' w'.heap.size (some ⟨a, 0, none⟩) 1 sC textsS ∧ Kept (fun _ => False) w w' := by
  obtain ⟨q, hq⟩ : ∃ q, qB = q := ⟨_, rfl⟩
  obtain ⟨s, hs⟩ : ∃ s, sB = s := ⟨_, rfl⟩
  obtain ⟨o, ho⟩ : ∃ o, strS oT = o := ⟨_, rfl⟩
  have HQ := Lib.hid (fun w' => qcode_any w')
  have HS := Lib.hid (fun w' => scode_any w')
  have HO := Lib.hid (fun w' => others_any w')
  have HT : Hid (flat sC textsS = [.string q, .string s, .string o]) := Lib.hid (by rw [← hq, ← hs, ← ho]; rfl)
  rw [hq] at HQ
  rw [hs] at HS
  rw [ho] at HO
  clear hq hs ho
  go_enter Try.func7, Try.ntmps7
  go_wp2_with fail
  refine (HQ.out _).mono ?_
  rintro e w1 ⟨rfl, rfl⟩
  go_wp2_with fail
  refine (HS.out _).mono ?_
  rintro e w2 ⟨rfl, rfl⟩
  go_wp2_with fail
  refine (HO.out _).mono ?_
  rintro e w3 ⟨rfl, hk⟩
  have HK := Lib.hid hk
  clear hk
  have HE : Hid (∀ w' : World, Elems (w'.alloc (.cells #[.string q, .string s, .string o] 9)) (w'.alloc (.cells #[.string q, .string s, .string o] 9)).heap.size (some ⟨w'.heap.size, 0, none⟩) 1 sC textsS) := Lib.hid (fun w' => (Elems.block sC_one (heap_new1 w' _) (by rw [HT.out]) (by show 3 ≤ maxLen; unfold maxLen; omega)).more (Array.getElem?_eq_some_iff.1 (heap_new1 w' _)).1)
  go_wp2_with fail
  go_ret
  exact ⟨_, rfl, HE.out w3, HK.out.alloc _⟩

end Go.Proofs.Ytofnomkedpagfaa
