/-
  What the document's answer of layer 6 comes to: all numbers that bytes are.
  Conditions: the bytes lie in blocks that were there.
-/
import Derived.Test.YtkicpbnphbcdaaaRefPut
import Derived.Test.YtkicpbnphbcdaaaText
import Derived.Deep.RegionWith
import Derived.IntWalk
namespace Go.Proofs.Ytkicpbnphbcdaaa
open Go.RowKit

theorem conv_own {base : Nat} {w : World} {v : Value} {bs cs : List Nat} (h : Own base w v bs) (e : bs = cs) (hm : bs.length ≤ 1000) : (convert 29 9 v).run Try.prog w = .ok (.string (strOf cs)) w := by
  subst e
  obtain ⟨A, c, rfl, _, hE⟩ := h.elems (by unfold maxLen; omega)
  exact conv_bytes hE
theorem numB_unfold (U : Nat) : numB (unfoldN U) = dig U := by unfold numB; rw [fold_unfold]

theorem elems_part {w : World} {B g off a k : Nat} {bs : List Nat} (h : Elems w B (some ⟨g, off, none⟩) 1 bC bs) : Elems w B (some ⟨g, off + a, none⟩) 1 bC ((bs.drop a).take k) := by
  refine Elems.take (⟨by have := h.1; rw [List.length_drop]; omega, fun i x hi => ?_⟩ : Elems w B (some ⟨g, off + a, none⟩) 1 bC (bs.drop a)) k
  rw [List.getElem?_drop] at hi
  obtain ⟨g', off', e, hb, hc⟩ := h.2 (a + i) x hi
  simp only [Option.some.injEq, Addr.mk.injEq, and_true] at e
  obtain ⟨rfl, rfl⟩ := e
  refine ⟨g, off + a, rfl, hb, fun j v hj => ?_⟩
  rw [← hc j v hj]
  congr 2; omega
/-- Digits' number, as it is reckoned in 64 bits. -/
def valW : List Nat → Nat
  | [] => 0
  | d :: ds => (valW ds * 128 + d % 128) % 18446744073709551616

theorem valW_lt (ds : List Nat) : valW ds < 18446744073709551616 := by
  cases ds with
  | nil => decide
  | cons d ds => exact Nat.mod_lt _ (by decide)
theorem valW_dig : ∀ u, u < 18446744073709551616 → valW (dig u) = u := by
  intro u
  induction u using Nat.strongRecOn with
  | ind u ih =>
    intro h
    by_cases hu : u < 128
    · rw [dig_small hu]
      simp only [valW]
      omega
    · rw [dig_big (by omega)]
      simp only [valW]
      rw [ih (u / 128) (by omega) (by omega)]
      omega
/-- A number's digits: all but the last one tell that another one follows. -/
theorem dig_shape : ∀ u, ∃ k, (dig u).length = k + 1 ∧ (∀ j d, j < k → (dig u)[j]? = some d → 127 < d) ∧ ∀ d, (dig u)[k]? = some d → d ≤ 127 := by
  intro u
  induction u using Nat.strongRecOn with
  | ind u ih =>
    by_cases hu : u < 128
    · refine ⟨0, by rw [dig_small hu]; rfl, fun j d hj => by omega, fun d hd => ?_⟩
      rw [dig_small hu] at hd
      simp at hd
      omega
    · obtain ⟨k, h1, h2, h3⟩ := ih (u / 128) (by omega)
      refine ⟨k + 1, by rw [dig_big (by omega), List.length_cons, h1], fun j d hj hd => ?_, fun d hd => ?_⟩
      · rw [dig_big (by omega)] at hd
        match j, hj, hd with
        | 0, _, hd => simp at hd; omega
        | j + 1, hj, hd => exact h2 j d (by omega) (by simpa using hd)
      · rw [dig_big (by omega)] at hd
        exact h3 d (by simpa using hd)
theorem first_num {l : List Int} {rest : List Nat} (hl : ∀ n ∈ l, InR n) (h : rest = l.flatMap numB) (hne : rest ≠ []) : ∃ u r, rest = dig u ++ r ∧ u < 18446744073709551616 := by
  cases l with
  | nil => exact absurd h hne
  | cons n l => exact ⟨foldN n, l.flatMap numB, by rw [h, List.flatMap_cons]; rfl, fold_lt (hl n (by simp))⟩
/-- Where the first byte stands behind which no other one follows. -/
theorem stop_at {u : Nat} {r rest : List Nat} {n : Nat} (h : rest = dig u ++ r) (hu : u < 18446744073709551616) (hn : ∀ j d, j < n → rest[j]? = some d → 127 < d) : n < rest.length ∧ n < 10 ∧ ((∀ d, rest[n]? = some d → d ≤ 127) → rest.take (n + 1) = dig u) := by
  obtain ⟨k, h1, h2, h3⟩ := dig_shape u
  have hk : (dig u).length ≤ 10 := dig_len 9 u (by omega)
  have hkn : n ≤ k := by
    rcases Nat.lt_or_ge k n with hlt | hge
    · obtain ⟨d, hd⟩ : ∃ d, (dig u)[k]? = some d := ⟨_, List.getElem?_eq_getElem (by omega)⟩
      have a := h3 d hd
      have b := hn k d hlt (by rw [h, List.getElem?_append_left (by omega)]; exact hd)
      omega
    · exact hge
  refine ⟨by rw [h, List.length_append]; omega, by omega, fun hd => ?_⟩
  have hnk : n = k := by
    rcases Nat.lt_or_ge n k with hlt | hge
    · obtain ⟨d, hd'⟩ : ∃ d, (dig u)[n]? = some d := ⟨_, List.getElem?_eq_getElem (by omega)⟩
      have a := h2 n d hlt hd'
      have b := hd d (by rw [h, List.getElem?_append_left (by omega)]; exact hd')
      omega
    · omega
  rw [h, hnk, ← h1, List.take_append_of_le_length (Nat.le_refl _), List.take_of_length_le (Nat.le_refl _)]

/-- Bytes that aren't numbers. -/
def NoNums (bs : List Nat) : Prop := ∀ l : List Int, (∀ n ∈ l, InR n) → bs ≠ l.flatMap numB
theorem noNums_of {bs : List Nat} {l : List Int} {a : Nat} (hl : ∀ n ∈ l, InR n) (ht : bs.take a = l.flatMap numB) (h : NoNums (bs.drop a)) : NoNums bs := by
  intro l2 hl2 he
  -- the numbers of bs begin with l
  have key : ∀ (l l2 : List Int) (r : List Nat), (∀ n ∈ l, InR n) → (∀ n ∈ l2, InR n) → l.flatMap numB ++ r = l2.flatMap numB → ∃ l3 : List Int, (∀ n ∈ l3, InR n) ∧ r = l3.flatMap numB := by
    intro l
    induction l with
    | nil => intro l2 r _ h2 he; exact ⟨l2, h2, by simpa using he⟩
    | cons n l ih =>
      intro l2 r h1 h2 he
      cases l2 with
      | nil =>
        have := congrArg List.length he
        simp only [List.flatMap_cons, List.length_append, List.flatMap_nil, List.length_nil] at this
        have := dig_pos (foldN n)
        unfold numB at *
        omega
      | cons m l2 =>
        rw [List.flatMap_cons, List.flatMap_cons, List.append_assoc] at he
        have a := byteTok.back n (l.flatMap numB ++ r) (h1 n (by simp))
        have b := byteTok.back m (l2.flatMap numB) (h2 m (by simp))
        have e : byteTok.e n ++ (l.flatMap numB ++ r) = byteTok.e m ++ l2.flatMap numB := he
        rw [e, b] at a
        simp only [Prod.mk.injEq, Option.some.injEq] at a
        obtain ⟨rfl, hr⟩ := a
        exact ih l2 r (fun x hx => h1 x (by simp [hx])) (fun x hx => h2 x (by simp [hx])) hr.symm
  obtain ⟨l3, h3, e3⟩ := key l l2 (bs.drop a) hl hl2 (by rw [← ht, List.take_append_drop]; exact he)
  exact h l3 h3 e3

/-- Bytes whose first number isn't written so. -/
theorem noNums_here {rest D : List Nat} {n : Nat} (hne : rest ≠ []) (hD : rest.take (n + 1) = D) (hn : ∀ j d, j < n → rest[j]? = some d → 127 < d) (hs : ∀ d, rest[n]? = some d → d ≤ 127) (hd : dig (valW D) ≠ D) : NoNums rest := by
  intro l hl he
  obtain ⟨u, r, h1, h2⟩ := first_num hl he hne
  have h3 := (stop_at h1 h2 hn).2.2 hs
  rw [hD] at h3
  apply hd
  rw [h3, valW_dig u h2]
theorem noNums_end {rest : List Nat} {n : Nat} (hne : rest ≠ []) (hn : ∀ j d, j < n → rest[j]? = some d → 127 < d) (h : ¬ n < rest.length ∨ ¬ n < 10) : NoNums rest := by
  intro l hl he
  obtain ⟨u, r, h1, h2⟩ := first_num hl he hne
  have h3 := stop_at h1 h2 hn
  omega
theorem val_step (U d : Nat) : IntKind.u64.wrap (IntKind.u64.wrap ((U : Int) * 128) + (d : Int) % 128) = (((U * 128 + d % 128) % 18446744073709551616 : Nat) : Int) := by
  have w : ∀ n : Int, IntKind.u64.wrap n = n % 18446744073709551616 := fun n => by simp [IntKind.wrap, IntKind.bits, IntKind.signed]
  rw [w, w]; omega
theorem refNumber_eq (v n : Int) (hv : v = n) (hn : InR n) (w : World) : Calls Try.prog 29 #[.int .i64 v] w (BytesTo w (numB n)) := by subst hv; exact refNumber_any v hn w

/-- What read leaves: the numbers, in new memory; or that they are none. -/
def ReadTo (w : World) (bs : List Nat) (e : Ending) (w' : World) : Prop :=
  (∃ v l, e = .returned (.tuple #[v, .bool true]) ∧ OwnI w.heap.size w' v l ∧ (∀ n ∈ l, InR n) ∧ bs = l.flatMap numB ∧ Kept (fun _ => False) w w') ∨
  (e = .returned (.tuple #[.slice none 0 0, .bool false]) ∧ NoNums bs ∧ Kept (fun _ => False) w w')

set_option maxHeartbeats 8000000 in
set_option maxRecDepth 100000 in
theorem refRead_any {w : World} {B c : Nat} {A : Option Addr} {bs : List Nat} (h : Elems w B A 1 bC bs) (hb : ∀ b ∈ bs, b < 256) (hc : bs.length ≤ c) (hB : B ≤ w.heap.size) (hlen : bs.length ≤ 4000) :
    Calls Try.prog 36 #[.slice A bs.length c] w (ReadTo w bs) := by
  have HE := Lib.hid (fun (w' : World) (hk : Kept (fun _ => False) w w') => h.kept hk hB (fun _ _ f => f))
  have HB := Lib.hid hb
  clear h hb
  go_enter Try.func36, Try.ntmps36
  go_wp2_with fail
  go_loopw [4, 5] (fun v i wr => ∃ (a : Nat) (l : List Int), i = .int .i64 a ∧ a ≤ bs.length ∧ l.length ≤ a ∧ (∀ n ∈ l, InR n) ∧ bs.take a = l.flatMap numB ∧ OwnI w.heap.size wr v l ∧ Kept (fun _ => False) w wr) (fun _ i _ => bs.length - (intOf i).toNat)
  case atStart => exact ⟨0, [], rfl, by omega, by simp, by simp, by simp, World.ownsRow_nil _ _ _ _, Kept.refl _ _⟩
  case round =>
    obtain ⟨a, l, rfl, ha1, hla, hl, ht, hown, hk⟩ := hrel
    have HL := Lib.hid hl
    have HT := Lib.hid ht
    have HO := Lib.hid hown
    have HK := Lib.hid hk
    clear hl ht hown hk
    by_cases haa : a < bs.length
    case neg =>
      have hfin : ReadTo w bs (.returned (.tuple #[u4, .bool true])) wr := .inl ⟨u4, l, rfl, HO.out, HL.out, by have := HT.out; rwa [List.take_of_length_le (by omega)] at this, HK.out⟩
      have HF := Lib.hid hfin
      clear hfin HO
      go_wp2_with fail
      go_ret2
      exact HF.out
    go_wp2_with fail
    go_loopw [6] (fun i wr2 => ∃ n : Nat, i = .int .i64 n ∧ a + n ≤ bs.length ∧ n ≤ 10 ∧ (∀ j d, j < n → bs[a + j]? = some d → 127 < d) ∧ wr2 = wr) (fun i _ => 10 - (intOf i).toNat)
    case atStart => exact ⟨0, rfl, by omega, by omega, fun j d hj => by omega, rfl⟩
    case round =>
      obtain ⟨n, rfl, hn1, hn2, hn3, rfl⟩ := hrel
      have HN3 := Lib.hid hn3
      clear hn3
      by_cases hend : a + n < bs.length
      · obtain ⟨d, hd⟩ : ∃ d, bs[a + n]? = some d := ⟨_, List.getElem?_eq_getElem hend⟩
        obtain ⟨g, off, rfl, hg, hcell⟩ := (HE.out _ HK.out).2 (a + n) d hd
        have c0 : wr.cell? ⟨g, off + (a + n), none⟩ = some (.int .u8 d) := by have := hcell 0 _ rfl; rwa [Nat.mul_one, Nat.add_zero] at this
        have HD := Lib.hid hd
        clear hd hcell
        by_cases h10 : n < 10
        · by_cases hd127 : 127 < d
          · have hd' : (127 : Int) < (d : Int) := by omega
            have h10' : (n : Int) < 10 := by omega
            have hnx : ∀ j d', j < n + 1 → bs[a + j]? = some d' → 127 < d' := by
              intro j d' hj hd'
              by_cases hjn : j = n
              · subst hjn; rw [HD.out] at hd'; simp only [Option.some.injEq] at hd'; omega
              · exact HN3.out j d' (by omega) hd'
            have HNX := Lib.hid hnx
            clear hnx
            go_wp2_with fail
            go_roundw
            case rel => exact ⟨n + 1, by go_num, by omega, by omega, HNX.out, by first | rfl | trivial⟩
            case measure => simp [intOf]; omega
          · have hd' : ¬ ((127 : Int) < (d : Int)) := by omega
            have h10' : (n : Int) < 10 := by omega
            have hstop : ∀ d', (bs.drop a)[n]? = some d' → d' ≤ 127 := by
              intro d' hd2
              rw [List.getElem?_drop, HD.out] at hd2
              simp only [Option.some.injEq] at hd2
              omega
            have HSTOP := Lib.hid hstop
            obtain ⟨D, hD⟩ : ∃ D, (bs.drop a).take (n + 1) = D := ⟨_, rfl⟩
            have hDl : D.length = n + 1 := by rw [← hD, List.length_take, List.length_drop]; omega
            have HDD := Lib.hid hD
            have HDL := Lib.hid hDl
            clear hstop hD hDl
            go_wp2_with fail
            clear c0 hd' h10' hd127
            go_loopw [7, 8] (fun u i wr3 => ∃ j : Nat, i = .int .i64 ((j : Int) - 1) ∧ j ≤ n + 1 ∧ u = .int .u64 (valW (D.drop j)) ∧ wr3 = wr) (fun _ i _ => (intOf i + 1).toNat)
            case atStart => exact ⟨n + 1, by rw [show (((n + 1 : Nat) : Int) - 1) = (n : Int) by omega], Nat.le_refl _, by rw [List.drop_of_length_le (by rw [HDL.out]; omega)]; rfl, rfl⟩
            case round =>
              obtain ⟨j, rfl, hj, rfl, rfl⟩ := hrel
              rcases j with _ | j
              · obtain ⟨U, hU⟩ : ∃ U, valW (D.drop 0) = U := ⟨_, rfl⟩
                have hUl : U < 18446744073709551616 := by rw [← hU]; exact valW_lt _
                rw [hU]
                have HU := Lib.hid hU
                clear hU
                have hcb : ∀ w', Kept (fun _ => False) w w' → (convert 29 9 (.slice (some ⟨g, off + a, none⟩) (a + n + 1 - a) (c - a))).run Try.prog w' = .ok (.string (strOf D)) w' := by
                  intro w' hk
                  have h := elems_part (a := a) (k := n + 1) (HE.out w' hk)
                  rw [HDD.out] at h
                  have := conv_bytes (c := c - a) h
                  rwa [HDL.out, show n + 1 = a + n + 1 - a by omega] at this
                have HCB := Lib.hid hcb
                clear hcb
                by_cases hodd : U % 2 = 1
                · have e : unfoldN U = -((U : Int) / 2) - 1 := by unfold unfoldN; rw [if_pos hodd]; omega
                  have h1 : (U : Int) % 2 = 1 := by omega
                  have HEV := Lib.hid e
                  clear e hodd
                  go_wp2_with fail
                  have s1 : IntKind.i64.wrap ((a : Int) + n) = (a : Int) + n := IntWalk.i64_in _ ⟨by omega, by omega⟩
                  have s2 : IntKind.i64.wrap ((a : Int) + n + 1) = (a : Int) + n + 1 := IntWalk.i64_in _ ⟨by omega, by omega⟩
                  have b1 : (0 : Int) ≤ (a : Int) := by omega
                  have b2 : (a : Int) ≤ (a : Int) + n + 1 := by omega
                  have b3 : (a : Int) + n + 1 ≤ (c : Int) := by omega
                  have b4 : ((a : Int) + n + 1).toNat = a + n + 1 := by omega
                  have b5 : (a : Int) < (c : Int) := by omega
                  have cc1 := HCB.out wr.drew HK.out.drew
                  by_cases hdu : dig U = D
                  · have hst : ((strOf (dig U)).toList == (strOf D).toList) = true := by rw [hdu]; exact strOf_is _
                    have HDU := Lib.hid hdu
                    clear hdu
                    go_region_with ((go_at_call 29; refine (refNumber_eq _ (unfoldN U) HEV.out.symm (unfold_in hUl) _).mono ?_; rintro e w6 ⟨v6, rfl, hown6, hk6⟩; have d6 := conv_own hown6 (numB_unfold U) (by rw [numB_unfold]; exact Nat.le_trans (dig_len 9 U (by omega)) (by omega)); have HK6 := Lib.hid (HK.out.drew.trans hk6 (fun _ _ f => f)); have HO6 := Lib.hid (own_kept (HO.out.drew) hk6 (fun _ _ f => f)); have e6 := HCB.out w6 HK6.out; clear hown6 hk6))
                    all_goals
                      clear s1 s2 b1 b2 b3 b4 b5 cc1 d6 e6
                      have HEL := Lib.hid (heap_alloc_new w6 (.cells #[.int .i64 (-((U : Int) / 2) - 1)] 2))
                      go_wp2_with (at_builtin; refine wpList_pushI _ rfl (.tmp 82) (.tmp 84) rfl w.heap.size _ l [-((U : Int) / 2) - 1] w6.heap.size 1 rfl rfl rfl HEL.out (OwnI.alloc HO6.out _) (by omega) (by have := HK6.out.size; simp; omega) ?_; intro v7 w7 hown7 hg7)
                      have hfin : ∃ (a' : Nat) (l' : List Int), Value.int .i64 ((a : Int) + n + 1) = .int .i64 a' ∧ a' ≤ bs.length ∧ l'.length ≤ a' ∧ (∀ n ∈ l', InR n) ∧ bs.take a' = l'.flatMap numB ∧ OwnI w.heap.size w7 v7 l' ∧ Kept (fun _ => False) w w7 :=
                        ⟨a + n + 1, l ++ [unfoldN U], by go_num, by omega, by rw [List.length_append]; simp; omega, fun m hm => by
                          rcases List.mem_append.1 hm with hm | hm
                          · exact HL.out m hm
                          · simp only [List.mem_cons, List.not_mem_nil, or_false] at hm; rw [hm]; exact unfold_in hUl, by
                          rw [Nat.add_assoc, List.take_add, HT.out, HDD.out, List.flatMap_append, ← HDU.out, ← numB_unfold]; simp, by rw [HEV.out]; exact hown7, (HK6.out.alloc _).grown hg7 (fun i hi e => by have := (OwnI.lt HO6.out e).1; omega)⟩
                      have HF := Lib.hid hfin
                      clear hfin hown7 hg7
                      go_wp2_with fail
                      go_roundw
                      case rel => first | exact HF.out | ((repeat apply Exists.intro); exact ⟨HF.out, rfl⟩)
                      case measure => simp [intOf]; omega
                  · have hst : ((strOf (dig U)).toList == (strOf D).toList) = false := strOf_ne (dig_lt U) (fun b hb => HB.out b (List.mem_of_mem_drop (List.mem_of_mem_take (by rw [HDD.out]; exact hb)))) hdu
                    have hno : NoNums bs := noNums_of HL.out HT.out (noNums_here (n := n) (D := D) (fun h => by have := congrArg List.length h; rw [List.length_drop] at this; simp at this; omega) HDD.out (fun j d hj hd => HN3.out j d hj (by rwa [List.getElem?_drop] at hd)) HSTOP.out (by have := HU.out; rw [List.drop_zero] at this; rw [this]; exact hdu))
                    have HNO := Lib.hid hno
                    clear hdu hno
                    go_region_with ((go_at_call 29; refine (refNumber_eq _ (unfoldN U) HEV.out.symm (unfold_in hUl) _).mono ?_; rintro e w6 ⟨v6, rfl, hown6, hk6⟩; have d6 := conv_own hown6 (numB_unfold U) (by rw [numB_unfold]; exact Nat.le_trans (dig_len 9 U (by omega)) (by omega)); have HK6 := Lib.hid (HK.out.drew.trans hk6 (fun _ _ f => f)); have e6 := HCB.out w6 HK6.out; clear hown6 hk6))
                    all_goals
                      have HF : Hid (ReadTo w bs (.returned (.tuple #[.slice none 0 0, .bool false])) w6) := Lib.hid (.inr ⟨rfl, HNO.out, HK6.out⟩)
                      clear s1 s2 b1 b2 b3 b4 b5 cc1 d6 e6
                      go_wp2_with fail
                      go_ret2
                      exact HF.out
                · have e : unfoldN U = (U : Int) / 2 := by unfold unfoldN; rw [if_neg hodd]; omega
                  have h1 : ((U : Int) % 2 == 1) = false := by rw [beq_eq_false_iff_ne]; omega
                  have HEV := Lib.hid e
                  clear e hodd
                  go_wp2_with fail
                  have s1 : IntKind.i64.wrap ((a : Int) + n) = (a : Int) + n := IntWalk.i64_in _ ⟨by omega, by omega⟩
                  have s2 : IntKind.i64.wrap ((a : Int) + n + 1) = (a : Int) + n + 1 := IntWalk.i64_in _ ⟨by omega, by omega⟩
                  have b1 : (0 : Int) ≤ (a : Int) := by omega
                  have b2 : (a : Int) ≤ (a : Int) + n + 1 := by omega
                  have b3 : (a : Int) + n + 1 ≤ (c : Int) := by omega
                  have b4 : ((a : Int) + n + 1).toNat = a + n + 1 := by omega
                  have b5 : (a : Int) < (c : Int) := by omega
                  have cc1 := HCB.out wr.drew HK.out.drew
                  by_cases hdu : dig U = D
                  · have hst : ((strOf (dig U)).toList == (strOf D).toList) = true := by rw [hdu]; exact strOf_is _
                    have HDU := Lib.hid hdu
                    clear hdu
                    go_region_with ((go_at_call 29; refine (refNumber_eq _ (unfoldN U) HEV.out.symm (unfold_in hUl) _).mono ?_; rintro e w6 ⟨v6, rfl, hown6, hk6⟩; have d6 := conv_own hown6 (numB_unfold U) (by rw [numB_unfold]; exact Nat.le_trans (dig_len 9 U (by omega)) (by omega)); have HK6 := Lib.hid (HK.out.drew.trans hk6 (fun _ _ f => f)); have HO6 := Lib.hid (own_kept (HO.out.drew) hk6 (fun _ _ f => f)); have e6 := HCB.out w6 HK6.out; clear hown6 hk6))
                    all_goals
                      clear s1 s2 b1 b2 b3 b4 b5 cc1 d6 e6
                      have HEL := Lib.hid (heap_alloc_new w6 (.cells #[.int .i64 ((U : Int) / 2)] 2))
                      go_wp2_with (at_builtin; refine wpList_pushI _ rfl (.tmp 82) (.tmp 84) rfl w.heap.size _ l [(U : Int) / 2] w6.heap.size 1 rfl rfl rfl HEL.out (OwnI.alloc HO6.out _) (by omega) (by have := HK6.out.size; simp; omega) ?_; intro v7 w7 hown7 hg7)
                      have hfin : ∃ (a' : Nat) (l' : List Int), Value.int .i64 ((a : Int) + n + 1) = .int .i64 a' ∧ a' ≤ bs.length ∧ l'.length ≤ a' ∧ (∀ n ∈ l', InR n) ∧ bs.take a' = l'.flatMap numB ∧ OwnI w.heap.size w7 v7 l' ∧ Kept (fun _ => False) w w7 :=
                        ⟨a + n + 1, l ++ [unfoldN U], by go_num, by omega, by rw [List.length_append]; simp; omega, fun m hm => by
                          rcases List.mem_append.1 hm with hm | hm
                          · exact HL.out m hm
                          · simp only [List.mem_cons, List.not_mem_nil, or_false] at hm; rw [hm]; exact unfold_in hUl, by
                          rw [Nat.add_assoc, List.take_add, HT.out, HDD.out, List.flatMap_append, ← HDU.out, ← numB_unfold]; simp, by rw [HEV.out]; exact hown7, (HK6.out.alloc _).grown hg7 (fun i hi e => by have := (OwnI.lt HO6.out e).1; omega)⟩
                      have HF := Lib.hid hfin
                      clear hfin hown7 hg7
                      go_wp2_with fail
                      go_roundw
                      case rel => first | exact HF.out | ((repeat apply Exists.intro); exact ⟨HF.out, rfl⟩)
                      case measure => simp [intOf]; omega
                  · have hst : ((strOf (dig U)).toList == (strOf D).toList) = false := strOf_ne (dig_lt U) (fun b hb => HB.out b (List.mem_of_mem_drop (List.mem_of_mem_take (by rw [HDD.out]; exact hb)))) hdu
                    have hno : NoNums bs := noNums_of HL.out HT.out (noNums_here (n := n) (D := D) (fun h => by have := congrArg List.length h; rw [List.length_drop] at this; simp at this; omega) HDD.out (fun j d hj hd => HN3.out j d hj (by rwa [List.getElem?_drop] at hd)) HSTOP.out (by have := HU.out; rw [List.drop_zero] at this; rw [this]; exact hdu))
                    have HNO := Lib.hid hno
                    clear hdu hno
                    go_region_with ((go_at_call 29; refine (refNumber_eq _ (unfoldN U) HEV.out.symm (unfold_in hUl) _).mono ?_; rintro e w6 ⟨v6, rfl, hown6, hk6⟩; have d6 := conv_own hown6 (numB_unfold U) (by rw [numB_unfold]; exact Nat.le_trans (dig_len 9 U (by omega)) (by omega)); have HK6 := Lib.hid (HK.out.drew.trans hk6 (fun _ _ f => f)); have e6 := HCB.out w6 HK6.out; clear hown6 hk6))
                    all_goals
                      have HF : Hid (ReadTo w bs (.returned (.tuple #[.slice none 0 0, .bool false])) w6) := Lib.hid (.inr ⟨rfl, HNO.out, HK6.out⟩)
                      clear s1 s2 b1 b2 b3 b4 b5 cc1 d6 e6
                      go_wp2_with fail
                      go_ret2
                      exact HF.out
              · obtain ⟨d', hd'⟩ : ∃ d', bs[a + j]? = some d' := ⟨_, List.getElem?_eq_getElem (by omega)⟩
                obtain ⟨g9, off9, hg9, _, hcell⟩ := (HE.out _ HK.out).2 (a + j) d' hd'
                simp only [Option.some.injEq, Addr.mk.injEq, and_true] at hg9
                obtain ⟨rfl, rfl⟩ := hg9
                have c0 : wr.cell? ⟨g, off + (a + j), none⟩ = some (.int .u8 d') := by have := hcell 0 _ rfl; rwa [Nat.mul_one, Nat.add_zero] at this
                have hdd : D[j]? = some d' := by rw [← HDD.out, List.getElem?_take, if_pos (by omega), List.getElem?_drop, hd']
                have hdb := HB.out d' (List.mem_of_getElem? hd')
                obtain ⟨U, hU⟩ : ∃ U, valW (D.drop (j + 1)) = U := ⟨_, rfl⟩
                have hnext : valW (D.drop j) = (U * 128 + d' % 128) % 18446744073709551616 := by
                  obtain ⟨h1, h2⟩ := List.getElem?_eq_some_iff.1 hdd
                  rw [List.drop_eq_getElem_cons h1, h2, valW, hU]
                have HNX := Lib.hid hnext
                rw [hU]
                rw [show (((j + 1 : Nat) : Int) - 1) = (j : Int) by omega]
                have hjl : (a : Int) + j < (bs.length : Int) := by omega
                clear hd' hcell hdd hU hnext
                go_wp2_with fail
                go_roundw
                case rel => exact ⟨j, by go_num, by omega, by rw [HNX.out, ← val_step], by first | rfl | trivial⟩
                case measure => simp [intOf]
        · have hno : NoNums bs := noNums_of HL.out HT.out (noNums_end (n := n) (fun h => by have := congrArg List.length h; rw [List.length_drop] at this; simp at this; omega) (fun j d hj hd => HN3.out j d hj (by rwa [List.getElem?_drop] at hd)) (by rw [List.length_drop]; omega))
          have HF : Hid (ReadTo w bs (.returned (.tuple #[.slice none 0 0, .bool false])) wr) := Lib.hid (.inr ⟨rfl, hno, HK.out⟩)
          clear hno
          have q1 : ¬ ((n : Int) < 10) := by omega
          have q2 : (a : Int) + n < (bs.length : Int) := by omega
          go_wp2_with fail
          go_ret2
          exact HF.out
      · have hno : NoNums bs := noNums_of HL.out HT.out (noNums_end (n := n) (fun h => by have := congrArg List.length h; rw [List.length_drop] at this; simp at this; omega) (fun j d hj hd => HN3.out j d hj (by rwa [List.getElem?_drop] at hd)) (by rw [List.length_drop]; omega))
        have HF : Hid (ReadTo w bs (.returned (.tuple #[.slice none 0 0, .bool false])) wr) := Lib.hid (.inr ⟨rfl, hno, HK.out⟩)
        clear hno
        have q2 : ¬ ((a : Int) + n < (bs.length : Int)) := by omega
        go_wp2_with fail
        go_ret2
        exact HF.out

end Go.Proofs.Ytkicpbnphbcdaaa
