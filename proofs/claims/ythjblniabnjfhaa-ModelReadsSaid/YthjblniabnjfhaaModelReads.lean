/-
  For every input the statement ModelReads answers true: as long as somebody reads nobody else writes; when all are done, anybody may.
  Conditions: none.
-/
import Derived.Test.YthjblniabnjfhaaModArg
import Derived.Test.YthjblniabnjfhaaModReadsP
import Derived.Test.YthjblniabnjfhaaModCan
import Derived.Test.YthjblniabnjfhaaModStep
import Derived.Deep.RegionLaw
import Derived.Deep.RegionWith
import Derived.Deep.Cut
import Derived.Deep.CutRange
import Derived.Deep.DeepCutAuto
import Derived.LoopTactic
import Derived.WalkKit
import Derived.ProofKit
import Derived.OpenShut
namespace Go.Proofs.Ythjblniabnjfhaa
namespace modelReads
open Go.ChangeShapes Go.WideShapes Go.ChangeAt Go.RowKit
set_option linter.unusedVariables false
set_option linter.unusedSimpArgs false

def intC (a : Int) : List Value := [.int .i64 a]
theorem ints_of {H : Type} {enc : TypeId × Value → H} {w : World} {s : Option Addr} {len cap : Nat} {d : DataW H} {p : List MemPlace}
    (h : DataW.Trod enc Try.prog w 0 (fun _ => true) true 47 (.slice s len cap) d p) : ∃ xs, xs.length = len ∧ Elems w w.heap.size s 1 intC xs := by
  refine Exists.imp (fun xs h => ⟨h.1, h.2.1⟩) (elems_of (Q := fun _ : Int => True) (f := intC) Try.underlying47 Try.mc_int (by omega) (fun k cs y hl ht => ?_) h)
  match cs, hl with
  | [c0], _ =>
    obtain ⟨a, e, _, _⟩ := DataW.trod_int Try.underlying3 ht
    simp only [List.cons.injEq, and_true] at e
    subst e
    exact ⟨a, rfl, trivial⟩

set_option maxHeartbeats 16000000 in
set_option maxRecDepth 100000 in
theorem outside (xs : List Int) (s : Option Addr) (cap : Nat) (t : Int) (w : World) (h : t < 0 ∨ 7 < t ∨ 200 < xs.length) : Calls Try.prog 8 #[.int .i64 t, .slice s xs.length cap] w fun e w' => e = .returned (.bool true) ∧ Below w.heap.size w w' := by
  by_cases a0 : t < 0
  · go_enter Try.func8, Try.ntmps8
    go_wp2_with fail
    refine (up_any _).mono ?_
    rintro e w1 ⟨rfl, hk1⟩
    go_wp2_with fail
    go_ret
    exact ⟨rfl, hk1.below (Nat.le_refl _) (fun _ f => f.elim)⟩
  by_cases a1 : 7 < t
  · go_enter Try.func8, Try.ntmps8
    go_wp2_with fail
    refine (up_any _).mono ?_
    rintro e w1 ⟨rfl, hk1⟩
    go_wp2_with fail
    go_ret
    exact ⟨rfl, hk1.below (Nat.le_refl _) (fun _ f => f.elim)⟩
  have a2 : (200 : Int) < (xs.length : Int) := by omega
  clear h
  go_enter Try.func8, Try.ntmps8
  go_wp2_with fail
  refine (up_any _).mono ?_
  rintro e w1 ⟨rfl, hk1⟩
  go_wp2_with fail
  go_ret
  exact ⟨rfl, hk1.below (Nat.le_refl _) (fun _ f => f.elim)⟩

set_option maxHeartbeats 16000000 in
set_option maxRecDepth 100000 in
theorem inside (xs : List Int) (s : Option Addr) (cap : Nat) (t : Int) (w : World) (hx : Elems w w.heap.size s 1 intC xs) (a0 : ¬ t < 0) (a1 : ¬ 7 < t) (a2 : ¬ (200 : Int) < (xs.length : Int)) : Calls Try.prog 8 #[.int .i64 t, .slice s xs.length cap] w fun e w' => e = .returned (.bool true) ∧ Below w.heap.size w w' := by
  have hl : xs.length ≤ 200 := by omega
  obtain ⟨X, hX⟩ : ∃ X : List Int → Th, X = rdT := ⟨_, rfl⟩
  have HNEW : Hid (∀ w', Calls Try.prog 12 #[.agg #[.int .i64 4, .bool false, .int .i64 0]] w' fun e w'' => e = .returned ((X []).agg none 0) ∧ Kept (fun _ => False) w' w'') := Lib.hid (fun w' => by rw [hX, rd_new]; exact new_any 4 0 false w')
  have HD2 : Hid (∀ (l : List Int) a y, l.length < 200 → (∀ b ∈ l, 0 ≤ b ∧ b ≤ 7) → 0 ≤ a → a ≤ 7 → X (l ++ [a]) = y → ∀ w' s c, Calls Try.prog 14 #[(X l).agg s c, .int .i64 a, .agg #[.int .i64 2, .int .i64 0]] w' (Told w' y true)) := Lib.hid (fun l a y h1 h2 h3 h4 hy w' s c => by
    subst hy
    have h := do_any (X l) a 2 0 s c w' (by rw [hX]; exact rd_fit (by omega)) (inW_nil (by rw [hX]; rfl) s) (by decide) (by decide)
    rw [hX] at h ⊢
    obtain ⟨q1, q2⟩ := rd_read h1 h2 h3 h4
    rw [q1, q2] at h
    exact h)
  have HD4 : Hid (∀ (l : List Int) a y, l.length < 200 → 0 ≤ a → a ≤ 7 → X l = y → ∀ w' s c, Calls Try.prog 14 #[(X (a :: l)).agg s c, .int .i64 a, .agg #[.int .i64 4, .int .i64 0]] w' (Told w' y true)) := Lib.hid (fun l a y h1 h3 h4 hy w' s c => by
    subst hy
    have h := do_any (X (a :: l)) a 4 0 s c w' (by rw [hX]; exact rd_fit (by simp only [List.length_cons]; omega)) (inW_nil (by rw [hX]; rfl) s) (by decide) (by decide)
    rw [hX] at h ⊢
    obtain ⟨q1, q2⟩ := rd_unread (l := l) h3 h4
    rw [q1, q2] at h
    exact h)
  have HCA : Hid (∀ (l : List Int) b, l.length ≤ 200 → (∀ b ∈ l, 0 ≤ b ∧ b ≤ 7) → decide (l = []) = b → ∀ w' s c, Calls Try.prog 17 #[(X l).agg s c, .int .i64 t, opAgg 13 0 0 0 false] w' fun e w'' => e = .returned (.bool b) ∧ Kept (fun _ => False) w' w'') := Lib.hid (fun l b h1 h2 hb w' s c =>
    can_any (X l) t 13 0 0 0 false s c w' (by rw [hX]; exact rd_fit h1) (inW_nil (by rw [hX]; rfl) s) (by decide) (by decide) b (by rw [hX, ← hb]; exact rd_can h2 (by omega) (by omega) 0))
  have HP : Hid (∀ w' i a, Kept (fun k => w.heap.size ≤ k) w w' → xs[i]? = some a → ∃ g off, s = some ⟨g, off, none⟩ ∧ g < w.heap.size ∧ w'.cell? ⟨g, off + i, none⟩ = some (.int .i64 a)) := Lib.hid (fun w' i a hk hi => by
    obtain ⟨g, off, e, hg, h⟩ := (hx.kept hk (Nat.le_refl _) (fun k h1 h2 => by omega)).2 i a hi
    have := h 0 _ rfl
    rw [Nat.mul_one, Nat.add_zero] at this
    exact ⟨g, off, e, hg, this⟩)
  clear hX hx
  go_enter Try.func8, Try.ntmps8
  go_wp2_with fail
  refine (up_any _).mono ?_
  rintro e w1 ⟨rfl, hk1⟩
  have HK1 := Lib.hid hk1; clear hk1
  go_wp2_with fail
  refine (HNEW.out _).mono ?_
  rintro e w2 ⟨rfl, hk2⟩
  have HK2 := Lib.hid (HK1.out.tr0 hk2); clear hk2
  go_wp2_with (first | refine wpList_loadT (by rfl) (by rfl) (by rfl) (by first | assumption | exact BoxT.past (by assumption) _ | exact BoxT.stepF (by assumption) (by assumption)) ?_ | refine wpList_loadN (by rfl) (by rfl) (by rfl) (by first | assumption | exact BoxN.stepF (by assumption) (by assumption)) ?_ | (refine wpList_storeT (by rfl) (by rfl) (by rfl) (by rfl) (BoxT.fresh _) ?_; intro WS hBS hKS))
  have HB0 := Lib.hid hBS
  have HK0 : Hid (Kept (fun k => w.heap.size ≤ k) w WS) := Lib.hid (((HK2.out.alloc _).mono (T := fun k => w.heap.size ≤ k) (fun _ _ f => f.elim)).trans (hKS.mono (fun k _ e => by have := HK2.out.size; omega)) (fun _ _ e => e))
  have HW : Hid (w.heap.size ≤ w2.heap.size) := Lib.hid HK2.out.size
  clear hBS hKS
  go_loopw [7, 8] (fun n i wr => ∃ (k : Nat) (s6 : Option Addr) (c6 : Nat), n = .int .i64 k ∧ i = .int .i64 k ∧ k ≤ xs.length ∧ (∀ b ∈ xs.take k, 0 ≤ b ∧ b ≤ 7) ∧ BoxT wr w2.heap.size (X (xs.take k)) s6 c6 ∧ Kept (fun q => w.heap.size ≤ q) w wr) (fun _ i _ => xs.length - (intOf i).toNat)
  case atStart => exact ⟨0, none, 0, rfl, rfl, Nat.zero_le _, fun b h => (by cases h), HB0.out, HK0.out⟩
  case round =>
    obtain ⟨k, s6, c6, rfl, rfl, hk, hin, hB, hkk⟩ := hrel
    have HIN := Lib.hid hin
    have HBk := Lib.hid hB
    have HKk := Lib.hid hkk
    have HZ : Hid (w2.heap.size < wr.heap.size) := Lib.hid hB.lt
    clear hin hkk
    by_cases hlt : k < xs.length
    · obtain ⟨a, ha⟩ : ∃ a, xs[k]? = some a := ⟨_, List.getElem?_eq_getElem hlt⟩
      obtain ⟨g, off, rfl, hg, y0⟩ := HP.out wr k a HKk.out ha
      have HTK : Hid (xs.take (k + 1) = xs.take k ++ [a]) := Lib.hid (by rw [List.take_add_one, ha]; rfl)
      have k1 : (k : Int) < (xs.length : Int) := by omega
      have k2 : (k : Int) + 1 ≤ 200 := by omega
      have l0 : g < wr.heap.size := by have := HZ.out; have := HW.out; omega
      have l1 : w2.heap.size < wr.heap.size := HZ.out
      clear ha
      cases b0 : decide (a < 0) with
      | true =>
        clear hB
        go_wp2_with fail
        go_ret
        exact ⟨rfl, HKk.out.below (Nat.le_refl _) (fun _ e => e)⟩
      | false =>
        cases b7 : decide (7 < a) with
        | true =>
          clear hB
          go_wp2_with fail
          go_ret
          exact ⟨rfl, HKk.out.below (Nat.le_refl _) (fun _ e => e)⟩
        | false =>
          have h0 : 0 ≤ a := by have := of_decide_eq_false b0; omega
          have h7 : a ≤ 7 := by have := of_decide_eq_false b7; omega
          obtain ⟨y, hy⟩ : ∃ y, X (xs.take k ++ [a]) = y := ⟨_, rfl⟩
          have HD := Lib.hid (HD2.out (xs.take k) a y (by rw [List.length_take]; omega) HIN.out h0 h7 hy)
          have HIN2 : Hid (∀ b ∈ xs.take (k + 1), 0 ≤ b ∧ b ≤ 7) := Lib.hid (fun b hb => by
            rw [HTK.out] at hb
            rcases List.mem_append.1 hb with hb | hb
            · exact HIN.out b hb
            · simp only [List.mem_cons, List.not_mem_nil, or_false] at hb
              subst hb
              exact ⟨h0, h7⟩)
          have HY := Lib.hid hy
          have SF : Hid (∀ w', Kept (fun _ => False) wr w' → (fun w' => w'.cell? ⟨w2.heap.size, 0, none⟩ = some (.int .i64 (X (xs.take k)).kind) ∧ w'.cell? ⟨w2.heap.size, 1, none⟩ = some (.int .i64 (X (xs.take k)).n) ∧ w'.cell? ⟨w2.heap.size, 2, none⟩ = some (.int .i64 (X (xs.take k)).owner) ∧ w'.cell? ⟨w2.heap.size, 3, none⟩ = some (.int .i64 (X (xs.take k)).holds) ∧ w'.cell? ⟨w2.heap.size, 4, none⟩ = some (.int .i64 ((X (xs.take k)).r 0)) ∧ w'.cell? ⟨w2.heap.size, 5, none⟩ = some (.int .i64 ((X (xs.take k)).r 1)) ∧ w'.cell? ⟨w2.heap.size, 6, none⟩ = some (.int .i64 ((X (xs.take k)).r 2)) ∧ w'.cell? ⟨w2.heap.size, 7, none⟩ = some (.int .i64 ((X (xs.take k)).r 3)) ∧ w'.cell? ⟨w2.heap.size, 8, none⟩ = some (.int .i64 ((X (xs.take k)).r 4)) ∧ w'.cell? ⟨w2.heap.size, 9, none⟩ = some (.int .i64 ((X (xs.take k)).r 5)) ∧ w'.cell? ⟨w2.heap.size, 10, none⟩ = some (.int .i64 ((X (xs.take k)).r 6)) ∧ w'.cell? ⟨w2.heap.size, 11, none⟩ = some (.int .i64 ((X (xs.take k)).r 7)) ∧ w'.cell? ⟨w2.heap.size, 12, none⟩ = some (.slice s6 (X (xs.take k)).ws.length c6) ∧ w'.cell? ⟨w2.heap.size, 13, none⟩ = some (.int .i64 (X (xs.take k)).offer) ∧ w'.cell? ⟨w2.heap.size, 14, none⟩ = some (.int .i64 (X (xs.take k)).item) ∧ w'.cell? ⟨g, off + k, none⟩ = some (.int .i64 a)) w') := Lib.hid (fun w' hk => by have h := (HBk.out.kept0 hk).cells; exact ⟨h.c0, h.c1, h.c2, h.c3, h.c4, h.c5, h.c6, h.c7, h.c8, h.c9, h.c10, h.c11, h.c12, h.c13, h.c14, (hk.cell (p := ⟨g, off + k, none⟩) (by show g < _; have := HZ.out; have := HW.out; omega) (fun f => f)).trans y0⟩)
          clear hB hy h0 h7
          go_upto_region 11 with fail
          go_cut [9, 10] (fun p bb wx => ∃ b9 s9 c9, p = .pointer (some ⟨b9, 0, none⟩) ∧ bb = .bool true ∧ BoxT wx b9 y s9 c9 ∧ Kept (fun _ => False) wr wx)
          case first =>
            go_region_held3 (fun w' => w'.cell? ⟨w2.heap.size, 0, none⟩ = some (.int .i64 (X (xs.take k)).kind) ∧ w'.cell? ⟨w2.heap.size, 1, none⟩ = some (.int .i64 (X (xs.take k)).n) ∧ w'.cell? ⟨w2.heap.size, 2, none⟩ = some (.int .i64 (X (xs.take k)).owner) ∧ w'.cell? ⟨w2.heap.size, 3, none⟩ = some (.int .i64 (X (xs.take k)).holds) ∧ w'.cell? ⟨w2.heap.size, 4, none⟩ = some (.int .i64 ((X (xs.take k)).r 0)) ∧ w'.cell? ⟨w2.heap.size, 5, none⟩ = some (.int .i64 ((X (xs.take k)).r 1)) ∧ w'.cell? ⟨w2.heap.size, 6, none⟩ = some (.int .i64 ((X (xs.take k)).r 2)) ∧ w'.cell? ⟨w2.heap.size, 7, none⟩ = some (.int .i64 ((X (xs.take k)).r 3)) ∧ w'.cell? ⟨w2.heap.size, 8, none⟩ = some (.int .i64 ((X (xs.take k)).r 4)) ∧ w'.cell? ⟨w2.heap.size, 9, none⟩ = some (.int .i64 ((X (xs.take k)).r 5)) ∧ w'.cell? ⟨w2.heap.size, 10, none⟩ = some (.int .i64 ((X (xs.take k)).r 6)) ∧ w'.cell? ⟨w2.heap.size, 11, none⟩ = some (.int .i64 ((X (xs.take k)).r 7)) ∧ w'.cell? ⟨w2.heap.size, 12, none⟩ = some (.slice s6 (X (xs.take k)).ws.length c6) ∧ w'.cell? ⟨w2.heap.size, 13, none⟩ = some (.int .i64 (X (xs.take k)).offer) ∧ w'.cell? ⟨w2.heap.size, 14, none⟩ = some (.int .i64 (X (xs.take k)).item) ∧ w'.cell? ⟨g, off + k, none⟩ = some (.int .i64 a)) (first | exact SF.out _ (Kept.refl _ _) | exact SF.out _ (Kept.refl _ _).drew | exact SF.out _ ((Kept.refl _ _).drew.alloc _) | exact SF.out _ H6 | exact SF.out _ (H6.alloc _) | exact SF.out _ hAW) (first | (go_at_call 14; refine (HD.out _ _ _).mono ?_; rintro e w6 ⟨s6, c6, rfl, -, hk6⟩; first | (have hz : BoxT w6 wr.heap.size ⟨0, 0, 0, 0, fun _ => 0, [], 0, 0⟩ none 0 := (BoxT.fresh wr.drew).kept0 hk6; have H6 : Kept (fun _ => False) wr w6 := ((Kept.refl (fun _ => False) wr).drew.alloc _).tr0 hk6; obtain ⟨_, _, _, _, _, _, _, _, _, _, _, _, _, _, _⟩ := hz.cells; obtain ⟨_, _, _, _, _, _, _, _, _, _, _, _, _, _, _⟩ := hz.frees; obtain ⟨WS, hWS, hBS, hKS⟩ := hz.put y s6 c6; have hAW : Kept (fun _ => False) wr WS := (kept_ahead (w := wr.drew) hk6 hKS).drewL; clear hz hKS hk6) | (have H6 : Kept (fun _ => False) wr w6 := Kept.drewL hk6; have hAW : Kept (fun _ => False) wr (w6.alloc (.cells (y.box s6 c6) 27)) := (Kept.drewL hk6).alloc _; have hBS := BoxT.new w6 y s6 c6; clear hk6)))
            all_goals
              have HF := Lib.hid (And.intro hBS hAW)
              clear hBS hAW
              go_wp2_with fail
              go_meet
              exact ⟨_, _, _, rfl, rfl, HF.out.1, HF.out.2⟩
          case rest =>
            obtain ⟨b9, s9, c9', hp, hbb, hB9, hkc⟩ := hcut
            subst hp
            subst hbb
            have hB6 := HBk.out.kept0 hkc
            have HKc := Lib.hid (HKk.out.trans (hkc.mono (fun _ _ f => f.elim)) (fun _ _ e => e))
            clear hkc SF y0 l0 l1
            go_wp2_with (first | refine wpList_loadT (by rfl) (by rfl) (by rfl) (by first | assumption | exact BoxT.past (by assumption) _ | exact BoxT.stepF (by assumption) (by assumption)) ?_ | refine wpList_loadN (by rfl) (by rfl) (by rfl) (by first | assumption | exact BoxN.stepF (by assumption) (by assumption)) ?_ | (refine wpList_storeT (by rfl) (by rfl) (by rfl) (by rfl) (by assumption) ?_; intro WT hBT hKT))
            have HBT : Hid (BoxT WT w2.heap.size (X (xs.take (k + 1))) s9 c9') := Lib.hid (by rw [HTK.out, HY.out]; exact hBT)
            have HKT := Lib.hid (HKc.out.trans (hKT.mono (fun q _ e => by have := HW.out; omega)) (fun _ _ e => e))
            clear hBT hKT hB6 hB9
            go_roundw
            case rel => first | exact ⟨k + 1, s9, c9', by go_num, by go_num, by omega, HIN2.out, HBT.out, HKT.out⟩ | ((repeat apply Exists.intro); exact ⟨⟨k + 1, s9, c9', by go_num, by go_num, by omega, HIN2.out, HBT.out, HKT.out⟩, rfl⟩)
            case measure => simp [intOf]; omega
    · have hkl : k = xs.length := by omega
      subst hkl
      have HALL : Hid (∀ b ∈ xs, 0 ≤ b ∧ b ≤ 7) := Lib.hid (by have := HIN.out; rwa [List.take_length] at this)
      have HB1 : Hid (BoxT wr w2.heap.size (X xs) s6 c6) := Lib.hid (by have := HBk.out; rwa [List.take_length] at this)
      clear hB
      have k1 : ¬ (xs.length : Int) < (xs.length : Int) := by omega
      go_wp2_with fail
      go_loopw [11] (fun i wr => ∃ (k : Nat) (s6 : Option Addr) (c6 : Nat), i = .int .i64 k ∧ k ≤ xs.length ∧ BoxT wr w2.heap.size (X (xs.drop k)) s6 c6 ∧ Kept (fun q => w.heap.size ≤ q) w wr) (fun i _ => xs.length - (intOf i).toNat)
      case atStart => exact ⟨0, s6, c6, rfl, Nat.zero_le _, HB1.out, HKk.out⟩
      case round =>
        obtain ⟨k, s8, c8, rfl, hk, hB, hkk⟩ := hrel
        have HBk := Lib.hid hB
        have HKk := Lib.hid hkk
        have HD0 : Hid (∀ b ∈ xs.drop k, 0 ≤ b ∧ b ≤ 7) := Lib.hid (fun b hb => HALL.out b (List.mem_of_mem_drop hb))
        clear hkk
        by_cases hlt : k < xs.length
        · obtain ⟨a, ha⟩ : ∃ a, xs[k]? = some a := ⟨_, List.getElem?_eq_getElem hlt⟩
          have hdr : xs.drop k = a :: xs.drop (k + 1) := by rw [List.drop_eq_getElem_cons hlt]; congr 1; exact (List.getElem?_eq_some_iff.1 ha).2
          have hca := HCA.out (xs.drop k) false (by rw [List.length_drop]; omega) HD0.out (by rw [hdr]; rfl)
          have HCC := Lib.hid hca
          have hr := HALL.out a (List.mem_of_getElem? ha)
          obtain ⟨y, hy⟩ : ∃ y, X (xs.drop (k + 1)) = y := ⟨_, rfl⟩
          have HD := Lib.hid (HD4.out (xs.drop (k + 1)) a y (by rw [List.length_drop]; omega) hr.1 hr.2 hy)
          have HY := Lib.hid hy
          have HP2 : Hid (xs[k]? = some a) := Lib.hid ha
          have HDR := Lib.hid hdr
          have k3 : (k : Int) < (xs.length : Int) := by omega
          have k4 : (k : Int) + 1 ≤ 200 := by omega
          clear hca hr hy ha hdr
          go_wp2_with (first | refine wpList_loadT (by rfl) (by rfl) (by rfl) (by first | assumption | exact BoxT.past (by assumption) _ | exact BoxT.stepF (by assumption) (by assumption)) ?_ | refine wpList_loadN (by rfl) (by rfl) (by rfl) (by first | assumption | exact BoxN.stepF (by assumption) (by assumption)) ?_)
          refine (HCC.out _ _ _).mono ?_
          rintro e w5 ⟨rfl, hk5⟩
          have hB5 := HBk.out.kept0 hk5
          have HK5 := Lib.hid (HKk.out.trans (hk5.mono (fun _ _ f => f.elim)) (fun _ _ e => e))
          obtain ⟨g, off, hs5, hg, y0⟩ := HP.out w5 k a HK5.out HP2.out
          subst hs5
          rw [HDR.out] at hB5
          have HB5 := Lib.hid hB5
          have l0 : g < w5.heap.size := by have := hB5.lt; have := HW.out; omega
          have l1 : w2.heap.size < w5.heap.size := hB5.lt
          have SF : Hid (∀ w', Kept (fun _ => False) w5 w' → (fun w' => w'.cell? ⟨w2.heap.size, 0, none⟩ = some (.int .i64 (X (a :: xs.drop (k + 1))).kind) ∧ w'.cell? ⟨w2.heap.size, 1, none⟩ = some (.int .i64 (X (a :: xs.drop (k + 1))).n) ∧ w'.cell? ⟨w2.heap.size, 2, none⟩ = some (.int .i64 (X (a :: xs.drop (k + 1))).owner) ∧ w'.cell? ⟨w2.heap.size, 3, none⟩ = some (.int .i64 (X (a :: xs.drop (k + 1))).holds) ∧ w'.cell? ⟨w2.heap.size, 4, none⟩ = some (.int .i64 ((X (a :: xs.drop (k + 1))).r 0)) ∧ w'.cell? ⟨w2.heap.size, 5, none⟩ = some (.int .i64 ((X (a :: xs.drop (k + 1))).r 1)) ∧ w'.cell? ⟨w2.heap.size, 6, none⟩ = some (.int .i64 ((X (a :: xs.drop (k + 1))).r 2)) ∧ w'.cell? ⟨w2.heap.size, 7, none⟩ = some (.int .i64 ((X (a :: xs.drop (k + 1))).r 3)) ∧ w'.cell? ⟨w2.heap.size, 8, none⟩ = some (.int .i64 ((X (a :: xs.drop (k + 1))).r 4)) ∧ w'.cell? ⟨w2.heap.size, 9, none⟩ = some (.int .i64 ((X (a :: xs.drop (k + 1))).r 5)) ∧ w'.cell? ⟨w2.heap.size, 10, none⟩ = some (.int .i64 ((X (a :: xs.drop (k + 1))).r 6)) ∧ w'.cell? ⟨w2.heap.size, 11, none⟩ = some (.int .i64 ((X (a :: xs.drop (k + 1))).r 7)) ∧ w'.cell? ⟨w2.heap.size, 12, none⟩ = some (.slice s8 (X (a :: xs.drop (k + 1))).ws.length c8) ∧ w'.cell? ⟨w2.heap.size, 13, none⟩ = some (.int .i64 (X (a :: xs.drop (k + 1))).offer) ∧ w'.cell? ⟨w2.heap.size, 14, none⟩ = some (.int .i64 (X (a :: xs.drop (k + 1))).item) ∧ w'.cell? ⟨g, off + k, none⟩ = some (.int .i64 a)) w') := Lib.hid (fun w' hk => by have h := (HB5.out.kept0 hk).cells; exact ⟨h.c0, h.c1, h.c2, h.c3, h.c4, h.c5, h.c6, h.c7, h.c8, h.c9, h.c10, h.c11, h.c12, h.c13, h.c14, (hk.cell (p := ⟨g, off + k, none⟩) (by show g < _; have := HB5.out.lt; have := HW.out; omega) (fun f => f)).trans y0⟩)
          clear hk5 hB hB5
          go_upto_region 21 with fail
          go_cut [12, 13] (fun p bb wx => ∃ b9 s9 c9, p = .pointer (some ⟨b9, 0, none⟩) ∧ bb = .bool true ∧ BoxT wx b9 y s9 c9 ∧ Kept (fun _ => False) w5 wx)
          case first =>
            go_region_held3 (fun w' => w'.cell? ⟨w2.heap.size, 0, none⟩ = some (.int .i64 (X (a :: xs.drop (k + 1))).kind) ∧ w'.cell? ⟨w2.heap.size, 1, none⟩ = some (.int .i64 (X (a :: xs.drop (k + 1))).n) ∧ w'.cell? ⟨w2.heap.size, 2, none⟩ = some (.int .i64 (X (a :: xs.drop (k + 1))).owner) ∧ w'.cell? ⟨w2.heap.size, 3, none⟩ = some (.int .i64 (X (a :: xs.drop (k + 1))).holds) ∧ w'.cell? ⟨w2.heap.size, 4, none⟩ = some (.int .i64 ((X (a :: xs.drop (k + 1))).r 0)) ∧ w'.cell? ⟨w2.heap.size, 5, none⟩ = some (.int .i64 ((X (a :: xs.drop (k + 1))).r 1)) ∧ w'.cell? ⟨w2.heap.size, 6, none⟩ = some (.int .i64 ((X (a :: xs.drop (k + 1))).r 2)) ∧ w'.cell? ⟨w2.heap.size, 7, none⟩ = some (.int .i64 ((X (a :: xs.drop (k + 1))).r 3)) ∧ w'.cell? ⟨w2.heap.size, 8, none⟩ = some (.int .i64 ((X (a :: xs.drop (k + 1))).r 4)) ∧ w'.cell? ⟨w2.heap.size, 9, none⟩ = some (.int .i64 ((X (a :: xs.drop (k + 1))).r 5)) ∧ w'.cell? ⟨w2.heap.size, 10, none⟩ = some (.int .i64 ((X (a :: xs.drop (k + 1))).r 6)) ∧ w'.cell? ⟨w2.heap.size, 11, none⟩ = some (.int .i64 ((X (a :: xs.drop (k + 1))).r 7)) ∧ w'.cell? ⟨w2.heap.size, 12, none⟩ = some (.slice s8 (X (a :: xs.drop (k + 1))).ws.length c8) ∧ w'.cell? ⟨w2.heap.size, 13, none⟩ = some (.int .i64 (X (a :: xs.drop (k + 1))).offer) ∧ w'.cell? ⟨w2.heap.size, 14, none⟩ = some (.int .i64 (X (a :: xs.drop (k + 1))).item) ∧ w'.cell? ⟨g, off + k, none⟩ = some (.int .i64 a)) (first | exact SF.out _ (Kept.refl _ _) | exact SF.out _ (Kept.refl _ _).drew | exact SF.out _ ((Kept.refl _ _).drew.alloc _) | exact SF.out _ H6 | exact SF.out _ (H6.alloc _) | exact SF.out _ hAW) (first | (go_at_call 14; refine (HD.out _ _ _).mono ?_; rintro e w6 ⟨s6, c6, rfl, -, hk6⟩; first | (have hz : BoxT w6 w5.heap.size ⟨0, 0, 0, 0, fun _ => 0, [], 0, 0⟩ none 0 := (BoxT.fresh w5.drew).kept0 hk6; have H6 : Kept (fun _ => False) w5 w6 := ((Kept.refl (fun _ => False) w5).drew.alloc _).tr0 hk6; obtain ⟨_, _, _, _, _, _, _, _, _, _, _, _, _, _, _⟩ := hz.cells; obtain ⟨_, _, _, _, _, _, _, _, _, _, _, _, _, _, _⟩ := hz.frees; obtain ⟨WS, hWS, hBS, hKS⟩ := hz.put y s6 c6; have hAW : Kept (fun _ => False) w5 WS := (kept_ahead (w := w5.drew) hk6 hKS).drewL; clear hz hKS hk6) | (have H6 : Kept (fun _ => False) w5 w6 := Kept.drewL hk6; have hAW : Kept (fun _ => False) w5 (w6.alloc (.cells (y.box s6 c6) 27)) := (Kept.drewL hk6).alloc _; have hBS := BoxT.new w6 y s6 c6; clear hk6)))
            all_goals
              have HF := Lib.hid (And.intro hBS hAW)
              clear hBS hAW
              go_wp2_with fail
              go_meet
              exact ⟨_, _, _, rfl, rfl, HF.out.1, HF.out.2⟩
          case rest =>
            obtain ⟨b9, s9, c9', hp, hbb, hB9, hkc⟩ := hcut
            subst hp
            subst hbb
            have hB6 := HB5.out.kept0 hkc
            have HKc := Lib.hid (HK5.out.trans (hkc.mono (fun _ _ f => f.elim)) (fun _ _ e => e))
            clear hkc SF y0 l0 l1
            go_wp2_with (first | refine wpList_loadT (by rfl) (by rfl) (by rfl) (by first | assumption | exact BoxT.past (by assumption) _ | exact BoxT.stepF (by assumption) (by assumption)) ?_ | refine wpList_loadN (by rfl) (by rfl) (by rfl) (by first | assumption | exact BoxN.stepF (by assumption) (by assumption)) ?_ | (refine wpList_storeT (by rfl) (by rfl) (by rfl) (by rfl) (by assumption) ?_; intro WT hBT hKT))
            have HBT : Hid (BoxT WT w2.heap.size (X (xs.drop (k + 1))) s9 c9') := Lib.hid (by rw [HY.out]; exact hBT)
            have HKT := Lib.hid (HKc.out.trans (hKT.mono (fun q _ e => by have := HW.out; omega)) (fun _ _ e => e))
            clear hBT hKT hB6 hB9
            go_roundw
            case rel => first | exact ⟨k + 1, s9, c9', by go_num, by omega, HBT.out, HKT.out⟩ | ((repeat apply Exists.intro); exact ⟨⟨k + 1, s9, c9', by go_num, by omega, HBT.out, HKT.out⟩, rfl⟩)
            case measure => simp [intOf]; omega
        · have hkl : k = xs.length := by omega
          subst hkl
          have hca := HCA.out [] true (by simp) (fun b h => by cases h) rfl
          have HCC := Lib.hid hca
          have hB0 : BoxT wr w2.heap.size (X []) s8 c8 := by have := HBk.out; rwa [List.drop_length] at this
          clear hca hB HBk HD0
          go_wp2_with (first | refine wpList_loadT (by rfl) (by rfl) (by rfl) (by first | assumption | exact BoxT.past (by assumption) _ | exact BoxT.stepF (by assumption) (by assumption)) ?_ | refine wpList_loadN (by rfl) (by rfl) (by rfl) (by first | assumption | exact BoxN.stepF (by assumption) (by assumption)) ?_)
          refine (HCC.out _ _ _).mono ?_
          rintro e w5 ⟨rfl, hk5⟩
          have HFIN := Lib.hid ((HKk.out.trans (hk5.mono (fun _ _ f => f.elim)) (fun _ _ e => e)).below (Nat.le_refl _) (fun _ e => e))
          clear hk5 hB0
          go_wp2_with fail
          go_ret
          exact ⟨rfl, HFIN.out⟩

theorem walk (xs : List Int) (s : Option Addr) (cap : Nat) (t : Int) (w : World) (hx : Elems w w.heap.size s 1 intC xs) : Calls Try.prog 8 #[.int .i64 t, .slice s xs.length cap] w fun e w' => e = .returned (.bool true) ∧ Below w.heap.size w w' := by
  by_cases h : t < 0 ∨ 7 < t ∨ 200 < xs.length
  · exact outside xs s cap t w h
  · exact inside xs s cap t w hx (by omega) (by omega) (by omega)

theorem own : ownKnob Try.prog.godebug = none := by kernel_rfl
theorem laidOut : laidOutB Try.prog = true := by kernel_rfl

set_option maxRecDepth 100000 in
theorem lifted (os : Os) (started : os.Started) (H : Type) (enc : TypeId × Value → H) :
    ReturnsInHanded {} Try.checked os 8 .any (Rows.modelReadsSpec.pre6 enc Try.prog Try.f8 Rows.modelReadsRow.domain false) (Rows.modelReadsSpec.post enc Try.prog Try.f8 false true false false) := by
  refine returnsInHanded_of_change (C := Try.checked) own started (by kernel_rfl) Try.func8
    (ChangeSpec.witness6 (enc := enc) (C := Try.checked) false ⟨#[], #[.int .i64 0, .slice none 0 0], []⟩ 8 (by kernel_rfl) (by kernel_rfl) (by kernel_rfl) (by kernel_rfl)) ?_
  intro W base args ds gs before hval0 hW hcnd _
  have hval : ∀ (j : Nat) t v, Try.f8.params[j]? = some t → args[j]? = some v → Value.okWide Try.prog W .any base t v := hval0
  have hW' := hW
  obtain ⟨p, q, hA0, hV, rfl, hfz, hnd⟩ := hW
  have hA : DataW.TrodAll enc Try.prog W 0 (fun _ => true) true Try.f8.params.toList args.toList ds p := hA0
  rw [Try.params8] at hA hval
  obtain ⟨v0, vs0, d0, ds0, p0, q0, hargs, rfl, rfl, h0, r0⟩ := trodAll_cons hA
  obtain ⟨v1, vs1, d1, ds1, p1, q1, rfl, rfl, rfl, h1, r1⟩ := trodAll_cons r0
  obtain ⟨rfl, rfl, rfl⟩ := trodAll_nil r1
  obtain rfl : args = #[v0, v1] := by cases args; simp_all
  obtain ⟨rfl, rfl⟩ := trodVars_none hV
  obtain ⟨a0, rfl, rfl, rfl, w0⟩ := open_int Try.underlying3 (hval 0 3 v0 rfl rfl) h0
  have k1 := h1
  have lt1 : ∀ x ∈ p1, x.block < W.heap.size := by obtain ⟨m, hm⟩ := k1; exact DataW.trod_lt m _ _ _ hm
  obtain ⟨s1, len1, cap1, rfl⟩ := okWide_slice Try.underlying47 (hval 1 47 v1 rfl rfl)
  obtain ⟨xs1, rfl, hx1⟩ := ints_of k1
  clear hA0 hval0
  refine (walk xs1 s1 cap1 a0 W hx1).mono fun e W' ⟨he, bel⟩ => ?_
  subst he
  exact ⟨_, rfl, _, _, _, [], _, [], hW', trodAll_mk1 (shut_bool Try.underlying4 _), (trodAll_cons_mk (shut_int Try.underlying3 w0) (trodAll_cons_mk (Below.trod laidOut (by kernel_rfl) (of_decide_eq_true (by kernel_rfl)) k1 bel lt1) trodAll_mk0)), rfl, bel.frame _, fun h => by cases h⟩

theorem over : Rows.modelReadsRow.holds Try.pinned (OpenSpec.ofChange Rows.modelReadsSpec) :=
  OpenClaim.holds_of_wide 8 Try.f8 rfl rfl rfl rfl rfl rfl rfl ⟨rfl, rfl, rfl, rfl, rfl⟩ rfl rfl rfl rfl rfl (by kernel_rfl) Try.func8 (by kernel_rfl)
    (of_decide_eq_true (by kernel_rfl)) (by unfold Func.isWrapper; first | (rw [if_pos (by decide +kernel)]; kernel_rfl) | (rw [if_neg (by decide +kernel)]; exact ⟨rfl, rfl⟩))
    (fun os started H enc _ => lifted os started H enc)

end modelReads
/-- The statement. -/
theorem modelReads_holds : Rows.ModelReadsSaid := modelReads.over
end Go.Proofs.Ythjblniabnjfhaa
