/-
  For every input the statement ModelDoes answers true: what any mark on any thing comes to, what any object is at first, whether any call can go on.
  Conditions: none.
-/
import Derived.Test.YthjblniabnjfhaaModArg
import Derived.Test.YthjblniabnjfhaaModLight
import Derived.Test.YthjblniabnjfhaaModSame
import Derived.Test.YthjblniabnjfhaaModCopyR
import Derived.Test.YthjblniabnjfhaaModStep
import Derived.Test.YthjblniabnjfhaaModCan
import Derived.Test.YthjblniabnjfhaaModRefG
import Derived.Deep.RegionHeld3
import Derived.Deep.Cut
import Derived.Deep.CutRange
import Derived.Deep.DeepCutAuto
import Derived.LoopTactic
import Derived.WalkKit
import Derived.ProofKit
import Derived.OpenShut
namespace Go.Proofs.Ythjblniabnjfhaa
namespace modelDoes
open Go.ChangeShapes Go.WideShapes Go.ChangeAt Go.RowKit
set_option linter.unusedVariables false
set_option linter.unusedSimpArgs false

/-- What stands in the boxes: the object, the thing, the mark, the call. -/
structure BoxesD (W0 W : World) (b : Nat) (bk bn : Int) (bf : Bool) (x : Th) (s : Option Addr) (c : Nat) (k v ok oo on ow : Int) (ob : Bool) : Prop where
  kept : Kept (fun _ => False) W0 W
  fo : W.heap[b]? = some (.cells #[.int .i64 bk, .bool bf, .int .i64 bn] 23 (0, 0))
  fx : BoxT W (b + 1) x s c
  fn : BoxN W (b + 2) k v
  fp : W.heap[b + 3]? = some (.cells #[.int .i64 ok, .int .i64 oo, .int .i64 on, .int .i64 ow, .bool ob] 31 (0, 0))
  fi : InW W x s
theorem BoxesD.on {W0 W W' : World} {b : Nat} {bk bn : Int} {bf : Bool} {x : Th} {s : Option Addr} {c : Nat} {k v ok oo on ow : Int} {ob : Bool} (h : BoxesD W0 W b bk bn bf x s c k v ok oo on ow ob) (hk : Kept (fun _ => False) W W') : BoxesD W0 W' b bk bn bf x s c k v ok oo on ow ob :=
  ⟨h.kept.tr0 hk, hk.at0 h.fo, h.fx.kept0 hk, h.fn.kept0 hk, hk.at0 h.fp, h.fi.kept0 hk⟩
theorem boxesD_new {bk bn : Int} {bf : Bool} {x : Th} {s : Option Addr} {c : Nat} {k v ok oo on ow : Int} {ob : Bool} {w : World} (hE : InW w x s) : ∃ W1 W2 W3 W4, w.alloc (.cells #[.int .i64 bk, .bool bf, .int .i64 bn] 23) = W1 ∧ W1.alloc (.cells (x.box s c) 27) = W2 ∧ W2.alloc (.cells #[.int .i64 k, .int .i64 v] 29) = W3 ∧ W3.alloc (.cells #[.int .i64 ok, .int .i64 oo, .int .i64 on, .int .i64 ow, .bool ob] 31) = W4 ∧ W1.heap.size = w.heap.size + 1 ∧ W2.heap.size = w.heap.size + 2 ∧ W3.heap.size = w.heap.size + 3 ∧ BoxesD w W4 w.heap.size bk bn bf x s c k v ok oo on ow ob := by
  have k1 : Kept (fun _ => False) w (w.alloc (.cells #[.int .i64 bk, .bool bf, .int .i64 bn] 23)) := (Kept.refl _ w).alloc _
  have b1 := heap_new1 w (.cells #[.int .i64 bk, .bool bf, .int .i64 bn] 23)
  obtain ⟨W1, hW1⟩ : ∃ W1, w.alloc (.cells #[.int .i64 bk, .bool bf, .int .i64 bn] 23) = W1 := ⟨_, rfl⟩
  have s1 : W1.heap.size = w.heap.size + 1 := by rw [← hW1]; simp
  rw [hW1] at k1 b1
  have k2 : Kept (fun _ => False) W1 (W1.alloc (.cells (x.box s c) 27)) := (Kept.refl _ W1).alloc _
  have b2 := BoxT.new W1 x s c
  obtain ⟨W2, hW2⟩ : ∃ W2, W1.alloc (.cells (x.box s c) 27) = W2 := ⟨_, rfl⟩
  have s2 : W2.heap.size = w.heap.size + 2 := by rw [← hW2]; simp [s1]
  rw [hW2, s1] at b2
  rw [hW2] at k2
  have k3 : Kept (fun _ => False) W2 (W2.alloc (.cells #[.int .i64 k, .int .i64 v] 29)) := (Kept.refl _ W2).alloc _
  have b3 := BoxN.new W2 k v
  obtain ⟨W3, hW3⟩ : ∃ W3, W2.alloc (.cells #[.int .i64 k, .int .i64 v] 29) = W3 := ⟨_, rfl⟩
  have s3 : W3.heap.size = w.heap.size + 3 := by rw [← hW3]; simp [s2]
  rw [hW3, s2] at b3
  rw [hW3] at k3
  have k4 : Kept (fun _ => False) W3 (W3.alloc (.cells #[.int .i64 ok, .int .i64 oo, .int .i64 on, .int .i64 ow, .bool ob] 31)) := (Kept.refl _ W3).alloc _
  have b4 := heap_new1 W3 (.cells #[.int .i64 ok, .int .i64 oo, .int .i64 on, .int .i64 ow, .bool ob] 31)
  rw [s3] at b4
  exact ⟨W1, W2, W3, _, hW1, hW2, hW3, rfl, s1, s2, s3, ⟨((k1.tr0 k2).tr0 k3).tr0 k4, ((k2.tr0 k3).tr0 k4).at0 b1, b2.kept0 (k3.tr0 k4), b3.kept0 k4, b4, (((hE.kept0 k1).kept0 k2).kept0 k3).kept0 k4⟩⟩
theorem SaidB.inw {w w' : World} {s s' : Option Addr} {x y : Th} {c : Nat} (hi : InW w x s) (hk : Kept (fun _ => False) w w') (h : (s' = s ∧ y.ws = x.ws) ∨ NewW w.heap.size w' s' c y.ws) : InW w' y s' := by
  rcases h with ⟨rfl, e⟩ | h
  · have := hi.kept0 hk
    unfold InW at this ⊢
    rw [e]
    exact this
  · exact h.el

theorem do_len (x : Th) (t k v : Int) (h : x.ws.length ≤ 100) : (doM x t k v).ws.length ≤ 200 := by
  unfold doM
  split
  · unfold doesM heldM countM swapM takeM freeM
    repeat' split
    all_goals first
      | (show x.ws.length ≤ 200; omega)
      | (show (x.ws ++ [_]).length ≤ 200; rw [List.length_append]; simp; omega)
      | (show x.ws.tail.length ≤ 200; rw [List.length_tail]; omega)
      | (show (x.ws.filter _).length ≤ 200; exact Nat.le_trans (List.length_filter_le _ _) (by omega))
  · omega
theorem ahead_of {WS w6 WE : World} {b : Nat} (h : Kept (fun _ => False) WS w6) (hb : WS.heap.size ≤ b) (hk : Kept (fun k => k = b) w6 WE) : Kept (fun _ => False) WS WE := by
  have h1 : Kept (fun k => k = b) WS WE := (h.mono (fun _ _ f => f.elim)).trans hk (fun _ _ e => e)
  exact ⟨h1.os, h1.tape, h1.output, h1.size, fun k hk2 _ => h1.block k hk2 (by omega)⟩
/-- The box was laid ahead of the copy. -/
theorem said_off {B : Nat} {w5 w6 WE : World} {s5 s7 : Option Addr} {c5 c7 b : Nat} {x y : Th} (hN : NewW B w5 s5 c5 x.ws) (hk : Kept (fun _ => False) w5 w6) (h : (s7 = s5 ∧ y.ws = x.ws) ∨ NewW w5.heap.size w6 s7 c7 y.ws) (hE : Kept (fun k => k = b) w6 WE) (hb : b < B ∧ b < w5.heap.size) : InW WE y s7 := by
  rcases h with ⟨rfl, e⟩ | h
  · have := ((hN.kept hk (fun _ _ f => f)).kept hE (fun g hg e => by omega)).el
    unfold InW
    rw [e]
    exact this
  · exact (h.kept hE (fun g hg e => by omega)).el
/-- It was laid between the copy and the call. -/
theorem said_mid {B : Nat} {w5 w6 WE : World} {s5 s7 : Option Addr} {c5 c7 : Nat} {x y : Th} {o : Obj} (hN : NewW B w5 s5 c5 x.ws) (hk : Kept (fun _ => False) (w5.alloc o) w6) (h : (s7 = s5 ∧ y.ws = x.ws) ∨ NewW (w5.alloc o).heap.size w6 s7 c7 y.ws) (hE : Kept (fun k => k = w5.heap.size) w6 WE) : InW WE y s7 := by
  rcases h with ⟨rfl, e⟩ | h
  · have h1 : ElB w5.heap.size w5 s7 x.ws := ⟨Nat.le_refl _, hN.el⟩
    have h2 := ((h1.kept0 ((Kept.refl _ w5).alloc o)).kept0 hk).keptS hE (fun q hq e => by omega)
    have := h2.inW (x := x)
    unfold InW at this ⊢
    rw [e]
    exact this
  · exact (h.kept hE (fun g hg e => by simp at hg; omega)).el

set_option maxHeartbeats 16000000 in
set_option maxRecDepth 100000 in
theorem not_light {bk bn : Int} {bf : Bool} {x : Th} {s : Option Addr} {c : Nat} {t k v ok oo on ow : Int} {ob : Bool} {w : World} (HE0 : Hid (InW w x s)) (HL : Hid (lightM x = false)) : Calls Try.prog 3 #[.agg #[.int .i64 bk, .bool bf, .int .i64 bn], x.agg s c, .int .i64 t, .agg #[.int .i64 k, .int .i64 v], opAgg ok oo on ow ob] w fun e w' => e = .returned (.bool true) ∧ Below w.heap.size w w' := by
  obtain ⟨W1, W2, W3, W4, hW1, hW2, hW3, hW4, z1, z2, z3, hB⟩ := boxesD_new (bk := bk) (bn := bn) (bf := bf) (k := k) (v := v) (ok := ok) (oo := oo) (on := on) (ow := ow) (ob := ob) (c := c) HE0.out
  have HB0 := Lib.hid hB
  clear hB
  go_enter Try.func3, Try.ntmps3
  go_wp2_with fail
  refine (up_any _).mono ?_
  rintro e w1 ⟨rfl, hk1⟩
  have HB1 := Lib.hid (HB0.out.on hk1)
  clear hk1 hW1 hW2 hW3 hW4 z1 z2 z3
  have hT := HB1.out.fx
  go_wp2_with (first | refine wpList_loadT (by rfl) (by rfl) (by rfl) (by assumption) ?_)
  refine (light_any x s c _ _ HL.out).mono ?_
  rintro e w2 ⟨rfl, hk2⟩
  have HB2 := Lib.hid (HB1.out.on hk2)
  clear hk2 hT
  go_wp2_with fail
  go_ret
  exact ⟨rfl, HB2.out.kept.below (Nat.le_refl _) (fun _ f => f.elim)⟩

set_option maxHeartbeats 16000000 in
set_option maxRecDepth 100000 in
theorem is_light {bk bn : Int} {bf : Bool} {x : Th} {s : Option Addr} {c : Nat} {t k v ok oo on ow : Int} {ob : Bool} {w : World} (HE0 : Hid (InW w x s)) (HL : Hid (lightM x = true)) (HF : Hid (Fit x)) (v0 : -9223372036854775808 ≤ v) (v1 : v ≤ 9223372036854775807) (n0 : -9223372036854775808 ≤ on) (n1 : on ≤ 9223372036854775807) (HY3 : Hid ((doM x t k v).ws.length ≤ 200)) : Calls Try.prog 3 #[.agg #[.int .i64 bk, .bool bf, .int .i64 bn], x.agg s c, .int .i64 t, .agg #[.int .i64 k, .int .i64 v], opAgg ok oo on ow ob] w fun e w' => e = .returned (.bool true) ∧ Below w.heap.size w w' := by
  obtain ⟨y, hy⟩ : ∃ y, doM x t k v = y := ⟨_, rfl⟩
  obtain ⟨r, hr⟩ : ∃ r, mayM x t k v = r := ⟨_, rfl⟩
  obtain ⟨r2, hr2⟩ : ∃ r, canM x t ok on = r := ⟨_, rfl⟩
  have hy3 := HY3.out
  rw [hy] at hy3
  clear HY3
  have HY3 := Lib.hid hy3
  have HNW : Hid (∀ w', Calls Try.prog 12 #[.agg #[.int .i64 bk, .bool bf, .int .i64 bn]] w' fun e w'' => e = .returned ((newM bk bn).agg none 0) ∧ Kept (fun _ => False) w' w'') := Lib.hid (fun w' => new_any bk bn bf w')
  have HNR : Hid (∀ w', Calls Try.prog 13 #[.agg #[.int .i64 bk, .bool bf, .int .i64 bn]] w' fun e w'' => e = .returned ((newM bk bn).agg none 0) ∧ Kept (fun _ => False) w' w'') := Lib.hid (fun w' => newR_any bk bn bf w')
  have HSN : Hid (∀ w', Calls Try.prog 11 #[(newM bk bn).agg none 0, (newM bk bn).agg none 0] w' fun e w'' => e = .returned (.bool true) ∧ Kept (fun _ => False) w' w'') := Lib.hid (fun w' => same_any (newM bk bn) (newM bk bn) none none 0 0 w' (inW_nil rfl none) (inW_nil rfl none) (Nat.zero_le _) true (sameM_refl _))
  have HD : Hid (∀ w', InW w' x s → Calls Try.prog 14 #[x.agg s c, .int .i64 t, .agg #[.int .i64 k, .int .i64 v]] w' (Told w' y r)) := Lib.hid (fun w' hi => by
    have h := do_any x t k v s c w' HF.out hi v0 v1
    rw [hy, hr] at h
    exact h)
  have HCP : Hid (∀ w', InW w' x s → Calls Try.prog 16 #[x.agg s c] w' (Copied w' x)) := Lib.hid (fun w' hi => copyR_any x s c w' (by have := HF.out.ws; omega) hi)
  have HDR : Hid (∀ w' s c, InW w' x s → Calls Try.prog 15 #[x.agg s c, .int .i64 t, .agg #[.int .i64 k, .int .i64 v]] w' (SaidB w' s x.ws y r)) := Lib.hid (fun w' s c hi => by
    have h := rdo_any x t k v s c w' HF.out hi
    rw [hy, hr] at h
    exact h)
  have HSY : Hid (∀ w' s c s' c', InW w' y s → InW w' y s' → Calls Try.prog 11 #[y.agg s c, y.agg s' c'] w' fun e w'' => e = .returned (.bool true) ∧ Kept (fun _ => False) w' w'') := Lib.hid (fun w' s c s' c' h1 h2 => same_any y y s s' c c' w' h1 h2 (by have := HY3.out; omega) true (sameM_refl y))
  have HCN : Hid (∀ w', InW w' x s → Calls Try.prog 17 #[x.agg s c, .int .i64 t, opAgg ok oo on ow ob] w' fun e w'' => e = .returned (.bool r2) ∧ Kept (fun _ => False) w' w'') := Lib.hid (fun w' hi => can_any x t ok oo on ow ob s c w' HF.out hi n0 n1 r2 hr2)
  have HCR : Hid (∀ w', InW w' x s → Calls Try.prog 18 #[x.agg s c, .int .i64 t, opAgg ok oo on ow ob] w' fun e w'' => e = .returned (.bool r2) ∧ Kept (fun _ => False) w' w'') := Lib.hid (fun w' hi => canR_any x t ok oo on ow ob s c w' HF.out hi r2 hr2)
  have hrr : (r != r) = false := by cases r <;> rfl
  clear hy hr hr2 hy3 v0 v1 n0 n1
  obtain ⟨W1, W2, W3, W4, hW1, hW2, hW3, hW4, z1, z2, z3, hB⟩ := boxesD_new (bk := bk) (bn := bn) (bf := bf) (k := k) (v := v) (ok := ok) (oo := oo) (on := on) (ow := ow) (ob := ob) (c := c) HE0.out
  have HB0 := Lib.hid hB
  clear hB
  go_enter Try.func3, Try.ntmps3
  go_wp2_with fail
  refine (up_any _).mono ?_
  rintro e w1 ⟨rfl, hk1⟩
  have HB1 := Lib.hid (HB0.out.on hk1)
  clear hk1 hW1 hW2 hW3 hW4 z1 z2 z3
  have hT := HB1.out.fx
  go_wp2_with (first | refine wpList_loadT (by rfl) (by rfl) (by rfl) (by assumption) ?_)
  refine (light_any x s c _ _ HL.out).mono ?_
  rintro e w2 ⟨rfl, hk2⟩
  have HB2 := Lib.hid (HB1.out.on hk2)
  clear hk2 hT
  have SF : Hid (∀ w', Kept (fun _ => False) w2 w' → (fun w' => w'.cell? ⟨w.heap.size, 0, none⟩ = some (.int .i64 bk) ∧ w'.cell? ⟨w.heap.size, 1, none⟩ = some (.bool bf) ∧ w'.cell? ⟨w.heap.size, 2, none⟩ = some (.int .i64 bn)) w') := Lib.hid (fun w' hk => by exact ⟨by rw [cell_at w' _ _ _ _ (hk.at0 HB2.out.fo)]; rfl, by rw [cell_at w' _ _ _ _ (hk.at0 HB2.out.fo)]; rfl, by rw [cell_at w' _ _ _ _ (hk.at0 HB2.out.fo)]; rfl⟩)
  go_upto_region 5 with fail
  go_cut [28] (fun cnd wx => cnd = .bool false ∧ Kept (fun _ => False) w2 wx)
  case first =>
    go_region_held3 (fun w' => w'.cell? ⟨w.heap.size, 0, none⟩ = some (.int .i64 bk) ∧ w'.cell? ⟨w.heap.size, 1, none⟩ = some (.bool bf) ∧ w'.cell? ⟨w.heap.size, 2, none⟩ = some (.int .i64 bn)) (first | exact SF.out _ (Kept.refl _ _) | exact SF.out _ (Kept.refl _ _).drew | exact SF.out _ HA | exact SF.out _ HB | exact SF.out _ HC)
      (first
        | (go_at_call 12; refine (HNW.out _).mono ?_; rintro e w3 ⟨rfl, hk3⟩; first | (have HA : Kept (fun _ => False) w2 w3 := Kept.drewL hk3) | (have HA : Kept (fun _ => False) w2 w3 := HB.tr0 hk3))
        | (go_at_call 13; refine (HNR.out _).mono ?_; rintro e w4 ⟨rfl, hk4⟩; first | (have HB : Kept (fun _ => False) w2 w4 := Kept.drewL hk4) | (have HB : Kept (fun _ => False) w2 w4 := HA.tr0 hk4))
        | (go_at_call 11; refine (HSN.out _).mono ?_; rintro e w5 ⟨rfl, hk5⟩; first | (have HC : Kept (fun _ => False) w2 w5 := HA.tr0 hk5) | (have HC : Kept (fun _ => False) w2 w5 := HB.tr0 hk5)))
    all_goals
      have HCC := Lib.hid HC
      clear HA HB HC hk3 hk4 hk5
      go_wp2_with fail
      go_meet
      exact ⟨rfl, HCC.out⟩
  case rest =>
    obtain ⟨hcnd, hkc⟩ := hcut
    subst hcnd
    obtain ⟨w3, hw3⟩ : ∃ z, z = wc := ⟨_, rfl⟩
    subst hw3
    have HB3 := Lib.hid (HB2.out.on hkc)
    clear hkc SF
    have hT := HB3.out.fx
    obtain ⟨_, _⟩ := HB3.out.fn.cells
    go_wp2_with (first | refine wpList_loadT (by rfl) (by rfl) (by rfl) (by assumption) ?_)
    refine (HD.out _ HB3.out.fi).mono ?_
    rintro e w4 ⟨s6, c6, rfl, hN4, hk4⟩
    have HB4 := Lib.hid (HB3.out.on hk4)
    have HN4 := Lib.hid hN4
    clear hk4 hN4 hT
    go_upto_region 8 with (first | refine wpList_loadT (by rfl) (by rfl) (by rfl) (by assumption) ?_ | (refine wpList_storeT (by rfl) (by rfl) (by rfl) (by rfl) (BoxT.fresh _) ?_; intro WS hBS hKS))
    have HB5 := Lib.hid (HB4.out.on (belF0 (Kept.refl _ w4) hKS))
    have HY5 : Hid (BoxT WS w4.heap.size y s6 c6) := Lib.hid hBS
    have HI5 : Hid (InW WS y s6) := Lib.hid (new_behind HN4.out hKS)
    clear hBS hKS
    have SF : Hid (∀ w', Kept (fun _ => False) WS w' → (fun w' => w'.cell? ⟨w.heap.size + 1, 0, none⟩ = some (.int .i64 x.kind) ∧ w'.cell? ⟨w.heap.size + 1, 1, none⟩ = some (.int .i64 x.n) ∧ w'.cell? ⟨w.heap.size + 1, 2, none⟩ = some (.int .i64 x.owner) ∧ w'.cell? ⟨w.heap.size + 1, 3, none⟩ = some (.int .i64 x.holds) ∧ w'.cell? ⟨w.heap.size + 1, 4, none⟩ = some (.int .i64 (x.r 0)) ∧ w'.cell? ⟨w.heap.size + 1, 5, none⟩ = some (.int .i64 (x.r 1)) ∧ w'.cell? ⟨w.heap.size + 1, 6, none⟩ = some (.int .i64 (x.r 2)) ∧ w'.cell? ⟨w.heap.size + 1, 7, none⟩ = some (.int .i64 (x.r 3)) ∧ w'.cell? ⟨w.heap.size + 1, 8, none⟩ = some (.int .i64 (x.r 4)) ∧ w'.cell? ⟨w.heap.size + 1, 9, none⟩ = some (.int .i64 (x.r 5)) ∧ w'.cell? ⟨w.heap.size + 1, 10, none⟩ = some (.int .i64 (x.r 6)) ∧ w'.cell? ⟨w.heap.size + 1, 11, none⟩ = some (.int .i64 (x.r 7)) ∧ w'.cell? ⟨w.heap.size + 1, 12, none⟩ = some (.slice s x.ws.length c) ∧ w'.cell? ⟨w.heap.size + 1, 13, none⟩ = some (.int .i64 x.offer) ∧ w'.cell? ⟨w.heap.size + 1, 14, none⟩ = some (.int .i64 x.item) ∧ w'.cell? ⟨w.heap.size + 2, 0, none⟩ = some (.int .i64 k) ∧ w'.cell? ⟨w.heap.size + 2, 1, none⟩ = some (.int .i64 v)) w') := Lib.hid (fun w' hk => by have h := (HB5.out.fx.kept0 hk).cells; have hn := (HB5.out.fn.kept0 hk).cells; exact ⟨h.c0, h.c1, h.c2, h.c3, h.c4, h.c5, h.c6, h.c7, h.c8, h.c9, h.c10, h.c11, h.c12, h.c13, h.c14, hn.1, hn.2⟩)
    go_cut [15, 16] (fun p bb wx => ∃ b15 s7 c7, p = .pointer (some ⟨b15, 0, none⟩) ∧ bb = .bool r ∧ BoxT wx b15 y s7 c7 ∧ InW wx y s7 ∧ Kept (fun _ => False) WS wx)
    case first =>
      go_region_held3 (fun w' => w'.cell? ⟨w.heap.size + 1, 0, none⟩ = some (.int .i64 x.kind) ∧ w'.cell? ⟨w.heap.size + 1, 1, none⟩ = some (.int .i64 x.n) ∧ w'.cell? ⟨w.heap.size + 1, 2, none⟩ = some (.int .i64 x.owner) ∧ w'.cell? ⟨w.heap.size + 1, 3, none⟩ = some (.int .i64 x.holds) ∧ w'.cell? ⟨w.heap.size + 1, 4, none⟩ = some (.int .i64 (x.r 0)) ∧ w'.cell? ⟨w.heap.size + 1, 5, none⟩ = some (.int .i64 (x.r 1)) ∧ w'.cell? ⟨w.heap.size + 1, 6, none⟩ = some (.int .i64 (x.r 2)) ∧ w'.cell? ⟨w.heap.size + 1, 7, none⟩ = some (.int .i64 (x.r 3)) ∧ w'.cell? ⟨w.heap.size + 1, 8, none⟩ = some (.int .i64 (x.r 4)) ∧ w'.cell? ⟨w.heap.size + 1, 9, none⟩ = some (.int .i64 (x.r 5)) ∧ w'.cell? ⟨w.heap.size + 1, 10, none⟩ = some (.int .i64 (x.r 6)) ∧ w'.cell? ⟨w.heap.size + 1, 11, none⟩ = some (.int .i64 (x.r 7)) ∧ w'.cell? ⟨w.heap.size + 1, 12, none⟩ = some (.slice s x.ws.length c) ∧ w'.cell? ⟨w.heap.size + 1, 13, none⟩ = some (.int .i64 x.offer) ∧ w'.cell? ⟨w.heap.size + 1, 14, none⟩ = some (.int .i64 x.item) ∧ w'.cell? ⟨w.heap.size + 2, 0, none⟩ = some (.int .i64 k) ∧ w'.cell? ⟨w.heap.size + 2, 1, none⟩ = some (.int .i64 v)) (first | exact SF.out _ (Kept.refl _ _) | exact SF.out _ (Kept.refl _ _).drew | exact SF.out _ ((Kept.refl _ _).drew.alloc _) | exact SF.out _ hAW | exact SF.out _ H6 | exact SF.out _ (H6.alloc _) | exact SF.out _ H5 | exact SF.out _ (H5.alloc _))
      (first
        | (go_at_call 16; refine (HCP.out _ (by first | exact HB5.out.fi.kept0 (Kept.refl _ _).drew | exact HB5.out.fi.kept0 ((Kept.refl _ _).drew.alloc _))).mono ?_; rintro e w5 ⟨s5, c5, rfl, hN5, hk5⟩; first | (have hz5 : BoxT w5 WS.heap.size ⟨0, 0, 0, 0, fun _ => 0, [], 0, 0⟩ none 0 := (BoxT.fresh WS.drew).kept0 hk5; have H5 : Kept (fun _ => False) WS w5 := ((Kept.refl (fun _ => False) WS).drew.alloc _).tr0 hk5; have hN6 : NewW (WS.heap.size + 1) w5 s5 c5 x.ws := hN5.since (by simp)) | (have H5 : Kept (fun _ => False) WS w5 := Kept.drewL hk5))
        | (go_at_call 15; refine (HDR.out _ _ _ (by first | exact hN5.el | exact InW.kept0 (x := x) (show InW w5 x s5 from hN5.el) ((Kept.refl _ _).alloc _))).mono ?_; rintro e w6 ⟨s7, c7, rfl, hsrc, hk6⟩; first | (have hz := hz5.kept0 hk6; have H6 : Kept (fun _ => False) WS w6 := H5.tr0 hk6; obtain ⟨_, _, _, _, _, _, _, _, _, _, _, _, _, _, _⟩ := hz.cells; obtain ⟨_, _, _, _, _, _, _, _, _, _, _, _, _, _, _⟩ := hz.frees; obtain ⟨WE, hWE, hBS2, hKE⟩ := hz.put y s7 c7; have hAW : Kept (fun _ => False) WS WE := ahead_of H6 (Nat.le_refl _) hKE; have hAI : InW WE y s7 := said_off hN6 hk6 hsrc hKE ⟨Nat.lt_succ_self _, hz5.lt⟩; clear hz hKE) | (have hz : BoxT w6 w5.heap.size ⟨0, 0, 0, 0, fun _ => 0, [], 0, 0⟩ none 0 := (BoxT.fresh w5).kept0 hk6; have H6 : Kept (fun _ => False) WS w6 := (H5.alloc _).tr0 hk6; obtain ⟨_, _, _, _, _, _, _, _, _, _, _, _, _, _, _⟩ := hz.cells; obtain ⟨_, _, _, _, _, _, _, _, _, _, _, _, _, _, _⟩ := hz.frees; obtain ⟨WE, hWE, hBS2, hKE⟩ := hz.put y s7 c7; have hAW : Kept (fun _ => False) WS WE := ahead_of H6 H5.size hKE; have hAI : InW WE y s7 := said_mid hN5 hk6 hsrc hKE; clear hz hKE) | (have H6 : Kept (fun _ => False) WS w6 := H5.tr0 hk6; have hAW : Kept (fun _ => False) WS (w6.alloc (.cells (y.box s7 c7) 27)) := H6.alloc _; have hBS2 := BoxT.new w6 y s7 c7; have hAI : InW (w6.alloc (.cells (y.box s7 c7) 27)) y s7 := (SaidB.inw (x := x) (y := y) hN5.el hk6 hsrc).kept0 ((Kept.refl _ w6).alloc _))))
      all_goals
        have HFIN := Lib.hid (And.intro hBS2 (And.intro hAI hAW))
        clear hBS2 hAI hAW
        go_wp2_with fail
        go_meet
        exact ⟨_, _, _, rfl, rfl, HFIN.out.1, HFIN.out.2.1, HFIN.out.2.2⟩
    case rest =>
      obtain ⟨b15, s7, c7, hp, hbb, hB15, hI15, hkc⟩ := hcut
      subst hp
      subst hbb
      obtain ⟨w6, hw6⟩ : ∃ z, z = wc := ⟨_, rfl⟩
      subst hw6
      have HB6 := Lib.hid (HB5.out.on hkc)
      have hY6 := HY5.out.kept0 hkc
      have HI6 := Lib.hid (HI5.out.kept0 hkc)
      have HI7 := Lib.hid hI15
      clear hkc hI15 SF
      go_wp2_with (first | refine wpList_loadT (by rfl) (by rfl) (by rfl) (by assumption) ?_)
      refine (HSY.out _ _ _ _ _ HI6.out HI7.out).mono ?_
      rintro e w7 ⟨rfl, hk7⟩
      have HB7 := Lib.hid (HB6.out.on hk7)
      clear hk7 hY6 hB15
      have SF : Hid (∀ w', Kept (fun _ => False) w7 w' → (fun w' => w'.cell? ⟨w.heap.size + 1, 0, none⟩ = some (.int .i64 x.kind) ∧ w'.cell? ⟨w.heap.size + 1, 1, none⟩ = some (.int .i64 x.n) ∧ w'.cell? ⟨w.heap.size + 1, 2, none⟩ = some (.int .i64 x.owner) ∧ w'.cell? ⟨w.heap.size + 1, 3, none⟩ = some (.int .i64 x.holds) ∧ w'.cell? ⟨w.heap.size + 1, 4, none⟩ = some (.int .i64 (x.r 0)) ∧ w'.cell? ⟨w.heap.size + 1, 5, none⟩ = some (.int .i64 (x.r 1)) ∧ w'.cell? ⟨w.heap.size + 1, 6, none⟩ = some (.int .i64 (x.r 2)) ∧ w'.cell? ⟨w.heap.size + 1, 7, none⟩ = some (.int .i64 (x.r 3)) ∧ w'.cell? ⟨w.heap.size + 1, 8, none⟩ = some (.int .i64 (x.r 4)) ∧ w'.cell? ⟨w.heap.size + 1, 9, none⟩ = some (.int .i64 (x.r 5)) ∧ w'.cell? ⟨w.heap.size + 1, 10, none⟩ = some (.int .i64 (x.r 6)) ∧ w'.cell? ⟨w.heap.size + 1, 11, none⟩ = some (.int .i64 (x.r 7)) ∧ w'.cell? ⟨w.heap.size + 1, 12, none⟩ = some (.slice s x.ws.length c) ∧ w'.cell? ⟨w.heap.size + 1, 13, none⟩ = some (.int .i64 x.offer) ∧ w'.cell? ⟨w.heap.size + 1, 14, none⟩ = some (.int .i64 x.item) ∧ w'.cell? ⟨w.heap.size + 3, 0, none⟩ = some (.int .i64 ok) ∧ w'.cell? ⟨w.heap.size + 3, 1, none⟩ = some (.int .i64 oo) ∧ w'.cell? ⟨w.heap.size + 3, 2, none⟩ = some (.int .i64 on) ∧ w'.cell? ⟨w.heap.size + 3, 3, none⟩ = some (.int .i64 ow) ∧ w'.cell? ⟨w.heap.size + 3, 4, none⟩ = some (.bool ob)) w') := Lib.hid (fun w' hk => by have h := (HB7.out.fx.kept0 hk).cells; have hp := op_cells (hk.at0 HB7.out.fp); exact ⟨h.c0, h.c1, h.c2, h.c3, h.c4, h.c5, h.c6, h.c7, h.c8, h.c9, h.c10, h.c11, h.c12, h.c13, h.c14, hp⟩)
      go_upto_region 11 with fail
      go_cut [10] (fun z wx => z = .bool true ∧ Kept (fun _ => False) w7 wx)
      case first =>
        go_region_held3 (fun w' => w'.cell? ⟨w.heap.size + 1, 0, none⟩ = some (.int .i64 x.kind) ∧ w'.cell? ⟨w.heap.size + 1, 1, none⟩ = some (.int .i64 x.n) ∧ w'.cell? ⟨w.heap.size + 1, 2, none⟩ = some (.int .i64 x.owner) ∧ w'.cell? ⟨w.heap.size + 1, 3, none⟩ = some (.int .i64 x.holds) ∧ w'.cell? ⟨w.heap.size + 1, 4, none⟩ = some (.int .i64 (x.r 0)) ∧ w'.cell? ⟨w.heap.size + 1, 5, none⟩ = some (.int .i64 (x.r 1)) ∧ w'.cell? ⟨w.heap.size + 1, 6, none⟩ = some (.int .i64 (x.r 2)) ∧ w'.cell? ⟨w.heap.size + 1, 7, none⟩ = some (.int .i64 (x.r 3)) ∧ w'.cell? ⟨w.heap.size + 1, 8, none⟩ = some (.int .i64 (x.r 4)) ∧ w'.cell? ⟨w.heap.size + 1, 9, none⟩ = some (.int .i64 (x.r 5)) ∧ w'.cell? ⟨w.heap.size + 1, 10, none⟩ = some (.int .i64 (x.r 6)) ∧ w'.cell? ⟨w.heap.size + 1, 11, none⟩ = some (.int .i64 (x.r 7)) ∧ w'.cell? ⟨w.heap.size + 1, 12, none⟩ = some (.slice s x.ws.length c) ∧ w'.cell? ⟨w.heap.size + 1, 13, none⟩ = some (.int .i64 x.offer) ∧ w'.cell? ⟨w.heap.size + 1, 14, none⟩ = some (.int .i64 x.item) ∧ w'.cell? ⟨w.heap.size + 3, 0, none⟩ = some (.int .i64 ok) ∧ w'.cell? ⟨w.heap.size + 3, 1, none⟩ = some (.int .i64 oo) ∧ w'.cell? ⟨w.heap.size + 3, 2, none⟩ = some (.int .i64 on) ∧ w'.cell? ⟨w.heap.size + 3, 3, none⟩ = some (.int .i64 ow) ∧ w'.cell? ⟨w.heap.size + 3, 4, none⟩ = some (.bool ob)) (first | exact SF.out _ (Kept.refl _ _) | exact SF.out _ (Kept.refl _ _).drew | exact SF.out _ HA | exact SF.out _ HB)
        (first
          | (go_at_call 17; refine (HCN.out _ (by first | exact HB7.out.fi.kept0 (Kept.refl _ _).drew | exact HB7.out.fi.kept0 HB)).mono ?_; rintro e w8 ⟨rfl, hk8⟩; (first | (have HA : Kept (fun _ => False) w7 w8 := Kept.drewL hk8) | (have HA : Kept (fun _ => False) w7 w8 := HB.tr0 hk8)); have HC := HA)
          | (go_at_call 18; refine (HCR.out _ (by first | exact HB7.out.fi.kept0 (Kept.refl _ _).drew | exact HB7.out.fi.kept0 HA)).mono ?_; rintro e w9 ⟨rfl, hk9⟩; (first | (have HB : Kept (fun _ => False) w7 w9 := Kept.drewL hk9) | (have HB : Kept (fun _ => False) w7 w9 := HA.tr0 hk9)); have HC := HB))
        all_goals
          have HCC := Lib.hid HC
          clear HA HB HC
          go_wp2_with fail
          go_meet
          exact ⟨rfl, HCC.out⟩
      case rest =>
        obtain ⟨hz, hkc⟩ := hcut
        subst hz
        have HFN := Lib.hid ((HB7.out.kept.tr0 hkc).below (Nat.le_refl _) (fun _ f => f.elim))
        clear hkc SF
        go_wp2_with fail
        go_ret
        exact ⟨rfl, HFN.out⟩

theorem walk (bk bn : Int) (bf : Bool) (x : Th) (s : Option Addr) (c : Nat) (t k v ok oo on ow : Int) (ob : Bool) (w : World) (hE : InW w x s) (hok : ThOk x) (v0 : -9223372036854775808 ≤ v) (v1 : v ≤ 9223372036854775807) (n0 : -9223372036854775808 ≤ on) (n1 : on ≤ 9223372036854775807) : Calls Try.prog 3 #[.agg #[.int .i64 bk, .bool bf, .int .i64 bn], x.agg s c, .int .i64 t, .agg #[.int .i64 k, .int .i64 v], opAgg ok oo on ow ob] w fun e w' => e = .returned (.bool true) ∧ Below w.heap.size w w' := by
  cases h : lightM x with
  | false => exact not_light (Lib.hid hE) (Lib.hid h)
  | true =>
    have hlf := light_fit h hok.o0 hok.o1 hok.t0 hok.t1
    exact is_light (Lib.hid hE) (Lib.hid h) (Lib.hid hlf.1) v0 v1 n0 n1 (Lib.hid (do_len x t k v hlf.2.1))

theorem own : ownKnob Try.prog.godebug = none := by kernel_rfl
theorem laidOut : laidOutB Try.prog = true := by kernel_rfl

set_option maxRecDepth 100000 in
theorem lifted (os : Os) (started : os.Started) (H : Type) (enc : TypeId × Value → H) :
    ReturnsInHanded {} Try.checked os 3 .any (Rows.modelDoesSpec.pre6 enc Try.prog Try.f3 Rows.modelDoesRow.domain false) (Rows.modelDoesSpec.post enc Try.prog Try.f3 false true false false) := by
  refine returnsInHanded_of_change (C := Try.checked) own started (by kernel_rfl) Try.func3
    (ChangeSpec.witness6 (enc := enc) (C := Try.checked) false ⟨#[], #[.agg #[.int .i64 0, .bool false, .int .i64 0], .agg #[.int .i64 0, .int .i64 0, .int .i64 0, .int .i64 0, .int .i64 0, .int .i64 0, .int .i64 0, .int .i64 0, .int .i64 0, .int .i64 0, .int .i64 0, .int .i64 0, .slice none 0 0, .int .i64 0, .int .i64 0], .int .i64 0, .agg #[.int .i64 0, .int .i64 0], .agg #[.int .i64 0, .int .i64 0, .int .i64 0, .int .i64 0, .bool false]], []⟩ 8 (by kernel_rfl) (by kernel_rfl) (by kernel_rfl) (by kernel_rfl)) ?_
  intro W base args ds gs before hval0 hW hcnd _
  have hval : ∀ (j : Nat) t v, Try.f3.params[j]? = some t → args[j]? = some v → Value.okWide Try.prog W .any base t v := hval0
  have hW' := hW
  obtain ⟨p, q, hA0, hV, rfl, hfz, hnd⟩ := hW
  have hA : DataW.TrodAll enc Try.prog W 0 (fun _ => true) true Try.f3.params.toList args.toList ds p := hA0
  rw [Try.params3] at hA hval
  obtain ⟨v0, vs0, d0, ds0, p0, q0, hargs, rfl, rfl, h0, r0⟩ := trodAll_cons hA
  obtain ⟨v1, vs1, d1, ds1, p1, q1, rfl, rfl, rfl, h1, r1⟩ := trodAll_cons r0
  obtain ⟨v2, vs2, d2, ds2, p2, q2, rfl, rfl, rfl, h2, r2⟩ := trodAll_cons r1
  obtain ⟨v3, vs3, d3, ds3, p3, q3, rfl, rfl, rfl, h3, r3⟩ := trodAll_cons r2
  obtain ⟨v4, vs4, d4, ds4, p4, q4, rfl, rfl, rfl, h4, r4⟩ := trodAll_cons r3
  obtain ⟨rfl, rfl, rfl⟩ := trodAll_nil r4
  obtain rfl : args = #[v0, v1, v2, v3, v4] := by cases args; simp_all
  obtain ⟨rfl, rfl⟩ := trodVars_none hV
  have k0 := h0
  have lt0 : ∀ x ∈ p0, x.block < W.heap.size := by obtain ⟨m, hm⟩ := k0; exact DataW.trod_lt m _ _ _ hm
  obtain ⟨bk0, bf0, bn0, rfl⟩ := object_of (okWide_struct Try.underlying23 (hval 0 23 v0 rfl rfl)) k0
  have k1 := h1
  have lt1 : ∀ x ∈ p1, x.block < W.heap.size := by obtain ⟨m, hm⟩ := k1; exact DataW.trod_lt m _ _ _ hm
  obtain ⟨x1, s1, c1, rfl, hx1, hok1⟩ := th_of (okWide_struct Try.underlying27 (hval 1 27 v1 rfl rfl)) k1
  obtain ⟨a2, rfl, rfl, rfl, w2⟩ := open_int Try.underlying3 (hval 2 3 v2 rfl rfl) h2
  have k3 := h3
  have lt3 : ∀ x ∈ p3, x.block < W.heap.size := by obtain ⟨m, hm⟩ := k3; exact DataW.trod_lt m _ _ _ hm
  obtain ⟨nk3, nv3, rfl, hn3⟩ := note_of (okWide_struct Try.underlying29 (hval 3 29 v3 rfl rfl)) k3
  have k4 := h4
  have lt4 : ∀ x ∈ p4, x.block < W.heap.size := by obtain ⟨m, hm⟩ := k4; exact DataW.trod_lt m _ _ _ hm
  obtain ⟨ok4, oo4, on4, ow4, ob4, rfl, hq4⟩ := op_of (okWide_struct Try.underlying31 (hval 4 31 v4 rfl rfl)) k4
  clear hA0 hval0
  refine (walk bk0 bn0 bf0 x1 s1 c1 a2 nk3 nv3 ok4 oo4 on4 ow4 ob4 W hx1 hok1 hn3.1 hn3.2 hq4.1 hq4.2).mono fun e W' ⟨he, bel⟩ => ?_
  subst he
  exact ⟨_, rfl, _, _, _, [], _, [], hW', trodAll_mk1 (shut_bool Try.underlying4 _), (trodAll_cons_mk (Below.trod laidOut (by kernel_rfl) (of_decide_eq_true (by kernel_rfl)) k0 bel lt0) (trodAll_cons_mk (Below.trod laidOut (by kernel_rfl) (of_decide_eq_true (by kernel_rfl)) k1 bel lt1) (trodAll_cons_mk (shut_int Try.underlying3 w2) (trodAll_cons_mk (Below.trod laidOut (by kernel_rfl) (of_decide_eq_true (by kernel_rfl)) k3 bel lt3) (trodAll_cons_mk (Below.trod laidOut (by kernel_rfl) (of_decide_eq_true (by kernel_rfl)) k4 bel lt4) trodAll_mk0))))), rfl, bel.frame _, fun h => by cases h⟩

theorem over : Rows.modelDoesRow.holds Try.pinned (OpenSpec.ofChange Rows.modelDoesSpec) :=
  OpenClaim.holds_of_wide 3 Try.f3 rfl rfl rfl rfl rfl rfl rfl ⟨rfl, rfl, rfl, rfl, rfl⟩ rfl rfl rfl rfl rfl (by kernel_rfl) Try.func3 (by kernel_rfl)
    (of_decide_eq_true (by kernel_rfl)) (by unfold Func.isWrapper; first | (rw [if_pos (by decide +kernel)]; kernel_rfl) | (rw [if_neg (by decide +kernel)]; exact ⟨rfl, rfl⟩))
    (fun os started H enc _ => lifted os started H enc)

end modelDoes
/-- The statement. -/
theorem modelDoes_holds : Rows.ModelDoesSaid := modelDoes.over
end Go.Proofs.Ythjblniabnjfhaa
