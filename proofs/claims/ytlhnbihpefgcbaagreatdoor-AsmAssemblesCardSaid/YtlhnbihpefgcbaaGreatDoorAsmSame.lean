/-
  What the statements' comparisons of codes and of labels come to; how short texts are.
  Conditions: the rows are at most maxLen.
-/
import Derived.Test.YtlhnbihpefgcbaaGreatDoorAsmMem
import Derived.Test.YtlhnbihpefgcbaaGreatDoorLineEq
import Derived.Test.YtlhnbihpefgcbaaGreatDoorLineSplit
import Derived.Test.YtlhnbihpefgcbaaGreatDoorAsmLines
namespace Go.Proofs.YtlhnbihpefgcbaaGreatDoor
open Go.RowKit

/-- An instruction without its names. -/
def noT (x : Ln) : Int × Int × Int × Int × Int := (x.op, x.a, x.b, x.c, x.n)
theorem neq_ins (x y : Ln) (w : World) : (binOp .neq 43 (insV x.op x.a x.b x.c x.n) (insV y.op y.a y.b y.c y.n)).run Tryz.prog w = .ok (.bool (!decide (noT x = noT y))) w := by
  have h := run_eql_ins x.op x.a x.b x.c x.n y.op y.a y.b y.c y.n w
  have e : decide (noT x = noT y) = decide (x.op = y.op ∧ x.a = y.a ∧ x.b = y.b ∧ x.c = y.c ∧ x.n = y.n) := by
    unfold noT
    simp only [Prod.mk.injEq]
  rw [e]
  simp only [binOp] at h ⊢
  simp only [Sem.run_bind, Sem.run_pure] at h ⊢
  cases hr : (Op.equal 43 (insV x.op x.a x.b x.c x.n) (insV y.op y.a y.b y.c y.n)).run Tryz.prog w with
  | ok b w' => rw [hr] at h; simp [Result.andThen] at h ⊢; exact ⟨h.1, h.2⟩
  | halt x w' => rw [hr] at h; simp [Result.andThen] at h

set_option maxRecDepth 100000 in
set_option maxHeartbeats 4000000 in
theorem refSame_any {xs ys : List Ln} {sa sb : Option Addr} {ca cb n k B C : Nat} (w : World) (hx : Elems w B sa 5 insC xs) (hy : Elems w C sb 5 insC ys) (hn : xs.length = n) (hk : ys.length = k) {r : Bool} (hr : decide (xs.map noT = ys.map noT) = r) :
    Calls Tryz.prog 12 #[.slice sa n ca, .slice sb k cb] w fun e w' => e = .returned (.bool r) ∧ Kept (fun _ => False) w w' := by
  have HX := Lib.hid hx
  have HY := Lib.hid hy
  have HN := Lib.hid hn
  have HKL := Lib.hid hk
  have HR := Lib.hid hr
  have hn63 : (n : Int) ≤ 9223372036854775807 := by have := hx.1; rw [hn] at this; unfold maxLen at this; omega
  by_cases hnk : n = k
  case neg =>
    have q : ((n : Int) == (k : Int)) = false := by rw [beq_eq_false_iff_ne]; omega
    obtain rfl : r = false := by
      rw [← hr, decide_eq_false_iff_not]
      intro e
      have := congrArg List.length e
      rw [List.length_map, List.length_map] at this
      omega
    clear hx hy hn hk hr hnk
    go_enter Tryz.func12, Tryz.ntmps12
    go_wp2_with fail
    go_ret
    exact ⟨rfl, Kept.refl _ _⟩
  subst hnk
  clear hx hy hn hk hr
  go_enter Tryz.func12, Tryz.ntmps12
  go_wp2_with fail
  go_loopw [5] (fun i wr => ∃ i' : Nat, i = .int .i64 i' ∧ i' ≤ n ∧ (∃ d, wr = w.drewN d) ∧ ∀ (j : Nat) x y, j < i' → xs[j]? = some x → ys[j]? = some y → noT x = noT y) (fun i _ => n - (intOf i).toNat)
  case atStart => exact ⟨0, rfl, by omega, ⟨0, rfl⟩, fun j x y h => by omega⟩
  case round =>
    obtain ⟨i, rfl, hi, ⟨d, rfl⟩, hall⟩ := hrel
    have HA := Lib.hid hall
    clear hall
    by_cases hin : i < n
    case neg =>
      obtain rfl : i = n := by omega
      have HF : Hid (r = true) := Lib.hid (by
        rw [← HR.out, decide_eq_true_eq]
        apply List.ext_getElem?
        intro j
        rw [List.getElem?_map, List.getElem?_map]
        by_cases hj : j < i
        · rw [List.getElem?_eq_getElem (show j < xs.length by rw [HN.out]; exact hj), List.getElem?_eq_getElem (show j < ys.length by rw [HKL.out]; exact hj)]
          exact congrArg some (HA.out j _ _ hj (List.getElem?_eq_getElem _) (List.getElem?_eq_getElem _))
        · rw [List.getElem?_eq_none (by rw [HN.out]; omega), List.getElem?_eq_none (by rw [HKL.out]; omega)])
      go_wp2_with fail
      go_ret
      exact ⟨by rw [HF.out]; rfl, (Kept.refl _ w).drewN d⟩
    obtain ⟨x, hx⟩ : ∃ x, xs[i]? = some x := ⟨_, List.getElem?_eq_getElem (by rw [HN.out]; exact hin)⟩
    obtain ⟨y, hy⟩ : ∃ y, ys[i]? = some y := ⟨_, List.getElem?_eq_getElem (by rw [HKL.out]; exact hin)⟩
    obtain ⟨ga, oa, rfl, _, hxc⟩ := HX.out.2 i x hx
    obtain ⟨gb, ob, rfl, _, hyc⟩ := HY.out.2 i y hy
    have x0 : w.cell? ⟨ga, oa + i * 5, none⟩ = some (.int .i64 x.op) := hxc 0 _ rfl
    have x1 : w.cell? ⟨ga, oa + i * 5 + 1, none⟩ = some (.int .i64 x.a) := hxc 1 _ rfl
    have x2 : w.cell? ⟨ga, oa + i * 5 + 2, none⟩ = some (.int .i64 x.b) := hxc 2 _ rfl
    have x3 : w.cell? ⟨ga, oa + i * 5 + 3, none⟩ = some (.int .i64 x.c) := hxc 3 _ rfl
    have x4 : w.cell? ⟨ga, oa + i * 5 + 4, none⟩ = some (.int .i64 x.n) := hxc 4 _ rfl
    have y0 : w.cell? ⟨gb, ob + i * 5, none⟩ = some (.int .i64 y.op) := hyc 0 _ rfl
    have y1 : w.cell? ⟨gb, ob + i * 5 + 1, none⟩ = some (.int .i64 y.a) := hyc 1 _ rfl
    have y2 : w.cell? ⟨gb, ob + i * 5 + 2, none⟩ = some (.int .i64 y.b) := hyc 2 _ rfl
    have y3 : w.cell? ⟨gb, ob + i * 5 + 3, none⟩ = some (.int .i64 y.c) := hyc 3 _ rfl
    have y4 : w.cell? ⟨gb, ob + i * 5 + 4, none⟩ = some (.int .i64 y.n) := hyc 4 _ rfl
    have hne := fun w' => neq_ins x y w'
    have g2 := guard_ins
    have HXI := Lib.hid hx
    have HYI := Lib.hid hy
    clear hxc hyc hx hy
    by_cases he : noT x = noT y
    · simp only [decide_eq_true he] at hne
      have HA2 : Hid (∀ (j : Nat) x y, j < i + 1 → xs[j]? = some x → ys[j]? = some y → noT x = noT y) := Lib.hid (fun j x' y' h1 h2 h3 => by
        rcases Nat.lt_or_ge j i with h | h
        · exact HA.out j x' y' h h2 h3
        · obtain rfl : j = i := by omega
          rw [HXI.out] at h2; rw [HYI.out] at h3
          obtain rfl := Option.some.inj h2
          obtain rfl := Option.some.inj h3
          exact he)
      clear he
      go_wp2_with fail
      go_region
      all_goals go_wp2_with fail
      all_goals go_roundw
      case rel => exact ⟨i + 1, by go_num, by omega, ⟨d + 1, rfl⟩, HA2.out⟩
      case measure => simp [intOf]; omega
    · simp only [decide_eq_false he] at hne
      have HF : Hid (r = false) := Lib.hid (by
        rw [← HR.out, decide_eq_false_iff_not]
        intro e
        have := congrArg (·[i]?) e
        simp only [List.getElem?_map, HXI.out, HYI.out, Option.map_some, Option.some.injEq] at this
        exact he this)
      clear he
      go_wp2_with fail
      go_region
      all_goals go_wp2_with fail
      all_goals go_ret
      all_goals exact ⟨by rw [HF.out]; rfl, (Kept.refl _ w).drewN (d + 1)⟩

theorem guard_lab : Tryz.prog.eqGuardType Tryz.prog.depth 35 = false := by kernel_rfl
theorem eq_lab (x y : Str × Nat) (w : World) : (Op.equalIn 10000 35 (.agg #[.string (strS x.1), .int .i64 x.2]) (.agg #[.string (strS y.1), .int .i64 y.2])).run Tryz.prog w = .ok (decide (x = y)) w := by
  have u9 := Tryz.underlying9
  have a9 := Tryz.isAgg9
  have z9 := Tryz.sizeOf9
  have u3 := Tryz.underlying3
  have a3 := Tryz.isAgg3
  have z3 := Tryz.sizeOf3
  have hS : Tryz.prog.underlying 35 = some (.struct (Tryz.prog.fieldsOf 35)) := by kernel_rfl
  have hp : Tryz.prog.stoodInHeld 35 = false := by kernel_rfl
  obtain ⟨l, n⟩ := x
  obtain ⟨l', n'⟩ := y
  have h1 := str_eq2 l l'
  rw [show (10000 : Nat) = 9999 + 1 from rfl, run_equalIn_agg w 9999 35 _ _ hS hp]
  simp only [Program.fieldsOf, Tryz.underlying35]
  go_simp
  by_cases e0 : l = l'
  case neg => simp [e0]
  by_cases e1 : n = n'
  · simp [e0, e1]
  · have e2 : ¬ ((n : Int) = n') := by omega
    simp [e0, e1, e2]
theorem neq_lab (x y : Str × Nat) (w : World) : (binOp .neq 35 (.agg #[.string (strS x.1), .int .i64 x.2]) (.agg #[.string (strS y.1), .int .i64 y.2])).run Tryz.prog w = .ok (.bool (!decide (x = y))) w := by
  have h : (binOp .eql 35 (.agg #[.string (strS x.1), .int .i64 x.2]) (.agg #[.string (strS y.1), .int .i64 y.2])).run Tryz.prog w = .ok (.bool (decide (x = y))) w := by
    rw [run_eql_struct, eq_lab]
    rfl
  simp only [binOp] at h ⊢
  simp only [Sem.run_bind, Sem.run_pure] at h ⊢
  cases hr : (Op.equal 35 (.agg #[.string (strS x.1), .int .i64 x.2]) (.agg #[.string (strS y.1), .int .i64 y.2])).run Tryz.prog w with
  | ok b w' => rw [hr] at h; simp [Result.andThen] at h ⊢; exact ⟨h.1, h.2⟩
  | halt x w' => rw [hr] at h; simp [Result.andThen] at h

set_option maxRecDepth 100000 in
set_option maxHeartbeats 4000000 in
theorem lawSame_any {xs ys : Labs} {sa sb : Option Addr} {ca cb n k B C : Nat} (w : World) (hx : Elems w B sa 2 labC xs) (hy : Elems w C sb 2 labC ys) (hn : xs.length = n) (hk : ys.length = k) {r : Bool} (hr : decide (xs = ys) = r) :
    Calls Tryz.prog 13 #[.slice sa n ca, .slice sb k cb] w fun e w' => e = .returned (.bool r) ∧ Kept (fun _ => False) w w' := by
  have HX := Lib.hid hx
  have HY := Lib.hid hy
  have HN := Lib.hid hn
  have HKL := Lib.hid hk
  have HR := Lib.hid hr
  have hn63 : (n : Int) ≤ 9223372036854775807 := by have := hx.1; rw [hn] at this; unfold maxLen at this; omega
  by_cases hnk : n = k
  case neg =>
    have q : ((n : Int) == (k : Int)) = false := by rw [beq_eq_false_iff_ne]; omega
    obtain rfl : r = false := by
      rw [← hr, decide_eq_false_iff_not]
      intro e
      have := congrArg List.length e
      omega
    clear hx hy hn hk hr hnk
    go_enter Tryz.func13, Tryz.ntmps13
    go_wp2_with fail
    go_ret
    exact ⟨rfl, Kept.refl _ _⟩
  subst hnk
  clear hx hy hn hk hr
  go_enter Tryz.func13, Tryz.ntmps13
  go_wp2_with fail
  go_loopw [5] (fun i wr => ∃ i' : Nat, i = .int .i64 i' ∧ i' ≤ n ∧ (∃ d, wr = w.drewN d) ∧ ∀ (j : Nat) x y, j < i' → xs[j]? = some x → ys[j]? = some y → x = y) (fun i _ => n - (intOf i).toNat)
  case atStart => exact ⟨0, rfl, by omega, ⟨0, rfl⟩, fun j x y h => by omega⟩
  case round =>
    obtain ⟨i, rfl, hi, ⟨d, rfl⟩, hall⟩ := hrel
    have HA := Lib.hid hall
    clear hall
    by_cases hin : i < n
    case neg =>
      obtain rfl : i = n := by omega
      have HF : Hid (r = true) := Lib.hid (by
        rw [← HR.out, decide_eq_true_eq]
        apply List.ext_getElem?
        intro j
        by_cases hj : j < i
        · rw [List.getElem?_eq_getElem (show j < xs.length by rw [HN.out]; exact hj), List.getElem?_eq_getElem (show j < ys.length by rw [HKL.out]; exact hj)]
          exact congrArg some (HA.out j _ _ hj (List.getElem?_eq_getElem _) (List.getElem?_eq_getElem _))
        · rw [List.getElem?_eq_none (by rw [HN.out]; omega), List.getElem?_eq_none (by rw [HKL.out]; omega)])
      go_wp2_with fail
      go_ret
      exact ⟨by rw [HF.out]; rfl, (Kept.refl _ w).drewN d⟩
    obtain ⟨x, hx⟩ : ∃ x, xs[i]? = some x := ⟨_, List.getElem?_eq_getElem (by rw [HN.out]; exact hin)⟩
    obtain ⟨y, hy⟩ : ∃ y, ys[i]? = some y := ⟨_, List.getElem?_eq_getElem (by rw [HKL.out]; exact hin)⟩
    obtain ⟨ga, oa, rfl, _, hxc⟩ := HX.out.2 i x hx
    obtain ⟨gb, ob, rfl, _, hyc⟩ := HY.out.2 i y hy
    have x0 : w.cell? ⟨ga, oa + i * 2, none⟩ = some (.string (strS x.1)) := hxc 0 _ rfl
    have x1 : w.cell? ⟨ga, oa + i * 2 + 1, none⟩ = some (.int .i64 x.2) := hxc 1 _ rfl
    have y0 : w.cell? ⟨gb, ob + i * 2, none⟩ = some (.string (strS y.1)) := hyc 0 _ rfl
    have y1 : w.cell? ⟨gb, ob + i * 2 + 1, none⟩ = some (.int .i64 y.2) := hyc 1 _ rfl
    have hne := fun w' => neq_lab x y w'
    have g2 := guard_lab
    have HXI := Lib.hid hx
    have HYI := Lib.hid hy
    clear hxc hyc hx hy
    by_cases he : x = y
    · simp only [decide_eq_true he] at hne
      have HA2 : Hid (∀ (j : Nat) x y, j < i + 1 → xs[j]? = some x → ys[j]? = some y → x = y) := Lib.hid (fun j x' y' h1 h2 h3 => by
        rcases Nat.lt_or_ge j i with h | h
        · exact HA.out j x' y' h h2 h3
        · obtain rfl : j = i := by omega
          rw [HXI.out] at h2; rw [HYI.out] at h3
          obtain rfl := Option.some.inj h2
          obtain rfl := Option.some.inj h3
          exact he)
      clear he
      go_wp2_with fail
      go_region
      all_goals go_wp2_with fail
      all_goals go_roundw
      case rel => exact ⟨i + 1, by go_num, by omega, ⟨d + 1, rfl⟩, HA2.out⟩
      case measure => simp [intOf]; omega
    · simp only [decide_eq_false he] at hne
      have HF : Hid (r = false) := Lib.hid (by
        rw [← HR.out, decide_eq_false_iff_not]
        intro e
        have := congrArg (·[i]?) e
        simp only [HXI.out, HYI.out, Option.some.injEq] at this
        exact he this)
      clear he
      go_wp2_with fail
      go_region
      all_goals go_wp2_with fail
      all_goals go_ret
      all_goals exact ⟨by rw [HF.out]; rfl, (Kept.refl _ w).drewN (d + 1)⟩

/-- Are texts few, and short? -/
def shortL (ts : List Str) : Bool := decide (ts.length ≤ 40) && ts.all (fun t => decide (t.length ≤ 30000)) && decide ((ts.map List.length).sum ≤ 30000)
theorem short_size {ts : List Str} (h : shortL ts = true) : sizeL ts ≤ 31000 ∧ ts.length ≤ 40 ∧ ∀ t ∈ ts, t.length ≤ 30000 := by
  unfold shortL at h
  simp only [Bool.and_eq_true, decide_eq_true_eq, List.all_eq_true] at h
  obtain ⟨⟨h1, h2⟩, h3⟩ := h
  have e : ∀ l : List Str, sizeL l = (l.map List.length).sum + l.length := by
    intro l
    induction l with
    | nil => rfl
    | cons t l ih => simp only [sizeL, List.map_cons, List.sum_cons, List.length_cons] at ih ⊢; omega
  exact ⟨by rw [e]; omega, h1, h2⟩
set_option maxRecDepth 100000 in
set_option maxHeartbeats 4000000 in
theorem short_any {ts : List Str} {sl : Option Addr} {cap n B : Nat} (w : World) (hE : Elems w B sl 1 sC ts) (hn : ts.length = n) {r : Bool} (hr : shortL ts = r) :
    Calls Tryz.prog 8 #[.slice sl n cap] w fun e w' => e = .returned (.bool r) ∧ w' = w := by
  have HE := Lib.hid hE
  have HN := Lib.hid hn
  have HR := Lib.hid hr
  by_cases h40 : n ≤ 40
  case neg =>
    have q : (40 : Int) < (n : Int) := by omega
    obtain rfl : r = false := by rw [← hr]; unfold shortL; rw [decide_eq_false (by omega)]; rfl
    clear hE hn hr h40
    go_enter Tryz.func8, Tryz.ntmps8
    go_wp2_with fail
    go_ret
    exact ⟨rfl, rfl⟩
  have q : ¬ (40 : Int) < (n : Int) := by omega
  clear hE hn hr
  go_enter Tryz.func8, Tryz.ntmps8
  go_wp2_with fail
  go_loop [3, 4] (fun s i => ∃ i' : Nat, i = .int .i64 i' ∧ i' ≤ n ∧ s = .int .i64 (((ts.take i').map List.length).sum : Nat) ∧ ∀ (j : Nat) t, j < i' → ts[j]? = some t → t.length ≤ 30000) (fun _ i => n - (intOf i).toNat)
  case atStart => exact ⟨0, rfl, by omega, rfl, fun j t h => by omega⟩
  case round =>
    obtain ⟨i, rfl, hi, rfl, hall⟩ := hrel
    have HA := Lib.hid hall
    have HSM : Hid (∀ l : List Str, (∀ (j : Nat) t, l[j]? = some t → t.length ≤ 30000) → (l.map List.length).sum ≤ l.length * 30000) := Lib.hid (fun l => by
      induction l with
      | nil => intro _; simp
      | cons t l ih =>
        intro h
        have h1 := h 0 t rfl
        have h2 := ih (fun j t' hj => h (j + 1) t' hj)
        simp only [List.map_cons, List.sum_cons, List.length_cons]
        omega)
    obtain ⟨S, hS⟩ : ∃ S, ((ts.take i).map List.length).sum = S := ⟨_, rfl⟩
    have hS2 : S ≤ 1200000 := by
      have := HSM.out (ts.take i) (fun j t hj => by
        rw [List.getElem?_take] at hj
        split at hj
        · rename_i hlt; exact HA.out j t hlt hj
        · cases hj)
      rw [hS, List.length_take] at this
      omega
    have HS := Lib.hid hS
    rw [hS]
    clear hall hS
    by_cases hin : i < n
    case neg =>
      obtain rfl : i = n := by omega
      have HF : Hid (r = decide (S ≤ 30000)) := Lib.hid (by
        rw [← HR.out]
        unfold shortL
        have e : ts.all (fun t => decide (t.length ≤ 30000)) = true := by
          rw [List.all_eq_true]
          intro t ht
          obtain ⟨j, hj⟩ := List.getElem?_of_mem ht
          rw [decide_eq_true_eq]
          exact HA.out j t (by have := (List.getElem?_eq_some_iff.1 hj).1; rw [HN.out] at this; exact this) hj
        have e2 : (ts.map List.length).sum = S := by rw [← HS.out, List.take_of_length_le (by rw [HN.out]; exact Nat.le_refl _)]
        rw [e, e2, decide_eq_true (by rw [HN.out]; omega)]
        rfl)
      by_cases hle : S ≤ 30000
      · have hle' : (S : Int) ≤ 30000 := by omega
        rw [decide_eq_true hle] at HF
        clear hle
        go_wp2_with fail
        go_ret
        exact ⟨by rw [HF.out]; rfl, rfl⟩
      · have hle' : ¬ (S : Int) ≤ 30000 := by omega
        rw [decide_eq_false hle] at HF
        clear hle
        go_wp2_with fail
        go_ret
        exact ⟨by rw [HF.out]; rfl, rfl⟩
    obtain ⟨t, ht⟩ : ∃ t, ts[i]? = some t := ⟨_, List.getElem?_eq_getElem (by rw [HN.out]; exact hin)⟩
    obtain ⟨g, off, rfl, _, hc⟩ := HE.out.2 i t ht
    have x0 : w.cell? ⟨g, off + i, none⟩ = some (.string (strS t)) := by
      have := hc 0 (.string (strS t)) rfl
      simpa using this
    have hsz : (strS t).size = t.length := strS_size t
    have HT := Lib.hid ht
    clear hc ht
    by_cases hl : t.length ≤ 30000
    case neg =>
      have q3 : (30000 : Int) < ((strS t).size : Int) := by omega
      have HF : Hid (r = false) := Lib.hid (by
        rw [← HR.out]
        unfold shortL
        have e : ts.all (fun t => decide (t.length ≤ 30000)) = false := by
          rw [List.all_eq_false]
          exact ⟨t, List.mem_of_getElem? HT.out, by rw [decide_eq_true_eq]; exact hl⟩
        rw [e, Bool.and_false, Bool.false_and])
      clear hl hsz
      go_wp2_with fail
      go_ret
      exact ⟨by rw [HF.out]; rfl, rfl⟩
    have q3 : ¬ (30000 : Int) < ((strS t).size : Int) := by omega
    have HT2 : Hid (((ts.take (i + 1)).map List.length).sum = S + (strS t).size) := Lib.hid (by
      rw [List.take_succ_eq_append_getElem (by rw [HN.out]; exact hin), List.map_append, List.sum_append, HS.out, (List.getElem?_eq_some_iff.1 HT.out).2, hsz]
      simp)
    have HA2 : Hid (∀ (j : Nat) t, j < i + 1 → ts[j]? = some t → t.length ≤ 30000) := Lib.hid (fun j t' h1 h2 => by
      rcases Nat.lt_or_ge j i with h | h
      · exact HA.out j t' h h2
      · obtain rfl : j = i := by omega
        rw [HT.out] at h2
        obtain rfl := Option.some.inj h2
        exact hl)
    have hsz2 : (strS t).size ≤ 30000 := by omega
    clear hl hsz
    go_wp2_with fail
    go_round
    case rel => exact ⟨i + 1, by go_num, by omega, by rw [HT2.out]; go_num, HA2.out⟩
    case measure => simp [intOf]; omega
end Go.Proofs.YtlhnbihpefgcbaaGreatDoor
