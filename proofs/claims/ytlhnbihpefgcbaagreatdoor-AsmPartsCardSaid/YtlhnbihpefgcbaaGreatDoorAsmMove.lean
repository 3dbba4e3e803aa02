/-
  Lemmas for the laws of layer 8: texts joined step by step; where labels and goers stand; instructions ahead.
  Conditions: none; plain mathematics.
-/
import Derived.Test.YtlhnbihpefgcbaaGreatDoorAsmLaw
namespace Go.Proofs.YtlhnbihpefgcbaaGreatDoor

/-! ### Texts joined -/
theorem join_one {ts : List Str} {t : Str} (h : ts[0]? = some t) : joinL (ts.take 1) = t := by
  cases ts with
  | nil => cases h
  | cons a r =>
    obtain rfl : a = t := Option.some.inj h
    rfl
theorem join_snoc {ts : List Str} {i : Nat} {t : Str} (hi : 1 ≤ i) (h : ts[i]? = some t) : joinL (ts.take (i + 1)) = joinL (ts.take i) ++ 10 :: t := by
  cases ts with
  | nil => cases h
  | cons a r =>
    obtain ⟨k, rfl⟩ : ∃ k, i = k + 1 := ⟨i - 1, by omega⟩
    have hk : r[k]? = some t := by simpa using h
    obtain ⟨h1, h2⟩ := List.getElem?_eq_some_iff.1 hk
    rw [List.take_succ_cons, List.take_succ_cons, List.take_succ_eq_append_getElem h1, h2]
    show (List.take k r ++ [t]).foldl _ a = _
    rw [List.foldl_append]
    rfl
theorem join_len : ∀ ts : List Str, (joinL ts).length ≤ sizeL ts
  | [] => by simp [joinL]
  | t :: ts => by
    have e : ∀ (ts : List Str) (a : Str), (ts.foldl (fun a t => a ++ 10 :: t) a).length = a.length + sizeL ts := by
      intro ts
      induction ts with
      | nil => intro a; simp [sizeL]
      | cons t ts ih =>
        intro a
        rw [List.foldl_cons, ih]
        simp only [sizeL, List.map_cons, List.sum_cons, List.length_append, List.length_cons]
        omega
    show (ts.foldl (fun a t => a ++ 10 :: t) t).length ≤ _
    rw [e]
    simp only [sizeL, List.map_cons, List.sum_cons]
    omega
theorem size_take (ts : List Str) (i : Nat) : sizeL (ts.take i) ≤ sizeL ts := by
  conv => rhs; rw [← List.take_append_drop i ts]
  simp only [sizeL, List.map_append, List.sum_append]
  omega

/-! ### Where labels and goers stand -/
theorem one_labs : ∀ (ls : List Str) (i : Nat) (c : List Ln) (l : Labs) (c' : List Ln) (l' : Labs), oneA i ls c l = .ok (c', l') → (∀ p ∈ l, p.2 ≤ c.length) → ∀ p ∈ l', p.2 ≤ c'.length
  | [], i, c, l, c', l', h, hl => by
    unfold oneA at h
    injection h with h; injection h with h1 h2; subst h1; subst h2; exact hl
  | s :: r, i, c, l, c', l', h, hl => by
    unfold oneA at h
    cases e : parseL s with
    | none => rw [e] at h; cases h
    | some x =>
      rw [e] at h
      dsimp only at h
      split at h
      · cases h
      split at h
      · cases h
      refine one_labs r _ _ _ _ _ h (fun p hp => ?_)
      have hc : c.length ≤ (if 0 < x.op then c ++ [x] else c).length := by split <;> simp
      split at hp
      · rcases List.mem_append.1 hp with hp | hp
        · exact Nat.le_trans (hl p hp) hc
        · obtain rfl := List.mem_singleton.1 hp
          exact hc
      · exact Nat.le_trans (hl p hp) hc
theorem find_mem {l : Labs} {s : Str} {k : Nat} (h : findA l s = some k) : ∃ p ∈ l, p.2 = k := by
  unfold findA at h
  obtain ⟨p, h1, h2⟩ := Option.map_eq_some_iff.1 h
  exact ⟨p, List.mem_of_find?_eq_some h1, h2⟩
/-- Labels stand in the code, or behind it. -/
theorem labs_in {LS : List Str} {c : List Ln} {l : Labs} (h : asmA LS = .ok (c, l)) : ∀ p ∈ l, p.2 ≤ c.length := by
  unfold asmA at h
  cases e : oneA 0 LS [] [] with
  | error q => rw [e] at h; cases h
  | ok q =>
    obtain ⟨c0, l0⟩ := q
    rw [e] at h
    dsimp only at h
    split at h
    · cases h
    injection h with h; injection h with h1 h2; subst h1; subst h2
    rw [List.length_map]
    exact one_labs LS 0 [] [] c0 l0 e (fun p hp => by cases hp)
/-- What goes to a name: jumps and calls; its place is in the code, or behind it. -/
theorem code_goes {LS : List Str} {c : List Ln} {l : Labs} (h : asmA LS = .ok (c, l)) : ∀ x ∈ c, (x.target ≠ [] ↔ 8 ≤ x.op ∧ x.op ≤ 12) ∧ (x.target ≠ [] → 0 ≤ x.n ∧ x.n ≤ c.length) := by
  have hin := labs_in h
  unfold asmA at h
  cases e : oneA 0 LS [] [] with
  | error q => rw [e] at h; cases h
  | ok q =>
    obtain ⟨c0, l0⟩ := q
    rw [e] at h
    dsimp only at h
    cases e2 : twoA 0 LS l0 with
    | some i => rw [e2] at h; cases h
    | none =>
    rw [e2] at h
    dsimp only at h
    injection h with h; injection h with h1 h2; subst h1; subst h2
    intro x hx
    obtain ⟨y, hy, rfl⟩ := List.mem_map.1 hx
    rcases one_from LS 0 [] [] c0 l0 e y hy with g | ⟨g0, s, g1, g2⟩
    · cases g
    have hg := (goes_is g2 g0).2
    by_cases ht : y.target ≠ []
    · obtain ⟨k, hk⟩ := two_there LS 0 l0 e2 s g1 y g2 ht
      obtain ⟨p, hp, hpk⟩ := find_mem hk
      have := hin p hp
      have e3 : fixA l0 y = { y with n := (k : Int) } := by unfold fixA; rw [if_pos ht, hk]; rfl
      rw [e3]
      exact ⟨hg, fun _ => ⟨by show (0 : Int) ≤ (k : Int); omega, by show (k : Int) ≤ _; omega⟩⟩
    · have e3 : fixA l0 y = y := by unfold fixA; rw [if_neg ht]
      rw [e3]
      exact ⟨hg, fun g => absurd g ht⟩
theorem moved_code {c : List Ln} {n i : Nat} {x : Ln} (h : c[i]? = some x) : (List.replicate n nowLn ++ c.map (goA n))[n + i]? = some (goA n x) := by
  rw [List.getElem?_append_right (by rw [List.length_replicate]; omega), List.length_replicate, Nat.add_sub_cancel_left, List.getElem?_map, h]
  rfl
theorem moved_labs {l : Labs} {n i : Nat} {p : Str × Nat} (h : l[i]? = some p) : (moveA n l)[i]? = some (p.1, p.2 + n) := by
  unfold moveA
  rw [List.getElem?_map, h]
  rfl
theorem front_len : ∀ n, (frontL n).length = 7 * n
  | 0 => rfl
  | n + 1 => by
    unfold frontL
    rw [List.length_append, List.length_cons, front_len n]
    show 6 + _ = _
    omega

end Go.Proofs.YtlhnbihpefgcbaaGreatDoor
