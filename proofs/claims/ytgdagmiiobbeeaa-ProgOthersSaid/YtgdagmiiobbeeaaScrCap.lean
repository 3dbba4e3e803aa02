/-
  A script that came in, with what is known of its programs' capacity; parts of a slice that reads as a list.
  Conditions: none; these are lemmas for the walks.
-/
import Derived.Test.YtgdagmiiobbeeaaOwned
import Derived.Test.YtgdagmiiobbeeaaCut
namespace Go.Proofs.Ytgdagmiiobbeeaa
open Go.RowKit Go.ChangeShapes Go.WideShapes

theorem cap_of {H : Type} {enc : TypeId × Value → H} {w : World} {P : Program} {t e : TypeId} {s : Option Addr} {len cap : Nat} {d : DataW H} {p : List MemPlace} (ht : P.underlying t = some (.slice e))
    (h : DataW.Trod enc P w 0 (fun _ => true) true t (.slice s len cap) d p) : len ≤ cap ∧ cap ≤ maxLen := by
  obtain ⟨fuel, hf⟩ := h
  rcases Go.Deep.open_slice ht hf with ⟨hcs, _⟩ | ⟨ad, l, c, mm, n, D, Pl, hcs, _, hl, hmx, _⟩
  · simp [Value.cells] at hcs
    obtain ⟨rfl, rfl, rfl⟩ := hcs
    exact ⟨Nat.le_refl _, Nat.zero_le _⟩
  · simp [Value.cells] at hcs
    obtain ⟨rfl, rfl, rfl⟩ := hcs
    exact ⟨hl, hmx⟩

theorem sc_of_cap {H : Type} {enc : TypeId × Value → H} {w : World} {v : Value} {d : DataW H} {p : List MemPlace} (hv : ∃ cs : Array Value, v = .agg cs ∧ cs.size = Try.prog.cellsOf 26)
    (h : DataW.Trod enc Try.prog w 0 (fun _ => true) true 26 v d p) : ∃ x : Sc, v = x.agg ∧ Lies w w.heap.size x ∧ x.prs.length ≤ x.pc ∧ x.pc ≤ maxLen := by
  obtain ⟨⟨cs⟩, rfl, hs⟩ := hv
  rw [Try.sc_script] at hs
  obtain ⟨k, hk⟩ := h
  obtain ⟨ys, k', _, _, _, hyl, hfld⟩ := DataW.trod_struct Try.underlying26 hk
  match cs, hs, ys, hyl with
  | [c0, c1, c2], _, [y0, y1, y2], _ =>
    have f0 : DataW.trod enc Try.prog w 0 (fun _ => true) true k' 22 (([c0, c1, c2].drop 0).take (Try.prog.cellsOf 22)) = some y0 := hfld 0 _ rfl
    have f1 : DataW.trod enc Try.prog w 0 (fun _ => true) true k' 23 (([c0, c1, c2].drop 1).take (Try.prog.cellsOf 23)) = some y1 := hfld 1 _ rfl
    have f2 : DataW.trod enc Try.prog w 0 (fun _ => true) true k' 24 (([c0, c1, c2].drop 2).take (Try.prog.cellsOf 24)) = some y2 := hfld 2 _ rfl
    rw [Try.sc_objects] at f0
    rw [Try.sc_programs] at f1
    rw [Try.sc_picks] at f2
    simp only [List.drop_zero, List.drop_succ_cons, List.take_succ_cons, List.take_zero] at f0 f1 f2
    obtain ⟨s0, l0, m0, rfl, h0⟩ := slice_of Try.underlying22 f0
    obtain ⟨s1, l1, m1, rfl, h1⟩ := slice_of Try.underlying23 f1
    obtain ⟨s2, l2, m2, rfl, h2⟩ := slice_of Try.underlying24 f2
    have hc := cap_of Try.underlying23 h1
    obtain ⟨obs, rfl, g0⟩ := obs_of h0
    obtain ⟨prs, rfl, g1⟩ := prs_of h1
    obtain ⟨pis, rfl, g2⟩ := pis_of h2
    exact ⟨⟨s0, m0, obs, s1, m1, prs, s2, m2, pis⟩, rfl, ⟨g0, g1, g2⟩, hc.1, hc.2⟩

theorem Elems.drop {α : Type} {w : World} {B m g off : Nat} {f : α → List Value} {xs : List α} (h : Elems w B (some ⟨g, off, none⟩) m f xs) (k : Nat) : Elems w B (some ⟨g, off + k * m, none⟩) m f (xs.drop k) := by
  refine ⟨by have := h.1; rw [List.length_drop]; omega, fun i x hi => ?_⟩
  rw [List.getElem?_drop] at hi
  obtain ⟨g', off', e, hb, hc⟩ := h.2 (k + i) x hi
  simp only [Option.some.injEq, Addr.mk.injEq, and_true] at e
  obtain ⟨rfl, rfl⟩ := e
  refine ⟨g, off + k * m, rfl, hb, fun j v hj => ?_⟩
  have := hc j v hj
  rwa [Nat.add_mul, ← Nat.add_assoc] at this

theorem Owned.ends {W b : Nat} {w w' : World} {y : Sc} (h : Owned W (fun g => g = b) w y) (hk : Kept (fun q => q = b ∨ w.heap.size ≤ q) w w') : Elems w' w'.heap.size y.os 3 Ob.cells y.obs ∧ Elems w' w'.heap.size y.ks 2 Pi.cells y.pis :=
  ⟨((h.obs.old).kept hk (fun _ e => e.elim (fun e => .inl (.inl e)) .inr)).1.elems, ((h.pis.old).kept hk (fun _ e => e.elim (fun e => .inl (.inl e)) .inr)).1.elems⟩
theorem turned_lies {base n c B : Nat} {w : World} {y : Sc} {s : Option Addr} {qs : List Pr} (hy : Elems w w.heap.size y.os 3 Ob.cells y.obs ∧ Elems w w.heap.size y.ks 2 Pi.cells y.pis) (hrow : w.ownsRow base 38 1 (.slice s n c) n (flat Pr.cells qs)) (hn : n = qs.length) (hm : qs.length ≤ maxLen)
    (hops : ∀ p ∈ qs, Elems w B p.s 5 Cl.cells p.ops) (hB : B ≤ w.heap.size) : Lies w w.heap.size ⟨y.os, y.oc, y.obs, s, c, qs, y.ks, y.kc, y.pis⟩ := by
  subst hn
  obtain ⟨s', c', e, hM⟩ := Made.of_own Pr.one hrow rfl hm
  simp only [Value.slice.injEq, true_and] at e
  obtain ⟨rfl, rfl⟩ := e
  exact ⟨hy.1, ⟨hM.elems, fun p hp => (hops p hp).more hB⟩, hy.2⟩

/-- The threads in another order, and one of them once more. -/
theorem large_turned {x y : Sc} {k : Nat} (h1 : y.obs = x.obs) (h2 : y.pis = x.pis) (h3 : y.prs = x.prs.drop k ++ x.prs.take k) (h : largeF x = false) : largeF y = false := by
  have hl : y.prs.length = x.prs.length := by rw [h3, List.length_append, List.length_drop, List.length_take]; omega
  unfold largeF at h ⊢
  simp only [Bool.not_eq_false', Bool.and_eq_true, decide_eq_true_eq] at h ⊢
  obtain ⟨⟨⟨l1, l2⟩, l3⟩, l4⟩ := h
  refine ⟨⟨⟨by rw [h1]; exact l1, by omega⟩, by rw [h2]; exact l3⟩, ?_⟩
  rw [h3, List.all_append, Bool.and_eq_true]
  exact ⟨List.all_eq_true.2 fun q hq => List.all_eq_true.1 l4 q (List.mem_of_mem_drop hq), all_take l4 k⟩
theorem good_turned {x y : Sc} {k : Nat} (h1 : y.obs = x.obs) (h2 : y.pis = x.pis) (h3 : y.prs = x.prs.drop k ++ x.prs.take k) (h : goodF x = true) : goodF y = true := by
  have hl : y.prs.length = x.prs.length := by rw [h3, List.length_append, List.length_drop, List.length_take]; omega
  unfold goodF at h ⊢
  simp only [Bool.and_eq_true] at h ⊢
  obtain ⟨⟨⟨⟨l1, l2⟩, l3⟩, l4⟩, l5⟩ := h
  refine ⟨⟨⟨⟨by rw [h1]; exact l1, by rw [hl]; exact l2⟩, by rw [h1]; exact l3⟩, ?_⟩, by rw [h2]; exact l5⟩
  rw [h3, h1, List.all_append, Bool.and_eq_true]
  exact ⟨List.all_eq_true.2 fun q hq => List.all_eq_true.1 l4 q (List.mem_of_mem_drop hq), all_take l4 k⟩
theorem large_again {x y : Sc} {p : Pr} (h1 : y.obs = x.obs) (h2 : y.pis = x.pis) (h3 : y.prs = x.prs ++ [p]) (hp : p ∈ x.prs) (h : largeF x = false) : largeF y = !decide (x.prs.length < 8) := by
  unfold largeF at h ⊢
  simp only [Bool.not_eq_false', Bool.and_eq_true, decide_eq_true_eq] at h
  obtain ⟨⟨⟨l1, l2⟩, l3⟩, l4⟩ := h
  rw [h1, h2, h3, List.all_append, l4, decide_eq_true l1, decide_eq_true l3]
  have hs : [p].all smallF = true := by simp only [List.all_cons, List.all_nil, Bool.and_true]; exact List.all_eq_true.1 l4 p hp
  rw [hs]
  have he : decide ((x.prs ++ [p]).length ≤ 8) = decide (x.prs.length < 8) := by
    rw [show (x.prs ++ [p]).length = x.prs.length + 1 from by simp]
    exact decide_eq_decide.2 ⟨fun h => by omega, fun h => by omega⟩
  rw [he]
  simp
theorem good_again {x y : Sc} {p : Pr} (h1 : y.obs = x.obs) (h2 : y.pis = x.pis) (h3 : y.prs = x.prs ++ [p]) (hp : p ∈ x.prs) (h : goodF x = true) : goodF y = true := by
  unfold goodF at h ⊢
  simp only [Bool.and_eq_true] at h ⊢
  obtain ⟨⟨⟨⟨l1, l2⟩, l3⟩, l4⟩, l5⟩ := h
  refine ⟨⟨⟨⟨by rw [h1]; exact l1, by rw [h3]; simp⟩, by rw [h1]; exact l3⟩, ?_⟩, by rw [h2]; exact l5⟩
  rw [h3, h1, List.all_append, Bool.and_eq_true]
  exact ⟨l4, by simp only [List.all_cons, List.all_nil, Bool.and_true]; exact List.all_eq_true.1 l4 p hp⟩

end Go.Proofs.Ytgdagmiiobbeeaa
