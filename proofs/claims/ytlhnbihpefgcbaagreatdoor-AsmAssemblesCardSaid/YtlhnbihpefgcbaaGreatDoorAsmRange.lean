/-
  A loop over the pieces of a text, as an iterator of the library's hands them out: what the iterator promises; the law of the statement; marks among the deferred calls at a function's end.
  Conditions: none; these are lemmas on the machine.
-/
import Derived.Test.YtlhnbihpefgcbaaGreatDoorLineStr
import Derived.RangeFuncCalls
import Derived.RangeFuncLeaves
import Derived.RangeFuncSeq
import Derived.RangeFuncOwn
namespace Go.Proofs.YtlhnbihpefgcbaaGreatDoor
open Go.RowKit

theorem Kept.putObj {S : Nat → Prop} {a b : World} (h : Kept S a b) {k : Nat} (o : Obj) (hk : S k) : Kept S a (b.putObj k o) :=
  h.trans (T := fun i => i = k) ⟨rfl, rfl, rfl, by simp, fun i _ hi => World.putObj_heap_other hi⟩ (fun i _ e => by subst e; exact hk)
theorem Kept.at_ {S : Nat → Prop} {a b : World} (h : Kept S a b) {k : Nat} {o : Obj} (ho : a.heap[k]? = some o) (hk : ¬ S k) : b.heap[k]? = some o :=
  (h.block k (Array.getElem?_eq_some_iff.1 ho).1 hk).trans ho

/-- The function g, its captured variables lb, hands out the pieces xs in their order; it writes blocks of U alone, which are its own. -/
def Gives (P : Program) (n : Nat) (g : Nat) (lb : Array Value) (U : Nat → Prop) (xs : List Str) (W0 : World) : Prop :=
  ∀ (l : Nat) (J : Nat → World → Prop) (Jx : World → Prop) (W : World), (∀ k, U k → W.heap[k]? = W0.heap[k]?) →
    (∀ i A B, J i A → Kept U A B → J i B) →
    (∀ i x A, J i A → xs[i]? = some x → YieldAt Fence.wide (n - 1) P l #[.string (strS x)] A fun e B =>
      (e = .returned (.bool true) ∧ J (i + 1) B ∧ ∀ k, U k → B.heap[k]? = A.heap[k]?) ∨ (e = .returned (.bool false) ∧ Jx B)) →
    J 0 W → CallsIn Fence.wide n P g (#[.func (.yield l) #[] #[]] ++ lb) W fun e W' => (∃ v, e = .returned v) ∧ (J xs.length W' ∨ Jx W')

/-- How a round's body may be left. -/
def endPost (S : Nat → Prop) (i : Nat) (I : Nat → World → Prop) (Ix : Code → World → Prop) (W : World) : Exit → Act → World → Prop
  | .normal, _, W' => Kept S W W' ∧ I (i + 1) W'
  | .ret, _, W' => Kept S W W' ∧ Ix .ret W'
  | .exit id, _, W' => Kept S W W' ∧ Ix (.exit id) W'
  | .goto t, _, W' => Kept S W W' ∧ Ix (.goto t) W'
  | .panic _, _, _ => False
  | .outgrown, _, _ => False

/-- The statement, in a function's own frame. -/
theorem wpIn_pieces {P : Program} {n : Nat} {g : Operand} {ps : Array Tmp} {assign body : Code} {Q : Exit → Act → World → Prop} {a : Act} {w : World} {gf : Nat} {lb : Array Value}
    (hg : a.eval g = .func (.func gf) #[] lb) (eg : ∀ args w, (callFunc gf args).run P w = .ok (.enter gf args) w) (hps : ps.size = 1)
    {U R : Nat → Prop} {xs : List Str} (hseq : Gives P (n - 1) gf lb U xs w) (hU : ∀ k, U k → k < w.heap.size)
    (hR : ∀ k, R k ↔ U k ∨ k = w.heap.size ∨ k = w.heap.size + 1)
    (I : Nat → World → Prop) (Ix : Code → World → Prop) (hI : ∀ i A B, I i A → Kept R A B → I i B) (hIx : ∀ c A B, Ix c A → Kept R A B → Ix c B)
    (h0 : ∀ W, Kept (fun _ => False) w W → I 0 W) (a₁ : Str → Act)
    (hassign : ∀ (x : Str) (W : World) (K : Act → World → Prop), K (a₁ x) W →
      assign.wpIn (Fence.wide.inRound (w.heap.size + 1)) (n - 1 - 1) P (Exit.then K (fun _ _ _ => False)) { tmps := (ps.zip #[.string (strS x)]).foldl (fun t (p, v) => t.setIfInBounds p v) a.tmps, defers := [] } W)
    (hbody : ∀ (i : Nat) (x : Str) (W : World), xs[i]? = some x → w.heap.size + 1 < W.heap.size → I i W →
      body.wpIn (Fence.wide.inRound (w.heap.size + 1)) (n - 1 - 1) P (endPost (fun k => ¬ R k) i I Ix W) (a₁ x) W)
    (hdone : ∀ W, I xs.length W → W.heap[w.heap.size]? = some (.deferred (some [])) → Q .normal { a with defers := { target := .collected w.heap.size, args := #[] } :: a.defers } W)
    (hstop : ∀ c W, Ix c W → W.heap[w.heap.size]? = some (.deferred (some [])) → c.wpIn Fence.wide n P Q { a with defers := { target := .collected w.heap.size, args := #[] } :: a.defers } W) :
    (Code.rangeFunc g ps assign body).wpIn Fence.wide n P Q a w := by
  refine wpIn_rangeFunc ?_
  intro fn hfn
  rw [show Fence.wide.round = none from rfl]
  obtain ⟨rec, hrec⟩ : ∃ rec : LoopState → Option Code → Loop, rec = fun st pe => { state := st, pending := pe, fn, tmps := a.tmps, params := ps, assign, body, defers := w.heap.size } := ⟨_, rfl⟩
  obtain ⟨W1, hW1⟩ : ∃ W1, (w.alloc (.deferred (some []))).alloc (.loop (rec .ready none)) = W1 := ⟨_, rfl⟩
  have hkw : Kept (fun _ => False) w W1 := by rw [← hW1]; exact ((Kept.refl _ w).alloc _).alloc _
  have hL1 : W1.heap[w.heap.size + 1]? = some (.loop (rec .ready none)) := by
    rw [← hW1]; have := World.alloc_heap_new (w.alloc (.deferred (some []))) (.loop (rec .ready none)); rwa [World.size_alloc] at this
  have hK1 : W1.heap[w.heap.size]? = some (.deferred (some [])) := by
    rw [← hW1]; exact (Below.heap_alloc _ _ _ (by simp)).trans (World.alloc_heap_new w _)
  have u0 : ¬ U w.heap.size := fun h => by have := hU _ h; omega
  have u1 : ¬ U (w.heap.size + 1) := fun h => by have := hU _ h; omega
  have r0 : R w.heap.size := (hR _).2 (.inr (.inl rfl))
  have r1 : R (w.heap.size + 1) := (hR _).2 (.inr (.inr rfl))
  have hput : ∀ (A : World) (o : Obj), Kept R A (A.putObj (w.heap.size + 1) o) := fun A o => (Kept.refl R A).putObj o r1
  refine ⟨w.heap.size + 1, [{ target := .collected w.heap.size, args := #[] }], W1, { target := .fn (.func gf) lb, args := #[.func (.yield (w.heap.size + 1)) #[] #[]] }, W1, gf,
    #[.func (.yield (w.heap.size + 1)) #[] #[]] ++ lb, W1, ?_, ?_, ?_, ?_, (fun h => by cases h), ?_⟩
  · rw [← hW1, hrec]; exact run_enterLoop_outer _ _ _ _ _
  · simp only [resolve, hg]
    simp [go_sem]
  · exact fun _ _ => trivial
  · simp [invoke, go_sem, eg]
  · refine (hseq (w.heap.size + 1)
      (fun i W => I i W ∧ W.heap[w.heap.size + 1]? = some (.loop (rec .ready none)) ∧ W.heap[w.heap.size]? = some (.deferred (some [])))
      (fun W => ∃ c, Ix c W ∧ W.heap[w.heap.size + 1]? = some (.loop (rec .done (some c))) ∧ W.heap[w.heap.size]? = some (.deferred (some [])))
      W1 (fun k hk => hkw.block k (hU k hk) (fun f => f)) (fun i A B h hk => ⟨hI i A B h.1 (hk.mono (fun k _ hk => (hR k).2 (.inl hk))), hk.at_ h.2.1 u1, hk.at_ h.2.2 u0⟩) ?_ ⟨h0 W1 hkw, hL1, hK1⟩).mono ?_
    · rintro i x W ⟨hi, hl, hk⟩ hx
      have hlt : w.heap.size + 1 < W.heap.size := (Array.getElem?_eq_some_iff.1 hl).1
      have hy := run_yield (P := P) (args := #[.string (strS x)]) hl (by rw [hrec]; exact hps.symm)
      rw [hrec] at hy
      refine ⟨fn, _, assign, body, hy, roundIn_of_wpIn hfn (hassign x W _ ⟨_, run_beginRound hl (by rw [hrec]), ?_⟩)⟩
      obtain ⟨W2, hW2⟩ : ∃ W2, W.putObj (w.heap.size + 1) (.loop { rec .ready none with state := .busy }) = W2 := ⟨_, rfl⟩
      have hk2 : Kept R W W2 := by rw [← hW2]; exact hput _ _
      have hl2 : W2.heap[w.heap.size + 1]? = some (.loop { rec .ready none with state := .busy }) := by rw [← hW2]; exact World.putObj_heap_same hlt
      have hd2 : W2.heap[w.heap.size]? = some (.deferred (some [])) := by rw [← hW2]; exact (World.putObj_heap_other (by omega)).trans hk
      have hu2 : ∀ k, U k → W2.heap[k]? = W.heap[k]? := fun k h => by rw [← hW2]; exact World.putObj_heap_other (by have := hU k h; omega)
      have hs2 : W2.heap.size = W.heap.size := by rw [← hW2]; simp
      rw [hW2]
      refine wpIn_mono (hbody i x W2 hx (by omega) (hI i W W2 hi hk2)) ?_
      have fin : ∀ (jump : Option Code) (W3 : World), Kept (fun k => ¬ R k) W2 W3 →
          (Instr.endRound (w.heap.size + 1) jump).run P W3 = .ok (.bool jump.isNone) (W3.putObj (w.heap.size + 1) (.loop (rec (if jump.isNone then .ready else .done) jump))) ∧
          (W3.putObj (w.heap.size + 1) (.loop (rec (if jump.isNone then .ready else .done) jump))).heap[w.heap.size + 1]? = some (.loop (rec (if jump.isNone then .ready else .done) jump)) ∧
          (W3.putObj (w.heap.size + 1) (.loop (rec (if jump.isNone then .ready else .done) jump))).heap[w.heap.size]? = some (.deferred (some [])) ∧
          ∀ k, U k → (W3.putObj (w.heap.size + 1) (.loop (rec (if jump.isNone then .ready else .done) jump))).heap[k]? = W.heap[k]? := fun jump W3 hk3 => by
        have hl3 := hk3.at_ hl2 (fun h => h r1)
        have hd3 := hk3.at_ hd2 (fun h => h r0)
        have := run_endRound (P := P) jump hl3
        rw [hrec] at this ⊢
        rw [hrec] at hl3
        refine ⟨this, World.putObj_heap_same (Array.getElem?_eq_some_iff.1 hl3).1, (World.putObj_heap_other (by omega)).trans hd3, fun k hu => ?_⟩
        have hlk := hU k hu
        exact ((World.putObj_heap_other (by omega)).trans (hk3.block k (by omega) (fun h => h ((hR k).2 (.inl hu))))).trans (hu2 k hu)
      rintro e a3 W3 hp
      cases e with
      | normal =>
        obtain ⟨hk3, hi3⟩ := hp
        obtain ⟨hr, hl4, hd4, hu4⟩ := fin none W3 hk3
        exact ⟨_, _, hr, .inl ⟨rfl, ⟨hI _ _ _ hi3 (hput _ _), hl4, hd4⟩, hu4⟩⟩
      | ret =>
        obtain ⟨hk3, hi3⟩ := hp
        obtain ⟨hr, hl4, hd4, _⟩ := fin (some .ret) W3 hk3
        exact ⟨_, _, hr, .inr ⟨rfl, .ret, hIx _ _ _ hi3 (hput _ _), hl4, hd4⟩⟩
      | exit id =>
        obtain ⟨hk3, hi3⟩ := hp
        obtain ⟨hr, hl4, hd4, _⟩ := fin (some (.exit id)) W3 hk3
        exact ⟨_, _, hr, .inr ⟨rfl, .exit id, hIx _ _ _ hi3 (hput _ _), hl4, hd4⟩⟩
      | goto t =>
        obtain ⟨hk3, hi3⟩ := hp
        obtain ⟨hr, hl4, hd4, _⟩ := fin (some (.goto t)) W3 hk3
        exact ⟨_, _, hr, .inr ⟨rfl, .goto t, hIx _ _ _ hi3 (hput _ _), hl4, hd4⟩⟩
      | panic ch => exact hp.elim
      | outgrown => exact hp.elim
    · rintro e W2 ⟨⟨v, rfl⟩, (⟨hi, hl, hk⟩ | ⟨c, hi, hl, hk⟩)⟩
      · exact ⟨none, _, by have := run_endLoop (P := P) hl (by rw [hrec]; simp); rw [hrec] at this; exact this, hdone _ (hI _ _ _ hi (hput _ _)) ((World.putObj_heap_other (by omega)).trans hk)⟩
      · exact ⟨some c, _, by have := run_endLoop (P := P) hl (by rw [hrec]; simp); rw [hrec] at this; exact this, hstop c _ (hIx _ _ _ hi (hput _ _)) ((World.putObj_heap_other (by omega)).trans hk)⟩

/-- A mark for each loop that was left. -/
def markAt (D : Nat) : Deferred := { target := .collected D, args := #[] }
/-- At a function's end: the marks are taken, one behind the other. -/
theorem leaves_marks {P : Program} {n : Nat} {fn : Func} {tmps : Array Value} {R : Ending → World → Prop} : ∀ (Ds : List Nat) (w : World), Ds.Nodup → (∀ D ∈ Ds, w.heap[D]? = some (.deferred (some []))) →
    (∀ w', Kept (fun k => k ∈ Ds) w w' → ∃ v, (results fn tmps).run P w' = .ok v w' ∧ R (.returned v) w') → LeavesInM Fence.wide n P fn tmps R (Ds.map markAt) .returning w
  | [], w, _, _, h => h w (Kept.refl _ _)
  | D :: Ds, w, hn, hD, h => by
    rw [List.map_cons]
    have h0 := hD D List.mem_cons_self
    refine ⟨by simp, .inl ⟨D, _, rfl, run_takeDeferred h0, ?_⟩⟩
    rw [List.nodup_cons] at hn
    refine leaves_marks Ds _ hn.2 (fun E hE => (World.putObj_heap_other (fun e => hn.1 (by rw [← e]; exact hE))).trans (hD E (List.mem_cons_of_mem _ hE))) (fun w' hk => h w' ?_)
    exact ((Kept.refl _ w).putObj (S := fun k => k ∈ D :: Ds) _ List.mem_cons_self).trans hk (fun i _ hi => List.mem_cons_of_mem _ hi)

end Go.Proofs.YtlhnbihpefgcbaaGreatDoor
