/-
  From what the row lists to what the walks read: the table, where no other variable is listed.
  Conditions: none.
-/
import Derived.Test.YtdkableaooaebaaDoorInsShape
import Derived.Test.YtdkableaooaebaaDoorCards
import Derived.Test.YtdkableaooaebaaDoorTie
import Derived.Lib.LaidU8
import Derived.ProofKit
import Derived.PinnedBridge
import Derived.Lay
import Derived.LaidOnce
import Derived.SevenTiedAt
import Derived.OpenShut
namespace Go.Proofs.YtdkableaooaebaaDoor
open Go.RowKit

section
variable {H : Type} {enc : TypeId × Value → H} {P : Program} {w : World} {base : Nat} {sp : Nat → Bool} {held : Bool}
theorem iface_of {fuel : Nat} {t : TypeId} {ms : Array (String × TypeId)} {cs : List Value} {nm : String} {d : DataW H} {p : List MemPlace} (ht : P.underlying t = some (.interface ms))
    (h : DataW.trod enc P w base sp held fuel t cs = some (.iface nm d, p)) : ∃ u v, cs = [.iface u v] := by
  cases fuel with
  | zero => simp [DataW.trod] at h
  | succ n =>
    unfold DataW.trod at h
    rw [ht] at h
    split at h <;> simp_all
end

/-- A row that lists variables: the walk is handed them, and the world's shape. -/
theorem handed_laid {H : Type} {enc : TypeId × Value → H} {a : Assume} {C : Checked} {os : Os} {f : FuncId} {fn : Func} {s : ChangeSpec} {conds : List PathCond} {apart fresh handsOn again : Bool} {X : World → Array Value → Prop}
    (hX : ∀ (w w' : World) (args : Array Value), w.heap = w'.heap → X w args → X w' args)
    (own : ownKnob C.prog.godebug = none) (started : os.Started) (noInit : C.prog.inits.idxOf? f = none) (hfn : C.prog.funcs[f]? = some fn)
    (witness : ∃ (w : World) (tape : Tape) (i : Input), w.os = os ∧ (w.forCall tape i).Shaped C.prog ∧ i.vars = [] ∧ Input.okWide C.prog (w.forCall tape i) .any w.heap.size f i ∧
      ((s.pre enc C.prog fn conds apart (w.forCall tape i).memory i.args ∧ X (w.forCall tape i).memory i.args) ∧ sizedMet enc C.prog fn (OpenSpec.ofChange s) apart (w.forCall tape i).memory i.args) ∧ a.holds C.prog (lone (Frame.enter C.prog f i.args .normal) [] (w.forCall tape i)))
    (contract : ∀ (W : World) (base : Nat) (args : Array Value) (ds gs : List (DataW H)) (before : List MemPlace),
      (∀ (j : Nat) t v, fn.params[j]? = some t → args[j]? = some v → Value.okWide C.prog W .any base t v) →
      DataW.Whole enc C.prog fn.params.toList s.vars apart W args.toList ds gs before → X W args → W.ShapedOpen C.prog →
      Calls C.prog f args W fun e W' => ∃ v, e = .returned v ∧ s.post enc C.prog fn apart fresh handsOn again W args v W') :
    ReturnsInHanded a C os f .any (fun w args => (s.pre enc C.prog fn conds apart w args ∧ X w args) ∧ sizedMet enc C.prog fn (OpenSpec.ofChange s) apart w args) (s.post enc C.prog fn apart fresh handsOn again) := by
  refine returnsInHanded_of_calls own started noInit witness ?_
  intro w tape i _ hsh _ hok hpre hholds
  obtain ⟨_, _, _, fn', hfn', _, _, _, _, hval⟩ := hok
  obtain rfl : fn' = fn := Option.some.inj (hfn'.symm.trans hfn)
  obtain ⟨⟨⟨ds, gs, before, hw, hc⟩, hx⟩, hz⟩ := hpre
  refine (contract (w.forCall tape i) w.heap.size i.args ds gs before hval (DataW.Whole.of_heap (w' := w.forCall tape i) (by rfl) hw) (hX _ _ _ (by rfl) hx) hsh).mono fun e W' ⟨v, he, hp⟩ => ?_
  subst he
  exact ChangeSpec.post_blind hp

/-- The listed table. -/
theorem shapes_data : ∀ i, i < 23 → ∃ ds, (Rows.laid_thole_ins_shapes : DataW Unit) = .agg ds ∧ ds[i]? = some (.agg [.lit (.string (wordAt i)), .lit (.string (hasAt i)), .lit (.int .i64 (behindAt i))]) := by
  intro i hi
  refine ⟨_, rfl, ?_⟩
  have : i = 0 ∨ i = 1 ∨ i = 2 ∨ i = 3 ∨ i = 4 ∨ i = 5 ∨ i = 6 ∨ i = 7 ∨ i = 8 ∨ i = 9 ∨ i = 10 ∨ i = 11 ∨ i = 12 ∨ i = 13 ∨ i = 14 ∨ i = 15 ∨ i = 16 ∨ i = 17 ∨ i = 18 ∨ i = 19 ∨ i = 20 ∨ i = 21 ∨ i = 22 := by omega
  rcases this with rfl | rfl | rfl | rfl | rfl | rfl | rfl | rfl | rfl | rfl | rfl | rfl | rfl | rfl | rfl | rfl | rfl | rfl | rfl | rfl | rfl | rfl | rfl <;> rfl
theorem shape_cells {w : World} {fuel : Nat} {cs : List Value} {a b : Str} {c : Int} {q : List MemPlace}
    (h : DataW.trod (fun _ => ()) Tryd.prog w 0 (fun _ => true) false fuel 91 cs = some (.agg [.lit (.string a), .lit (.string b), .lit (.int .i64 c)], q)) :
    cs[0]? = some (.string (strS a)) ∧ cs[1]? = some (.string (strS b)) ∧ cs[2]? = some (.int .i64 c) := by
  have c9 : Tryd.prog.cellsOf 9 = 1 := by kernel_rfl
  have c3 : Tryd.prog.cellsOf 3 = 1 := by kernel_rfl
  obtain ⟨xs, n, rfl, hx, hl, hxl, hall⟩ := DataW.trod_struct Tryd.underlying91 h
  simp only [Prod.mk.injEq, DataW.agg.injEq] at hx
  have hx1 := hx.1
  match xs, hx1 with
  | [x0, x1, x2], hx1 =>
    simp only [List.map_cons, List.map_nil, List.cons.injEq, and_true] at hx1
    obtain ⟨e0, e1, e2⟩ := hx1
    have h0 : DataW.trod (fun _ => ()) Tryd.prog w 0 (fun _ => true) false n 9 ((cs.drop 0).take (Tryd.prog.cellsOf 9)) = some x0 := hall 0 _ rfl
    have h1 : DataW.trod (fun _ => ()) Tryd.prog w 0 (fun _ => true) false n 9 ((cs.drop 1).take (Tryd.prog.cellsOf 9)) = some x1 := hall 1 _ rfl
    have h2 : DataW.trod (fun _ => ()) Tryd.prog w 0 (fun _ => true) false n 3 ((cs.drop 2).take (Tryd.prog.cellsOf 3)) = some x2 := hall 2 _ rfl
    rw [c9] at h0 h1
    rw [c3] at h2
    obtain ⟨s0, f0, g0, _⟩ := DataW.trod_string Tryd.underlying9 h0
    obtain ⟨s1, f1, g1, _⟩ := DataW.trod_string Tryd.underlying9 h1
    obtain ⟨z, f2, g2, _⟩ := DataW.trod_int Tryd.underlying3 h2
    subst g0 g1 g2
    simp only [DataW.lit.injEq, Lit.string.injEq, Lit.int.injEq, true_and] at e0 e1 e2
    refine ⟨?_, ?_, ?_⟩
    · have := congrArg (·[0]?) f0
      have q : strS a = s0 := by rw [e0]; rfl
      rw [q]
      simpa [List.getElem?_take, List.getElem?_drop] using this
    · have := congrArg (·[0]?) f1
      have q : strS b = s1 := by rw [e1]; rfl
      rw [q]
      simpa [List.getElem?_take, List.getElem?_drop] using this
    · have := congrArg (·[0]?) f2
      rw [e2]
      simpa [List.getElem?_take, List.getElem?_drop] using this

def rowLaid : List (String × DataW Unit) := [("thole/ins.shapes", Rows.laid_thole_ins_shapes)]

theorem gShapes : Tryd.prog.globalNamed "thole/ins.shapes" = some 0 := by kernel_rfl
theorem yShapes : (Tryd.prog.globals[0]?).map (·.type) = some 101 := by kernel_rfl

theorem cell_lt {w : World} {g k : Nat} {v : Value} (h : w.cell? ⟨g, k, none⟩ = some v) : g < w.heap.size := by
  rcases Nat.lt_or_ge g w.heap.size with h1 | h1
  · exact h1
  · have h2 : w.heap[g]? = none := Array.getElem?_eq_none h1
    simp [World.cell?, h2] at h

theorem laid_of {W : World} (hL : laidMet Tryd.prog rowLaid W) (_hsh : W.ShapedOpen Tryd.prog) : Laid W := by
  have hshapes : ∀ (k : Nat) v, shCells[k]? = some v → W.cell? ⟨0, k, none⟩ = some v := by
    obtain ⟨g, t, cs, fuel, p, hg, hty, hvar, hd⟩ := Lib.laidMet.reads hL (n := "thole/ins.shapes") (d := Rows.laid_thole_ins_shapes) (.head _)
    obtain rfl := Option.some.inj (gShapes.symm.trans hg)
    obtain rfl := Option.some.inj (yShapes.symm.trans hty)
    have c48 : Tryd.prog.cellsOf 91 = 3 := by kernel_rfl
    intro k v hv
    have hk : k < 69 := by
      have := (List.getElem?_eq_some_iff.1 hv).1
      exact this
    obtain ⟨ds, hds, hdi⟩ := shapes_data (k / 3) (by omega)
    rw [hds] at hd
    obtain ⟨fuel', d, q, h1, h2⟩ := Lib.array_elem Tryd.underlying101 hd (k / 3) (by omega)
    rw [hdi] at h1
    simp only [Option.some.injEq] at h1
    subst h1
    rw [c48] at h2
    obtain ⟨p0, p1, p2⟩ := shape_cells h2
    obtain ⟨s0, s1, s2⟩ := sh_at (k / 3) (by omega)
    simp only [List.getElem?_take, List.getElem?_drop] at p0 p1 p2
    rw [World.var?_cell hg hvar k, ← Array.getElem?_toList]
    have hm : k % 3 = 0 ∨ k % 3 = 1 ∨ k % 3 = 2 := by omega
    rcases hm with hm | hm | hm
    · have e : k = 3 * (k / 3) := by omega
      rw [← e] at s0
      rw [s0] at hv
      rw [← hv, Array.getElem?_toList]
      have := p0
      simp at this
      rw [show k / 3 * 3 = k by omega] at this
      exact this
    · have e : k = 3 * (k / 3) + 1 := by omega
      rw [← e] at s1
      rw [s1] at hv
      rw [← hv, Array.getElem?_toList]
      have := p1
      simp at this
      rw [show k / 3 * 3 + 1 = k by omega] at this
      exact this
    · have e : k = 3 * (k / 3) + 2 := by omega
      rw [← e] at s2
      rw [s2] at hv
      rw [← hv, Array.getElem?_toList]
      have := p2
      simp at this
      rw [show k / 3 * 3 + 2 = k by omega] at this
      exact this
  refine ⟨fun k hk => ?_, hshapes⟩
  obtain rfl := hk
  exact cell_lt (hshapes 0 _ rfl)

end Go.Proofs.YtdkableaooaebaaDoor
