/-
  Scripts in memory: an api.Script that reads as lists of objects, of threads' calls and of picks.
  Conditions: none; these are lemmas for the walks.
-/
import Derived.Test.YtbodlaiakcoabaaGreatDoorRowOwn
set_option maxRecDepth 100000
namespace Go.Proofs.YtbodlaiakcoabaaGreatDoor
open Go.RowKit Go.ChangeShapes Go.WideShapes

/-- An object, a call, a pick; a thread's program: a slice, and what it reads as. -/
structure Ob where
  kind : Int
  fair : Bool
  n : Int
structure Cl where
  kind : Int
  obj : Int
  n : Int
  wait : Int
  breaks : Bool
structure Pi where
  kind : Int
  n : Int
structure Pr where
  s : Option Addr
  cap : Nat
  ops : List Cl
def Ob.cells (x : Ob) : List Value := [.int .i64 x.kind, .bool x.fair, .int .i64 x.n]
def Cl.cells (x : Cl) : List Value := [.int .i64 x.kind, .int .i64 x.obj, .int .i64 x.n, .int .i64 x.wait, .bool x.breaks]
def Pi.cells (x : Pi) : List Value := [.int .i64 x.kind, .int .i64 x.n]
def Pr.cells (x : Pr) : List Value := [.slice x.s x.ops.length x.cap]
@[reducible] def Ob.agg (x : Ob) : Value := .agg #[.int .i64 x.kind, .bool x.fair, .int .i64 x.n]
@[reducible] def Cl.agg (x : Cl) : Value := .agg #[.int .i64 x.kind, .int .i64 x.obj, .int .i64 x.n, .int .i64 x.wait, .bool x.breaks]
@[reducible] def Pi.agg (x : Pi) : Value := .agg #[.int .i64 x.kind, .int .i64 x.n]

/-- A script: three slices, and what they read as. -/
structure Sc where
  os : Option Addr
  oc : Nat
  obs : List Ob
  ps : Option Addr
  pc : Nat
  prs : List Pr
  ks : Option Addr
  kc : Nat
  pis : List Pi
@[reducible] def Sc.agg (x : Sc) : Value := .agg #[.slice x.os x.obs.length x.oc, .slice x.ps x.prs.length x.pc, .slice x.ks x.pis.length x.kc]

/-- The slice p of threads' programs reads as prs, in blocks below B. -/
structure Prs (w : World) (B : Nat) (s : Option Addr) (prs : List Pr) : Prop where
  row : Elems w B s 1 Pr.cells prs
  ops : ∀ p ∈ prs, Elems w B p.s 5 Cl.cells p.ops
/-- A script lies in blocks below B. -/
structure Lies (w : World) (B : Nat) (x : Sc) : Prop where
  obs : Elems w B x.os 3 Ob.cells x.obs
  prs : Prs w B x.ps x.prs
  pis : Elems w B x.ks 2 Pi.cells x.pis

section
variable {w w' : World} {B : Nat} {S : Nat → Prop}
theorem Prs.kept {s : Option Addr} {prs : List Pr} (h : Prs w B s prs) (hk : Kept S w w') (hB : B ≤ w.heap.size) (hS : ∀ k, k < B → ¬ S k) : Prs w' B s prs :=
  ⟨h.row.kept hk hB hS, fun p hp => (h.ops p hp).kept hk hB hS⟩
theorem Lies.kept {x : Sc} (h : Lies w B x) (hk : Kept S w w') (hB : B ≤ w.heap.size) (hS : ∀ k, k < B → ¬ S k) : Lies w' B x :=
  ⟨h.obs.kept hk hB hS, h.prs.kept hk hB hS, h.pis.kept hk hB hS⟩
theorem Prs.more {C : Nat} {s : Option Addr} {prs : List Pr} (h : Prs w B s prs) (hBC : B ≤ C) : Prs w C s prs := ⟨h.row.more hBC, fun p hp => (h.ops p hp).more hBC⟩
theorem Lies.more {C : Nat} {x : Sc} (h : Lies w B x) (hBC : B ≤ C) : Lies w C x := ⟨h.obs.more hBC, h.prs.more hBC, h.pis.more hBC⟩

theorem ob_at {s : Option Addr} {xs : List Ob} (h : Elems w B s 3 Ob.cells xs) {k : Nat} {x : Ob} (hx : xs[k]? = some x) :
    ∃ g off, s = some ⟨g, off, none⟩ ∧ g < B ∧ w.cell? ⟨g, off + k * 3, none⟩ = some (.int .i64 x.kind) ∧ w.cell? ⟨g, off + k * 3 + 1, none⟩ = some (.bool x.fair) ∧ w.cell? ⟨g, off + k * 3 + 2, none⟩ = some (.int .i64 x.n) := by
  obtain ⟨g, off, e, hb, hc⟩ := h.2 k x hx
  exact ⟨g, off, e, hb, hc 0 _ rfl, hc 1 _ rfl, hc 2 _ rfl⟩
theorem cl_at {s : Option Addr} {xs : List Cl} (h : Elems w B s 5 Cl.cells xs) {k : Nat} {x : Cl} (hx : xs[k]? = some x) :
    ∃ g off, s = some ⟨g, off, none⟩ ∧ g < B ∧ w.cell? ⟨g, off + k * 5, none⟩ = some (.int .i64 x.kind) ∧ w.cell? ⟨g, off + k * 5 + 1, none⟩ = some (.int .i64 x.obj) ∧ w.cell? ⟨g, off + k * 5 + 2, none⟩ = some (.int .i64 x.n) ∧
      w.cell? ⟨g, off + k * 5 + 3, none⟩ = some (.int .i64 x.wait) ∧ w.cell? ⟨g, off + k * 5 + 4, none⟩ = some (.bool x.breaks) := by
  obtain ⟨g, off, e, hb, hc⟩ := h.2 k x hx
  exact ⟨g, off, e, hb, hc 0 _ rfl, hc 1 _ rfl, hc 2 _ rfl, hc 3 _ rfl, hc 4 _ rfl⟩
theorem pi_at {s : Option Addr} {xs : List Pi} (h : Elems w B s 2 Pi.cells xs) {k : Nat} {x : Pi} (hx : xs[k]? = some x) :
    ∃ g off, s = some ⟨g, off, none⟩ ∧ g < B ∧ w.cell? ⟨g, off + k * 2, none⟩ = some (.int .i64 x.kind) ∧ w.cell? ⟨g, off + k * 2 + 1, none⟩ = some (.int .i64 x.n) := by
  obtain ⟨g, off, e, hb, hc⟩ := h.2 k x hx
  exact ⟨g, off, e, hb, hc 0 _ rfl, hc 1 _ rfl⟩
theorem pr_at {s : Option Addr} {xs : List Pr} (h : Elems w B s 1 Pr.cells xs) {k : Nat} {x : Pr} (hx : xs[k]? = some x) :
    ∃ g off, s = some ⟨g, off, none⟩ ∧ g < B ∧ w.cell? ⟨g, off + k, none⟩ = some (.slice x.s x.ops.length x.cap) := by
  obtain ⟨g, off, e, hb, hc⟩ := h.2 k x hx
  have h0 := hc 0 _ rfl
  rw [Nat.mul_one, Nat.add_zero] at h0
  exact ⟨g, off, e, hb, h0⟩
end

theorem Tryz.sc_int : Tryz.prog.cellsOf 3 = 1 := by kernel_rfl
theorem Tryz.sc_int64 : Tryz.prog.cellsOf 2 = 1 := by kernel_rfl
theorem Tryz.sc_bool : Tryz.prog.cellsOf 4 = 1 := by kernel_rfl
theorem Tryz.sc_object : Tryz.prog.cellsOf 70 = 3 := by kernel_rfl
theorem Tryz.sc_op : Tryz.prog.cellsOf 72 = 5 := by kernel_rfl
theorem Tryz.sc_pick : Tryz.prog.cellsOf 119 = 2 := by kernel_rfl
theorem Tryz.sc_ops : Tryz.prog.cellsOf 50 = 1 := by kernel_rfl
theorem Tryz.sc_objects : Tryz.prog.cellsOf 22 = 1 := by kernel_rfl
theorem Tryz.sc_picks : Tryz.prog.cellsOf 24 = 1 := by kernel_rfl
theorem Tryz.sc_programs : Tryz.prog.cellsOf 23 = 1 := by kernel_rfl
theorem Tryz.sc_script : Tryz.prog.cellsOf 26 = 3 := by kernel_rfl

section
variable {H : Type} {enc : TypeId × Value → H} {w : World}
theorem obs_of {s : Option Addr} {len cap : Nat} {d : DataW H} {p : List MemPlace}
    (h : DataW.Trod enc Tryz.prog w 0 (fun _ => true) true 22 (.slice s len cap) d p) : ∃ xs, xs.length = len ∧ Elems w w.heap.size s 3 Ob.cells xs := by
  refine Exists.imp (fun xs h => ⟨h.1, h.2.1⟩) (elems_of (Q := fun _ : Ob => True) Tryz.underlying22 Tryz.sc_object (by omega) (fun k cs y hl ht => ?_) h)
  obtain ⟨xs, k', _, _, _, hxl, hfld⟩ := DataW.trod_struct Tryz.underlying70 ht
  match cs, hl, xs, hxl with
  | [c0, c1, c2], _, [y0, y1, y2], _ =>
    have f0 : DataW.trod enc Tryz.prog w 0 (fun _ => true) true k' 3 (([c0, c1, c2].drop 0).take (Tryz.prog.cellsOf 3)) = some y0 := hfld 0 _ rfl
    have f1 : DataW.trod enc Tryz.prog w 0 (fun _ => true) true k' 4 (([c0, c1, c2].drop 1).take (Tryz.prog.cellsOf 4)) = some y1 := hfld 1 _ rfl
    have f2 : DataW.trod enc Tryz.prog w 0 (fun _ => true) true k' 3 (([c0, c1, c2].drop 2).take (Tryz.prog.cellsOf 3)) = some y2 := hfld 2 _ rfl
    rw [Tryz.sc_int] at f0 f2
    rw [Tryz.sc_bool] at f1
    simp only [List.drop_zero, List.drop_succ_cons, List.take_succ_cons, List.take_zero] at f0 f1 f2
    obtain ⟨a, e0, _, w0⟩ := DataW.trod_int Tryz.underlying3 f0
    obtain ⟨b, e1, _⟩ := DataW.trod_bool Tryz.underlying4 f1
    obtain ⟨c, e2, _, w2⟩ := DataW.trod_int Tryz.underlying3 f2
    simp only [List.cons.injEq, and_true] at e0 e1 e2
    subst e0 e1 e2
    exact ⟨⟨a, b, c⟩, rfl, trivial⟩

theorem pis_of {s : Option Addr} {len cap : Nat} {d : DataW H} {p : List MemPlace}
    (h : DataW.Trod enc Tryz.prog w 0 (fun _ => true) true 24 (.slice s len cap) d p) : ∃ xs, xs.length = len ∧ Elems w w.heap.size s 2 Pi.cells xs := by
  refine Exists.imp (fun xs h => ⟨h.1, h.2.1⟩) (elems_of (Q := fun _ : Pi => True) Tryz.underlying24 Tryz.sc_pick (by omega) (fun k cs y hl ht => ?_) h)
  obtain ⟨xs, k', _, _, _, hxl, hfld⟩ := DataW.trod_struct Tryz.underlying119 ht
  match cs, hl, xs, hxl with
  | [c0, c1], _, [y0, y1], _ =>
    have f0 : DataW.trod enc Tryz.prog w 0 (fun _ => true) true k' 3 (([c0, c1].drop 0).take (Tryz.prog.cellsOf 3)) = some y0 := hfld 0 _ rfl
    have f1 : DataW.trod enc Tryz.prog w 0 (fun _ => true) true k' 2 (([c0, c1].drop 1).take (Tryz.prog.cellsOf 2)) = some y1 := hfld 1 _ rfl
    rw [Tryz.sc_int] at f0
    rw [Tryz.sc_int64] at f1
    simp only [List.drop_zero, List.drop_succ_cons, List.take_succ_cons, List.take_zero] at f0 f1
    obtain ⟨a, e0, _, w0⟩ := DataW.trod_int Tryz.underlying3 f0
    obtain ⟨b, e1, _, w1⟩ := DataW.trod_int Tryz.underlying2 f1
    simp only [List.cons.injEq, and_true] at e0 e1
    subst e0 e1
    exact ⟨⟨a, b⟩, rfl, trivial⟩

theorem ops_of {s : Option Addr} {len cap : Nat} {d : DataW H} {p : List MemPlace}
    (h : DataW.Trod enc Tryz.prog w 0 (fun _ => true) true 50 (.slice s len cap) d p) : ∃ xs, xs.length = len ∧ Elems w w.heap.size s 5 Cl.cells xs := by
  refine Exists.imp (fun xs h => ⟨h.1, h.2.1⟩) (elems_of (Q := fun _ : Cl => True) Tryz.underlying50 Tryz.sc_op (by omega) (fun k cs y hl ht => ?_) h)
  obtain ⟨xs, k', _, _, _, hxl, hfld⟩ := DataW.trod_struct Tryz.underlying72 ht
  match cs, hl, xs, hxl with
  | [c0, c1, c2, c3, c4], _, [y0, y1, y2, y3, y4], _ =>
    have f0 : DataW.trod enc Tryz.prog w 0 (fun _ => true) true k' 3 (([c0, c1, c2, c3, c4].drop 0).take (Tryz.prog.cellsOf 3)) = some y0 := hfld 0 _ rfl
    have f1 : DataW.trod enc Tryz.prog w 0 (fun _ => true) true k' 3 (([c0, c1, c2, c3, c4].drop 1).take (Tryz.prog.cellsOf 3)) = some y1 := hfld 1 _ rfl
    have f2 : DataW.trod enc Tryz.prog w 0 (fun _ => true) true k' 3 (([c0, c1, c2, c3, c4].drop 2).take (Tryz.prog.cellsOf 3)) = some y2 := hfld 2 _ rfl
    have f3 : DataW.trod enc Tryz.prog w 0 (fun _ => true) true k' 2 (([c0, c1, c2, c3, c4].drop 3).take (Tryz.prog.cellsOf 2)) = some y3 := hfld 3 _ rfl
    have f4 : DataW.trod enc Tryz.prog w 0 (fun _ => true) true k' 4 (([c0, c1, c2, c3, c4].drop 4).take (Tryz.prog.cellsOf 4)) = some y4 := hfld 4 _ rfl
    rw [Tryz.sc_int] at f0 f1 f2
    rw [Tryz.sc_int64] at f3
    rw [Tryz.sc_bool] at f4
    simp only [List.drop_zero, List.drop_succ_cons, List.take_succ_cons, List.take_zero] at f0 f1 f2 f3 f4
    obtain ⟨a, e0, _, w0⟩ := DataW.trod_int Tryz.underlying3 f0
    obtain ⟨b, e1, _, w1⟩ := DataW.trod_int Tryz.underlying3 f1
    obtain ⟨c, e2, _, w2⟩ := DataW.trod_int Tryz.underlying3 f2
    obtain ⟨d, e3, _, w3⟩ := DataW.trod_int Tryz.underlying2 f3
    obtain ⟨f, e4, _⟩ := DataW.trod_bool Tryz.underlying4 f4
    simp only [List.cons.injEq, and_true] at e0 e1 e2 e3 e4
    subst e0 e1 e2 e3 e4
    exact ⟨⟨a, b, c, d, f⟩, rfl, trivial⟩

/-- A slice's one cell. -/
theorem slice_of {P : Program} {t e : TypeId} {k : Nat} {c : Value} {y : DataW H × List MemPlace} (ht : P.underlying t = some (.slice e)) (h : DataW.trod enc P w 0 (fun _ => true) true k t [c] = some y) :
    ∃ s len cap, c = .slice s len cap ∧ DataW.Trod enc P w 0 (fun _ => true) true t (.slice s len cap) y.1 y.2 := by
  rcases Go.Deep.open_slice ht h with ⟨hcs, _⟩ | ⟨ad, l, c', mm, n, D, Pl, hcs, _⟩
  · simp only [List.cons.injEq, and_true] at hcs
    subst hcs
    exact ⟨_, _, _, rfl, k, h⟩
  · simp only [List.cons.injEq, and_true] at hcs
    subst hcs
    exact ⟨_, _, _, rfl, k, h⟩

theorem prs_of {s : Option Addr} {len cap : Nat} {d : DataW H} {p : List MemPlace}
    (h : DataW.Trod enc Tryz.prog w 0 (fun _ => true) true 23 (.slice s len cap) d p) : ∃ xs, xs.length = len ∧ Prs w w.heap.size s xs := by
  refine Exists.imp (fun xs h => ⟨h.1, h.2.1, h.2.2⟩) (elems_of (Q := fun p : Pr => Elems w w.heap.size p.s 5 Cl.cells p.ops) (f := Pr.cells) Tryz.underlying23 Tryz.sc_ops (by omega) (fun k cs y hl ht => ?_) h)
  match cs, hl with
  | [c0], _ =>
    obtain ⟨s', l', c', rfl, ht'⟩ := slice_of Tryz.underlying50 ht
    obtain ⟨xs, rfl, hx⟩ := ops_of ht'
    exact ⟨⟨s', c', xs⟩, rfl, hx⟩

/-- A script that came in. -/
theorem sc_of {v : Value} {d : DataW H} {p : List MemPlace} (hv : ∃ cs : Array Value, v = .agg cs ∧ cs.size = Tryz.prog.cellsOf 26)
    (h : DataW.Trod enc Tryz.prog w 0 (fun _ => true) true 26 v d p) : ∃ x : Sc, v = x.agg ∧ Lies w w.heap.size x := by
  obtain ⟨⟨cs⟩, rfl, hs⟩ := hv
  rw [Tryz.sc_script] at hs
  obtain ⟨k, hk⟩ := h
  obtain ⟨ys, k', _, _, _, hyl, hfld⟩ := DataW.trod_struct Tryz.underlying26 hk
  match cs, hs, ys, hyl with
  | [c0, c1, c2], _, [y0, y1, y2], _ =>
    have f0 : DataW.trod enc Tryz.prog w 0 (fun _ => true) true k' 22 (([c0, c1, c2].drop 0).take (Tryz.prog.cellsOf 22)) = some y0 := hfld 0 _ rfl
    have f1 : DataW.trod enc Tryz.prog w 0 (fun _ => true) true k' 23 (([c0, c1, c2].drop 1).take (Tryz.prog.cellsOf 23)) = some y1 := hfld 1 _ rfl
    have f2 : DataW.trod enc Tryz.prog w 0 (fun _ => true) true k' 24 (([c0, c1, c2].drop 2).take (Tryz.prog.cellsOf 24)) = some y2 := hfld 2 _ rfl
    rw [Tryz.sc_objects] at f0
    rw [Tryz.sc_programs] at f1
    rw [Tryz.sc_picks] at f2
    simp only [List.drop_zero, List.drop_succ_cons, List.take_succ_cons, List.take_zero] at f0 f1 f2
    obtain ⟨s0, l0, m0, rfl, h0⟩ := slice_of Tryz.underlying22 f0
    obtain ⟨s1, l1, m1, rfl, h1⟩ := slice_of Tryz.underlying23 f1
    obtain ⟨s2, l2, m2, rfl, h2⟩ := slice_of Tryz.underlying24 f2
    obtain ⟨obs, rfl, g0⟩ := obs_of h0
    obtain ⟨prs, rfl, g1⟩ := prs_of h1
    obtain ⟨pis, rfl, g2⟩ := pis_of h2
    exact ⟨⟨s0, m0, obs, s1, m1, prs, s2, m2, pis⟩, rfl, g0, g1, g2⟩
end

end Go.Proofs.YtbodlaiakcoabaaGreatDoor
