/-
  Histories, plain mathematics: the rows of a call, whether marks begin one, or are one; what an event comes to.
  Conditions: none.
-/
import Derived.Test.YtbodlaiakcoabaaGreatDoorModM
import Derived.Test.YtbodlaiakcoabaaGreatDoorLists
namespace Go.Proofs.YtbodlaiakcoabaaGreatDoor
open Go.RowKit

/-- A mark. -/
structure Mk where
  kind : Int
  v : Int
  deriving DecidableEq
def Mk.cells (m : Mk) : List Value := [.int .i64 m.kind, .int .i64 m.v]
@[reducible] def Mk.agg (m : Mk) : Value := .agg #[.int .i64 m.kind, .int .i64 m.v]
theorem Mk.two (m : Mk) : m.cells.length = 2 := rfl
/-- An event. -/
structure Ev where
  kind : Int
  thread : Int
  now : Int
  m : Mk
  value : Int
  got : Int
  deriving DecidableEq
def Ev.cells (e : Ev) : List Value := [.int .i64 e.kind, .int .i64 e.thread, .int .i64 e.now, .int .i64 e.m.kind, .int .i64 e.m.v, .int .i64 e.value, .int .i64 e.got]
@[reducible] def Ev.agg (e : Ev) : Value := .agg #[.int .i64 e.kind, .int .i64 e.thread, .int .i64 e.now, .int .i64 e.m.kind, .int .i64 e.m.v, .int .i64 e.value, .int .i64 e.got]

/-- Marks at places, each of which knows what stood ahead of it. -/
def goP : List (List Mk → Mk → Bool) → List Mk → List Mk → Bool
  | _, _, [] => true
  | [], _, _ :: _ => false
  | p :: ps, pre, m :: l => p pre m && goP ps (pre ++ [m]) l
def justP (k v : Int) : List Mk → Mk → Bool := fun _ m => m.kind == k && m.v == v
def ofP (k : Int) : List Mk → Mk → Bool := fun _ m => m.kind == k
def takeP : List Mk → Mk → Bool := fun pre m => m.kind == 1 && m.v == (pre.headD ⟨0, 0⟩).v
/-- A row: whether marks begin it, and are it; and its results. -/
structure Rw where
  look : List Mk → Bool × Bool
  to : List Int
def marksL (ps : List (List Mk → Mk → Bool)) : List Mk → Bool × Bool := fun l => (goP ps [] l, goP ps [] l && l.length == ps.length)
def manyL (each last : Mk → Bool) : List Mk → Bool × Bool
  | [] => (true, false)
  | m :: l => if last m then (l.isEmpty, l.isEmpty) else if each m then manyL each last l else (false, false)
def beginsM (rs : List Rw) (l : List Mk) : Bool := rs.any (fun r => (r.look l).1)
def comesM (rs : List Rw) (l : List Mk) (res : Int) : Bool := rs.any (fun r => (r.look l).2 && r.to.contains res)

def quitR : Rw := ⟨marksL [ofP 17], [2, 3]⟩
def noneR : Rw := ⟨marksL [], [6]⟩
def takeR (v : Int) : Rw := ⟨marksL [justP 1 v], [0]⟩
def overR (v : Int) : Rw := ⟨marksL [justP 7 v], [5]⟩
def failR (v : Int) : Rw := ⟨marksL [justP 5 v], [1]⟩
def freeR (v : Int) : Rw := ⟨marksL [justP 3 v], [0]⟩
def monR (v : Int) : Rw := ⟨marksL [justP 6 v], [4]⟩
def readR : Rw := ⟨marksL [justP 2 0], [0]⟩
def unreadR : Rw := ⟨marksL [justP 4 0], [0]⟩
def okR (k : Int) : Rw := ⟨marksL [ofP k], [0]⟩
def holdRows (k : Int) : List Rw := if k = 1 ∨ k = 13 then [quitR, noneR, takeR 1, overR 0] else if k = 2 ∨ k = 14 then [takeR 1, overR 0, failR 0] else [freeR 0, monR 0]
def readRows (k : Int) : List Rw := if k = 10 then [quitR, noneR, readR, overR 1] else if k = 11 then [readR, overR 1, failR 1] else [unreadR, monR 1]
def semaRows (k n : Int) : List Rw := if k = 4 then [quitR, noneR, takeR n] else if k = 5 then [takeR n, failR n] else if k = 6 then [freeR n, overR n] else [okR 9]
def latchRows (k : Int) : List Rw := if k = 8 then [quitR, noneR, takeR 0] else [okR 8]
def waitRows : List Rw := [⟨marksL [ofP 17], [2]⟩, noneR, ⟨marksL [ofP 10, takeP], [0]⟩, ⟨marksL [ofP 10, justP 13 0, takeP], [2, 3]⟩]
def manyR : Rw := ⟨manyL (fun m => m.kind == 11) (fun m => m.kind == 12), [0]⟩
def signalRows (k : Int) : List Rw := if k = 16 then waitRows ++ [monR 0] else if k = 17 then [monR 0, okR 11, okR 12] else [monR 0, manyR]
def swapRows (n : Int) : List Rw := [quitR, noneR, okR 14, ⟨marksL [justP 15 n, ofP 0], [0]⟩, ⟨marksL [justP 15 n, ofP 16], [2, 3]⟩]
def noRows : List Rw := [⟨marksL [], [7]⟩]
/-- The rows of a call of an object of that kind. -/
def rowsM (k n kind : Int) : List Rw :=
  if ofF k ≠ kind then noRows
  else if k = 16 ∨ k = 17 ∨ k = 18 then signalRows k
  else if k = 4 ∨ k = 5 ∨ k = 6 ∨ k = 7 then semaRows k n
  else if k = 8 ∨ k = 9 then latchRows k
  else if k = 10 ∨ k = 11 ∨ k = 12 then readRows k
  else if k = 19 then swapRows n
  else holdRows k

/-- A call that is on. -/
structure Ca where
  op : Cl
  kind : Int
  since : Int
  marks : List Mk
  got : Int
  til : Int
  cut : Bool
/-- A thread. -/
structure Tr where
  ops : List Cl
  begun : Nat
  call : Option Ca
  breaks : Int
/-- How all stand. -/
structure St where
  obs : List Ob
  things : List Th
  threads : List Tr
  now : Int

def Ca.rows (c : Ca) : List Rw := rowsM c.op.kind c.op.n c.kind
def bareM (e : Ev) : Bool := (e.kind == 2 || (e.m.kind == 0 && e.m.v == 0)) && (e.kind == 3 || (e.value == 0 && e.got == 0))
/-- The kind of an object. -/
def kindAt (obs : List Ob) (j : Int) : Int := ((obs[j.toNat]?).map Ob.kind).getD 0
def beginM (σ : St) (i : Nat) (t : Tr) : Option St :=
  match t.call, t.ops[t.begun]? with
  | none, some op => some { σ with threads := σ.threads.set i { t with begun := t.begun + 1, call := some ⟨op, kindAt σ.obs op.obj, σ.now, [], 0, 0, false⟩ } }
  | _, _ => none
def meetM (ts : List Tr) (o : Nat) (n : Int) : List Tr :=
  match ts[o]? with
  | some t => match t.call with
    | some c => ts.set o { t with call := some { c with marks := c.marks ++ [⟨0, 0⟩], got := n } }
    | none => ts
  | none => ts
/-- What a call is behind a mark more. -/
def noteM (now : Int) (t : Tr) (c : Ca) (x : Th) (m : Mk) : Ca :=
  if m.kind = 17 ∨ m.kind = 13 ∨ m.kind = 16 then { c with marks := c.marks ++ [m], til := now, cut := decide (0 < t.breaks) }
  else if m.kind = 9 then { c with marks := c.marks ++ [m], got := m.v }
  else if m.kind = 14 then { c with marks := c.marks ++ [m], got := x.item }
  else { c with marks := c.marks ++ [m] }
def markM (σ : St) (i : Nat) (t : Tr) (c : Ca) (m : Mk) : Option St :=
  match σ.things[c.op.obj.toNat]? with
  | none => none
  | some x =>
    if mayM x i m.kind m.v && beginsM c.rows (c.marks ++ [m]) then
      let ts := σ.threads.set i { t with call := some (noteM σ.now t c x m) }
      some { σ with things := σ.things.set c.op.obj.toNat (doesM x i m.kind m.v), threads := if m.kind = 14 then meetM ts x.offer.toNat c.op.n else ts }
    else none
def lateM (c : Ca) : Bool := c.op.wait != -1 && decide (c.op.wait ≤ c.til - c.since)
def endM (t : Tr) (c : Ca) (res got : Int) : Option Tr :=
  if got == c.got && comesM c.rows c.marks res then
    if res = 2 then (if c.op.breaks && c.cut then some { t with breaks := t.breaks - 1, call := none } else none)
    else if res = 3 then (if lateM c then some { t with call := none } else none)
    else some { t with call := none }
  else none
/-- An event. -/
def evM (σ0 : St) (e : Ev) : Option St :=
  if bareM e && decide (0 ≤ e.thread) && decide (e.thread < σ0.threads.length) && decide (σ0.now ≤ e.now) then
    let σ := { σ0 with now := e.now }
    match σ.threads[e.thread.toNat]? with
    | none => none
    | some t =>
      if e.kind = 1 then beginM σ e.thread.toNat t
      else if e.kind = 2 then (match t.call with | none => none | some c => markM σ e.thread.toNat t c e.m)
      else if e.kind = 3 then (match t.call with | none => none | some c => (endM t c e.value e.got).map (fun t' => { σ with threads := σ.threads.set e.thread.toNat t' }))
      else if e.kind = 4 then some { σ with threads := σ.threads.set e.thread.toNat { t with breaks := t.breaks + 1 } }
      else none
  else none
/-- A history: where it may not be, or how all stand. -/
def goM : St → Nat → List Ev → Nat ⊕ St
  | σ, _, [] => .inr σ
  | σ, i, e :: l => match evM σ e with
    | none => .inl i
    | some σ' => goM σ' (i + 1) l
def startM (obs : List Ob) (prs : List (List Cl)) : St := ⟨obs, obs.map (fun o => newM o.kind o.n), prs.map (fun p => ⟨p, 0, none, 0⟩), 0⟩

theorem goM_append : ∀ (l l' : List Ev) (σ : St) (i : Nat), goM σ i (l ++ l') = match goM σ i l with | .inl j => .inl j | .inr σ' => goM σ' (i + l.length) l'
  | [], l', σ, i => by simp [goM]
  | e :: l, l', σ, i => by
    simp only [List.cons_append, goM]
    cases evM σ e with
    | none => rfl
    | some σ' => simp only []; rw [goM_append l l' σ' (i + 1)]; simp only [List.length_cons, Nat.add_assoc, Nat.add_comm 1]
theorem goM_take {σ σ' : St} {i : Nat} {l : List Ev} (h : goM σ i l = .inr σ') (n : Nat) : ∃ σ2, goM σ i (l.take n) = .inr σ2 := by
  have e := goM_append (l.take n) (l.drop n) σ i
  rw [List.take_append_drop, h] at e
  cases hg : goM σ i (l.take n) with
  | inl j => rw [hg] at e; simp at e
  | inr σ2 => exact ⟨σ2, rfl⟩
/-- A history and one event more. -/
theorem goM_snoc {σ σ' : St} {i : Nat} {l : List Ev} (h : goM σ i l = .inr σ') (e : Ev) : goM σ i (l ++ [e]) = match evM σ' e with | none => .inl (i + l.length) | some σ2 => .inr σ2 := by
  rw [goM_append, h]
  simp only [goM]

end Go.Proofs.YtbodlaiakcoabaaGreatDoor
