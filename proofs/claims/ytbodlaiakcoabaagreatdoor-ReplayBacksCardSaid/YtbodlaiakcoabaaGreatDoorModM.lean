/-
  Things and marks, plain mathematics: whether a mark may be, what it comes to, whether a call can go on.
  Conditions: none.
-/
import Derived.Test.YtbodlaiakcoabaaGreatDoorKept
import Derived.Test.YtbodlaiakcoabaaGreatDoorRowOwn
namespace Go.Proofs.YtbodlaiakcoabaaGreatDoor
open Go.RowKit

/-- One that waits: a thread, and its holds. -/
structure Wt where
  thread : Int
  holds : Int
  deriving DecidableEq
def Wt.cells (x : Wt) : List Value := [.int .i64 x.thread, .int .i64 x.holds]
@[reducible] def Wt.agg (x : Wt) : Value := .agg #[.int .i64 x.thread, .int .i64 x.holds]
theorem Wt.two (x : Wt) : x.cells.length = 2 := rfl

/-- A thing. -/
structure Th where
  kind : Int
  n : Int
  owner : Int
  holds : Int
  r : Nat → Int
  ws : List Wt
  offer : Int
  item : Int
@[reducible] def Th.agg (x : Th) (s : Option Addr) (c : Nat) : Value := .agg #[.int .i64 x.kind, .int .i64 x.n, .int .i64 x.owner, .int .i64 x.holds, .int .i64 (x.r 0), .int .i64 (x.r 1), .int .i64 (x.r 2), .int .i64 (x.r 3), .int .i64 (x.r 4), .int .i64 (x.r 5), .int .i64 (x.r 6), .int .i64 (x.r 7), .slice s x.ws.length c, .int .i64 x.offer, .int .i64 x.item]
def updR (r : Nat → Int) (k : Nat) (v : Int) : Nat → Int := fun j => if j = k then v else r j
theorem updR_at (r : Nat → Int) (k : Nat) (v : Int) : updR r k v k = v := if_pos rfl
theorem updR_not (r : Nat → Int) {k j : Nat} (v : Int) (h : j ≠ k) : updR r k v j = r j := if_neg h

/-- How often all threads read. -/
def Th.sum (x : Th) : Int := x.r 0 + x.r 1 + x.r 2 + x.r 3 + x.r 4 + x.r 5 + x.r 6 + x.r 7
/-- A thing whose counts lead to no sum that goes round. -/
structure Fit (x : Th) : Prop where
  n0 : -2000000 ≤ x.n
  n1 : x.n ≤ 2000000
  h0 : -2000000 ≤ x.holds
  h1 : x.holds ≤ 2000000
  r0 : ∀ i, i < 8 → -2000000 ≤ x.r i
  r1 : ∀ i, i < 8 → x.r i ≤ 2000000
  ws : x.ws.length ≤ 200
  o0 : -9223372036854775808 ≤ x.offer
  o1 : x.offer ≤ 9223372036854775807
  t0 : ∀ q ∈ x.ws, -9223372036854775808 ≤ q.thread
  t1 : ∀ q ∈ x.ws, q.thread ≤ 9223372036854775807

def waitsM (ws : List Wt) (t : Int) : Bool := ws.any (fun q => q.thread == t)
def isForM (x : Th) (t v : Int) : Bool := x.owner == -1 && decide (1 ≤ v) && decide (v ≤ 1000) && !waitsM x.ws t
def onceM (x : Th) (t : Int) : Bool := x.owner == t && decide (x.holds < 1000)
def outM (x : Th) (t : Int) : Bool := x.owner == t && x.holds == 1000
def othersM (x : Th) (t : Int) : Bool := x.owner != -1 && x.owner != t
def firstM : List Wt → Int → Bool
  | [], _ => false
  | q :: _, v => q.thread == v
def overM (n v : Int) : Bool := decide (1000 - v < n)

def lockMayM (x : Th) (t k v : Int) : Bool :=
  if k = 1 then isForM x t v || (v == 1 && onceM x t)
  else if k = 3 then v == 0 && x.owner == t
  else if k = 5 then v == 0 && othersM x t
  else if k = 6 then v == 0 && x.owner != t
  else if k = 7 then v == 0 && outM x t
  else if k = 10 then x.owner == t && x.holds == v
  else if k = 11 then x.owner == t && firstM x.ws v
  else if k = 12 then v == 0 && x.owner == t && x.ws.isEmpty
  else if k = 13 then v == 0 && waitsM x.ws t
  else false
def semaMayM (n k v : Int) : Bool :=
  if k = 1 then decide (1 ≤ v) && decide (v ≤ n)
  else if k = 3 then decide (1 ≤ v) && !overM n v
  else if k = 7 then decide (1 ≤ v) && overM n v
  else if k = 5 then decide (n < v)
  else if k = 9 then v == n
  else false
def latchMayM (n k v : Int) : Bool :=
  if k = 1 then v == 0 && n == 0
  else if k = 8 then (v == 1 && decide (0 < n)) || (v == 0 && n == 0)
  else false
def rwMayM (x : Th) (t k v : Int) : Bool :=
  if k = 1 then v == 1 && ((x.owner == -1 && x.sum == 0) || onceM x t)
  else if k = 3 then v == 0 && x.owner == t
  else if k = 2 then v == 0 && !othersM x t && decide (x.sum < 1000)
  else if k = 4 then v == 0 && decide (0 < x.r t.toNat)
  else if k = 5 then (v == 0 && (othersM x t || (x.owner == -1 && decide (0 < x.sum)))) || (v == 1 && othersM x t)
  else if k = 6 then (v == 0 && x.owner != t) || (v == 1 && x.r t.toNat == 0)
  else if k = 7 then (v == 0 && outM x t) || (v == 1 && x.sum == 1000)
  else false
def swapMayM (x : Th) (t k v : Int) : Bool :=
  if k = 15 then x.offer == -1 && decide (0 ≤ v) && decide (v ≤ 1000)
  else if k = 14 then x.offer == v && x.offer != -1 && x.offer != t
  else if k = 16 then v == 0 && x.offer == t
  else false
def quitM (k v : Int) : Bool := k == 17 && v == 0
def mayInM (x : Th) (t k v : Int) : Bool :=
  if x.kind == 1 then lockMayM x t k v || quitM k v
  else if x.kind == 2 then semaMayM x.n k v || quitM k v
  else if x.kind == 3 then latchMayM x.n k v || quitM k v
  else if x.kind == 4 then rwMayM x t k v || quitM k v
  else if x.kind == 5 then swapMayM x t k v || quitM k v
  else false
def mayM (x : Th) (t k v : Int) : Bool := if t < 0 ∨ 8 ≤ t then false else mayInM x t k v

def takeM (x : Th) (t v : Int) : Th := if x.kind == 1 && x.owner == -1 then { x with owner := t, holds := v } else { x with owner := t, holds := x.holds + 1 }
def freeM (x : Th) : Th := if x.holds - 1 == 0 then { x with holds := x.holds - 1, owner := -1 } else { x with holds := x.holds - 1 }
def heldM (x : Th) (t k v : Int) : Th :=
  if k = 1 then takeM x t v
  else if k = 3 then freeM x
  else if k = 2 then { x with r := updR x.r t.toNat (x.r t.toNat + 1) }
  else if k = 4 then { x with r := updR x.r t.toNat (x.r t.toNat - 1) }
  else if k = 10 then { x with ws := x.ws ++ [⟨t, x.holds⟩], owner := -1, holds := 0 }
  else if k = 11 then { x with ws := x.ws.tail }
  else if k = 13 then { x with ws := x.ws.filter (fun q => q.thread != t) }
  else x
def countM (x : Th) (k v : Int) : Th :=
  if k = 1 ∨ k = 8 ∨ k = 9 then { x with n := x.n - v } else if k = 3 then { x with n := x.n + v } else x
def swapM (x : Th) (t k v : Int) : Th :=
  if k = 15 then { x with offer := t, item := v } else if k = 14 ∨ k = 16 then { x with offer := -1, item := 0 } else x
def doesM (x : Th) (t k v : Int) : Th :=
  if x.kind == 1 then heldM x t k v else if x.kind == 4 then heldM x t k v else if x.kind == 2 then countM x k v else if x.kind == 3 then countM x k v else if x.kind == 5 then swapM x t k v else x
/-- A mark, done if it may be. -/
def doM (x : Th) (t k v : Int) : Th := if mayM x t k v = true then doesM x t k v else x

/-- What a call waits for. -/
def awKind (k : Int) : Int := if k = 1 then 1 else if k = 4 then 2 else if k = 8 then 3 else if k = 13 then 4 else if k = 10 then 4 else if k = 19 then 5 else 0
def awMark (k : Int) : Int := if k = 1 ∨ k = 4 ∨ k = 8 ∨ k = 13 then 1 else if k = 10 then 2 else if k = 19 then 14 else 0
def awVal (x : Th) (k n : Int) : Int := if k = 1 ∨ k = 13 then 1 else if k = 4 then n else if k = 19 then x.offer else 0
def canM (x : Th) (t k n : Int) : Bool := awKind k == x.kind && mayM x t (awMark k) (awVal x k n)

/-- Are two things the same? -/
def sameR (a b : Nat → Int) : Bool := decide (a 0 = b 0) && decide (a 1 = b 1) && decide (a 2 = b 2) && decide (a 3 = b 3) && decide (a 4 = b 4) && decide (a 5 = b 5) && decide (a 6 = b 6) && decide (a 7 = b 7)
def sameM (a b : Th) : Bool :=
  a.kind == b.kind && a.n == b.n && a.owner == b.owner && a.holds == b.holds && sameR a.r b.r && a.offer == b.offer && a.item == b.item && a.ws.length == b.ws.length && decide (a.ws = b.ws)
theorem sameM_refl (a : Th) : sameM a a = true := by simp [sameM, sameR]

/-- A new thing. -/
def newM (kind n : Int) : Th := ⟨kind, n, -1, 0, fun _ => 0, [], -1, 0⟩

end Go.Proofs.YtbodlaiakcoabaaGreatDoor
