/-
  Strings as lists of bytes.
  Conditions: none on the strings but that they are strings.
-/
import Derived.Test.YtdkableaooaebaaDoorLine
import Derived.Laws.Concat
import Derived.LoopTactic
import Derived.WalkKit
import Derived.WalkSpells
import Derived.Deep.RegionWith
import Derived.IntWalk
namespace Go.Proofs.YtdkableaooaebaaDoor
open Go.RowKit

/-- A string's bytes; the string of bytes. -/
def bytesS (s : ByteArray) : Str := s.data.toList
def strS (l : Str) : ByteArray := ⟨l.toArray⟩
theorem bytesS_str (l : Str) : bytesS (strS l) = l := rfl
theorem strS_bytes (s : ByteArray) : strS (bytesS s) = s := rfl
theorem bytesS_len (s : ByteArray) : (bytesS s).length = s.size := by simp [bytesS]
theorem bytesS_at (s : ByteArray) (k : Nat) (h : k < s.size) : (bytesS s)[k]? = some s[k] := by
  unfold bytesS
  rw [Array.getElem?_toList]
  exact Array.getElem?_eq_getElem (by simpa using h)
theorem bytesS_add (a b : ByteArray) : bytesS (a ++ b) = bytesS a ++ bytesS b := by simp [bytesS]
theorem bytesS_inj {a b : ByteArray} (h : bytesS a = bytesS b) : a = b := by rw [← strS_bytes a, ← strS_bytes b, h]

theorem ret_bool {a b : Bool} (h : a = b) : Ending.returned (.bool a) = .returned (.bool b) := by rw [h]

theorem strS_add (a b : Str) : strS a ++ strS b = strS (a ++ b) := bytesS_inj (by rw [bytesS_add]; rfl)
theorem strS_size (a : Str) : (strS a).size = a.length := by rw [← bytesS_len]; rfl
theorem heap_new1 (w : World) (o : Obj) : (w.alloc o).heap[w.heap.size]? = some o := by unfold World.alloc; simp only [Array.getElem?_push_size]
theorem bytesS_cut (s : ByteArray) (a b : Nat) : bytesS (s.extract a b) = ((bytesS s).drop a).take (b - a) := by
  simp [bytesS, ByteArray.data_extract]

theorem regL_none {l : Str} (h : ∀ k : Nat, k < 16 → l ≠ regT (k : Int)) : regL l = none := by
  unfold regL
  rw [Option.map_eq_none_iff, List.find?_eq_none]
  intro k hk
  rw [List.mem_range] at hk
  simpa using h k hk
theorem str_eq (a : ByteArray) (l : Str) : (a.toList == (strS l).toList) = decide (bytesS a = l) := by
  have h1 : ∀ b : ByteArray, b.toList = bytesS b := fun b => by rw [ByteArray.toList_eq]; rfl
  rw [h1, h1, bytesS_str]
  rw [Bool.eq_iff_iff]; simp

end Go.Proofs.YtdkableaooaebaaDoor
