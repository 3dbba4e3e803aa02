/-
  What the library's calls on strings come to at this program, said of lines; the program's table in memory.
  Conditions: the table lies as the program's text lays it; strings of at most 100000 bytes.
-/
import Derived.Test.YtibgkhfadlgonaaGreatDoorLays
import Derived.Test.YtibgkhfadlgonaaGreatDoorLineStr
import Derived.Test.YtibgkhfadlgonaaGreatDoorInsLib
import Derived.Shelf.Strings.SlTrimAscii
import Derived.Shelf.Strings.Prefix
import Derived.Shelf.Strings.Split
import Derived.Shelf.Small.Strs
import Derived.Shelf.Strconv.ParseIntPublic10
import Derived.Shelf.Strconv.Clone
import Derived.Shelf.Strconv.Itoa3
namespace Go.Proofs.YtibgkhfadlgonaaGreatDoor
open Go.RowKit

/-- The variables that are read. -/
def Glob (k : Nat) : Prop := k = 0 ∨ k = 4 ∨ k = 5

/-- A word of the table, what it has, and the registers behind the first. -/
def wordAt (i : Nat) : Str := if i = 0 then [] else (specL (i : Int)).1
def hasAt (i : Nat) : Str := if i = 0 then [] else (specL (i : Int)).2
def behindAt (i : Nat) : Int := if i = 7 then 2 else 0
/-- A shape. -/
@[reducible] def shV (i : Nat) : Value := .agg #[.string (strS (wordAt i)), .string (strS (hasAt i)), .int .i64 (behindAt i)]
def shCells : List Value := (List.range 23).flatMap (fun i => [.string (strS (wordAt i)), .string (strS (hasAt i)), .int .i64 (behindAt i)])

/-- The table lies as the program's text lays it. -/
structure Laid (w : World) : Prop where
  low : ∀ k, Glob k → k < w.heap.size
  shapes : ∀ (k : Nat) v, shCells[k]? = some v → w.cell? ⟨0, k, none⟩ = some v
  most : ∃ m, w.cell? ⟨4, 0, none⟩ = some (.int .i64 m)
  syn : ∃ ev, w.cell? ⟨5, 0, none⟩ = some ev ∧ (ev = .nilIface ∨ ∃ te pe, ev = .iface te pe)
theorem Laid.on {S : Nat → Prop} {w w' : World} (h : Laid w) (hk : Kept S w w') (hS : ∀ k, Glob k → ¬ S k) : Laid w' := by
  have c : ∀ (g j : Nat), Glob g → w'.cell? ⟨g, j, none⟩ = w.cell? ⟨g, j, none⟩ := fun g j hg => hk.cell (p := ⟨g, j, none⟩) (h.low g hg) (hS g hg)
  refine ⟨fun k hg => Nat.lt_of_lt_of_le (h.low k hg) hk.size, fun k v hv => ?_, ?_, ?_⟩
  · rw [c _ _ (.inl rfl)]; exact h.shapes k v hv
  · obtain ⟨m, hm⟩ := h.most; exact ⟨m, by rw [c _ _ (.inr (.inl rfl))]; exact hm⟩
  · obtain ⟨ev, he, hev⟩ := h.syn; exact ⟨ev, by rw [c _ _ (.inr (.inr rfl))]; exact he, hev⟩
theorem Laid.on0 {w w' : World} (h : Laid w) (hk : Kept (fun _ => False) w w') : Laid w' := h.on hk (fun _ _ f => f)
theorem Laid.drewN {w : World} (h : Laid w) (n : Nat) : Laid (w.drewN n) := h.on0 ((Kept.refl _ w).drewN n)
theorem Laid.far {w : World} (h : Laid w) {b : Nat} (hb : w.heap.size ≤ b) : ∀ k, Glob k → ¬ (k = b) := fun k hg e => by have := h.low k hg; omega

theorem Kept.ofBelow {w w' : World} (h : Below w.heap.size w w') : Kept (fun _ => False) w w' := ⟨h.os, h.tape, h.output, h.size, fun k hk _ => h.block k hk⟩

theorem trim_any (s : ByteArray) (w : World) (hs : s.size ≤ 9223372036854775807) : Calls Tryz.prog 25 #[.string s, .string { data := #[32, 9] }] w fun e w' => e = .returned (.string (strS (trimS (bytesS s)))) ∧ Kept (fun _ => False) w w' :=
  (Any.strings_Trim_laid Tryz.lays160 (by kernel_rfl) s ⟨#[32, 9]⟩ w hs (by decide) (ascii_of_all (by decide))).mono fun e w' ⟨h1, h2⟩ => ⟨by rw [h1]; exact congrArg (fun l => Ending.returned (.string (strS l))) (lib_trim (bytesS s)), Kept.ofBelow h2⟩
theorem ends_colon (l : Str) : Lib.hasSuffix l [58] = decide (l.getLast?.map UInt8.toNat = some 58) := by
  unfold Lib.hasSuffix
  rw [Bool.eq_iff_iff, decide_eq_true_eq, List.isSuffixOf_iff_suffix]
  constructor
  · rintro ⟨t, rfl⟩; simp
  · intro h
    rcases hl : l.getLast? with _ | c
    · rw [hl] at h; cases h
    · rw [hl] at h
      have hc : c = 58 := by
        simp only [Option.map_some, Option.some.injEq] at h
        exact UInt8.toNat.inj (by rw [h]; rfl)
      subst hc
      obtain ⟨t, ht⟩ := List.getLast?_eq_some_iff.1 hl
      exact ⟨t, ht.symm⟩
theorem suffix_any (s : ByteArray) (w : World) (hs : s.size ≤ 9223372036854775807) : Calls Tryz.prog 27 #[.string s, .string { data := #[58] }] w fun e w' => e = .returned (.bool (decide ((bytesS s).getLast?.map UInt8.toNat = some 58))) ∧ w' = w :=
  (Any.strings_HasSuffix Tryz.lays100 s ⟨#[58]⟩ w hs).mono fun e w' ⟨h1, h2⟩ => ⟨by rw [h1]; exact congrArg (fun b => Ending.returned (.bool b)) (ends_colon (bytesS s)), h2⟩
theorem colon_cut {l : Str} (h : l.getLast?.map UInt8.toNat = some 58) : Lib.trimSuffix l [58] = l.dropLast := by
  unfold Lib.trimSuffix
  rw [ends_colon, if_pos (decide_eq_true h)]
  rw [List.dropLast_eq_take]
  rfl
theorem cut_any (s : ByteArray) (w : World) (hs : s.size ≤ 9223372036854775807) (h : (bytesS s).getLast?.map UInt8.toNat = some 58) : Calls Tryz.prog 48 #[.string s, .string { data := #[58] }] w fun e w' => e = .returned (.string (strS (bytesS s).dropLast)) ∧ w' = w :=
  (Any.strings_TrimSuffix Tryz.lays102 s ⟨#[58]⟩ w hs).mono fun e w' ⟨h1, h2⟩ => ⟨by rw [h1]; exact congrArg (fun l => Ending.returned (.string (strS l))) (colon_cut h), h2⟩
theorem unsign_any (s : ByteArray) (w : World) : Calls Tryz.prog 75 #[.string s, .string { data := #[45] }] w fun e w' => e = .returned (.string (strS (unsign (bytesS s)))) ∧ w' = w :=
  (Any.strings_TrimPrefix Tryz.lays101 s ⟨#[45]⟩ w).mono fun e w' ⟨h1, h2⟩ => ⟨by rw [h1]; exact congrArg (fun l => Ending.returned (.string (strS l))) (lib_unsign (bytesS s)), h2⟩
theorem clone_any (s : ByteArray) (w : World) (hs : s.size ≤ 281474976710656) : Calls Tryz.prog 77 #[.string s] w fun e w' => e = .returned (.string s) ∧ Kept (fun _ => False) w w' :=
  (Any.stringslite_Clone Tryz.laysM316 s w hs).mono fun _ _ ⟨h1, h2⟩ => ⟨h1, Kept.ofBelow h2⟩
theorem itoa_any (i : Nat) (hi : i < 100) (w : World) : Calls Tryz.prog 64 #[.int .i64 i] w fun e w' => e = .returned (.string (strS (decI i))) ∧ w' = w :=
  (Any.strconv_Itoa_small Tryz.lays171 i hi w).mono fun e w' ⟨h1, h2⟩ => ⟨by
    rw [h1]
    have e1 : Lib.decDigits i = decI i := by
      unfold decI decN
      rw [if_neg (by omega), lib_digits 19 _ (by omega)]
      rfl
    rw [e1]; rfl, h2⟩
theorem bytesWorld_kept (w : World) (e : TypeId) (t : ByteArray) : Kept (fun _ => False) w (Lib.bytesWorld w e t) := by
  unfold Lib.bytesWorld
  exact Kept.ofBelow (Lib.below_freeze (Kept.below (((Kept.refl (fun _ => False) w).drew).alloc _) (Nat.le_refl _) (fun _ f => f.elim)) (Nat.le_refl _) _)
theorem int_yes (s : ByteArray) (w : World) (hs : s.size ≤ 100000) {v : Int} (h : Lib.parseIntB 64 (bytesS s) = .ok v) : Calls Tryz.prog 76 #[.string s, .int .i64 10, .int .i64 64] w fun e w' => e = .returned (.tuple #[.int .i64 v, .nilIface]) ∧ Kept (fun _ => False) w w' :=
  (Any.strconv_ParseInt_10_at64_ok Tryz.laysC174 s (by omega) v h w).mono fun e w' ⟨h1, h2⟩ => ⟨h1, by
    rcases h2 with rfl | ⟨t, rfl⟩
    · exact Kept.refl _ _
    · exact bytesWorld_kept _ _ _⟩
theorem int_no (s : ByteArray) (w : World) (hL : Laid w) (hs : s.size ≤ 100000) (h : Lib.parseIntB 64 (bytesS s) = Lib.parseIntB 64 []) : Calls Tryz.prog 76 #[.string s, .int .i64 10, .int .i64 64] w fun e w' => ∃ t p, e = .returned (.tuple #[.int .i64 0, .iface t p]) ∧ Kept (fun _ => False) w w' := by
  obtain ⟨ev, he, hev⟩ := hL.syn
  exact (Any.strconv_ParseInt_10_at64_syntax Tryz.laysC174 s (by omega) (h.trans rfl) ev w he hev).mono fun e w' ⟨N, h1, _, _, h2⟩ => ⟨_, _, h1, Kept.ofBelow h2⟩
/-- The cells behind a split. -/
def cutCells (l : Str) (n : Nat) : Array Value := Lib.cellsOf (Lib.splitB ⟨#[32]⟩ 0 (min 4 (n + 1) - 1) (strS l)) (min 4 (n + 1))
theorem split_any (s : ByteArray) (w : World) (hL : Laid w) (hs : s.size ≤ 100000) : Calls Tryz.prog 43 #[.string s, .string { data := #[32] }, .int .i64 4] w fun e w' =>
    ∃ ps : List Str, ∃ c, ps = Lib.splitK [32] 0 (min 4 (s.size + 1) - 1) (bytesS s) ∧ ps.length ≤ 4 ∧ ps.length ≤ c ∧ c ≤ 4 ∧ (0 < s.size → c ≠ 1) ∧ e = .returned (.slice (some ⟨w.heap.size, 0, none⟩) ps.length c) ∧ Kept (fun _ => False) w w' ∧
      w'.heap[w.heap.size]? = some (.cells ((ps.map (fun p => Value.string (strS p)) ++ List.replicate (c - ps.length) (Value.string ByteArray.empty)).toArray) 9 (0, 0)) := by
  obtain ⟨m, hm⟩ := hL.most
  refine (Any.strings_SplitN Tryz.lays147 (by kernel_rfl) s ⟨#[32]⟩ 4 m w (by omega) hm (by decide) (by omega) (by omega)).mono fun e w' ⟨h1, h2⟩ => ?_
  have hd := Lib.splitB_data ⟨#[32]⟩ 0 (min 4 (s.size + 1) - 1) s
  have hl := Lib.splitB_length_le ⟨#[32]⟩ 0 (min 4 (s.size + 1) - 1) s
  refine ⟨(Lib.splitB ⟨#[32]⟩ 0 (min 4 (s.size + 1) - 1) s).map bytesS, min 4 (s.size + 1), hd, ?_, ?_, ?_, ?_, ?_, ?_, ?_⟩
  · rw [List.length_map]; omega
  · rw [List.length_map]; omega
  · omega
  · omega
  · rw [h1, List.length_map]
  · rw [h2]; exact (Kept.refl _ w).alloc _
  · rw [h2]
    unfold World.alloc
    rw [Array.getElem?_push_size]
    unfold Lib.cellsOf
    simp only [List.length_map, List.map_map]
    rfl
theorem byte_in (l : Str) (c : UInt8) : decide (Lib.indexByte l c ≥ 0) = l.any (fun d => d.toNat == c.toNat) := by
  induction l with
  | nil => rfl
  | cons d l ih =>
    unfold Lib.indexByte
    rw [List.any_cons]
    by_cases h : d = c
    · subst h
      simp
    · have h1 : (d == c) = false := by rw [beq_eq_false_iff_ne]; exact h
      have h2 : (d.toNat == c.toNat) = false := by rw [beq_eq_false_iff_ne]; exact fun e => h (UInt8.toNat.inj e)
      rw [h1, h2, Bool.false_or, ← ih]
      have := Lib.indexByte_ge l c
      simp only [Bool.false_eq_true, if_false]
      split
      · rename_i h3; rw [beq_iff_eq] at h3; rw [h3]
      · rename_i h3
        rw [beq_iff_eq] at h3
        rw [decide_eq_true (by omega), decide_eq_true (by omega)]
theorem index_any (s : ByteArray) (c : UInt8) (w : World) : Calls Tryz.prog 54 #[.string s, .int .u8 c.toNat] w fun e w' => e = .returned (.int .i64 (Lib.indexByte (bytesS s) c)) ∧ w' = w :=
  (Any.strings_IndexByte Tryz.lays137 s c.toNat w).mono fun e w' ⟨h1, h2⟩ => ⟨by
    have hc : (c.toNat : Int).toNat.toUInt8 = c := by simp
    rw [h1, hc]; rfl, h2⟩

end Go.Proofs.YtibgkhfadlgonaaGreatDoor
