/-
  What the program's parseLabel comes to.
  Conditions: the line ends with a colon; strings of at most 100000 bytes.
-/
import Derived.Test.YtlhnbihpefgcbaaGreatDoorInsParts
import Derived.Test.YtlhnbihpefgcbaaGreatDoorLineMem
namespace Go.Proofs.YtlhnbihpefgcbaaGreatDoor
open Go.RowKit

/-- A line by value. -/
@[reducible] def lnV (x : Ln) : Value := .agg #[.string (strS x.label), .int .i64 x.op, .int .i64 x.a, .int .i64 x.b, .int .i64 x.c, .int .i64 x.n, .string (strS x.target)]
/-- What a part of Parse leaves. -/
def PartTo (w : World) (r : Option Ln) (e : Ending) (w' : World) : Prop := ∃ (x : Ln) (ok : Bool), e = .returned (.tuple #[lnV x, .bool ok]) ∧ (∀ y, r = some y → ok = true ∧ x = y) ∧ (r = none → ok = false) ∧ Kept (fun _ => False) w w'

set_option maxHeartbeats 1000000 in
theorem parseLabel_any (s : ByteArray) (w : World) (hs : s.size ≤ 100000) (h : (bytesS s).getLast?.map UInt8.toNat = some 58) (r : Option Ln) (hr : (if isName (bytesS s).dropLast then some { zeroLn with label := (bytesS s).dropLast } else none) = r) :
    Calls Tryz.prog 49 #[.string s] w (PartTo w r) := by
  have HC := Lib.hid (fun w' => cut_any s w' (by omega) h)
  obtain ⟨l, hl⟩ : ∃ l, (bytesS s).dropLast = l := ⟨_, rfl⟩
  have hlen : l.length ≤ 100000 := by rw [← hl, List.length_dropLast, bytesS_len]; omega
  rw [hl] at HC hr
  have HN := Lib.hid (fun w' => parseName_any (strS l) w' (by rw [strS_size]; exact hlen))
  have HRR := Lib.hid hr
  clear hl h hr
  have hB := heap_new1 w (.cells #[.string (strS []), .int .i64 0, .int .i64 0, .int .i64 0, .int .i64 0, .int .i64 0, .string (strS [])] 59)
  have HB := Lib.hid hB
  clear hB
  go_enter Tryz.func49, Tryz.ntmps49
  go_wp2_with fail
  refine (HC.out _).mono ?_
  rintro e wx ⟨rfl, rfl⟩
  go_wp2_with fail
  refine (HN.out _).mono ?_
  rintro e w1 ⟨n, ok, rfl, hn, hok, hk⟩
  rw [bytesS_str] at hn hok
  have hk0 := ((Kept.refl (fun _ => False) w).alloc (.cells #[.string (strS []), .int .i64 0, .int .i64 0, .int .i64 0, .int .i64 0, .int .i64 0, .string (strS [])] 59)).trans hk (fun _ _ f => f)
  have hb1 : w1.heap[w.heap.size]? = some (.cells #[.string (strS []), .int .i64 0, .int .i64 0, .int .i64 0, .int .i64 0, .int .i64 0, .string (strS [])] 59 (0, 0)) := (hk.block _ (Array.getElem?_eq_some_iff.1 HB.out).1 (fun f => f)).trans HB.out
  have hset := set7_at (x0 := .string (strS n)) (x1 := .int .i64 0) (x2 := .int .i64 0) (x3 := .int .i64 0) (x4 := .int .i64 0) (x5 := .int .i64 0) (x6 := .string { data := #[] }) hb1
  have hkept := set7_kept (x0 := .string (strS n)) (x1 := .int .i64 0) (x2 := .int .i64 0) (x3 := .int .i64 0) (x4 := .int .i64 0) (x5 := .int .i64 0) (x6 := .string { data := #[] }) (Nat.le_refl _) hk0
  have HR : Hid (PartTo w r (.returned (.tuple #[.agg #[.string (strS n), .int .i64 0, .int .i64 0, .int .i64 0, .int .i64 0, .int .i64 0, .string (strS [])], .bool ok])) (set7 w1 w.heap.size (.string (strS n)) (.int .i64 0) (.int .i64 0) (.int .i64 0) (.int .i64 0) (.int .i64 0) (.string { data := #[] }))) := Lib.hid (by
    have hrr := HRR.out
    refine ⟨{ zeroLn with label := n }, ok, rfl, fun y hy => ?_, fun hy => ?_, hkept⟩
    · cases hi : isName l
      · rw [hi] at hrr; rw [← hrr] at hy; cases hy
      · rw [hi] at hrr hok hn
        rw [← hrr] at hy
        simp only [if_true, Option.some.injEq] at hy hn
        exact ⟨hok, by rw [← hy, hn]⟩
    · cases hi : isName l
      · rw [hok, hi]
      · rw [hi, hy] at hrr; cases hrr)
  obtain ⟨⟨t0, t1, t2, t3, t4, t5, t6⟩, f0, f1, f2, f3, f4, f5, f6⟩ := cells7 hb1
  have HT := Lib.hid (cells7 hset).1
  clear hn hok hk hk0 hb1 hset hkept HB HC HN HRR
  go_wp2_with fail
  obtain ⟨W, hW⟩ : ∃ W, set7 w1 w.heap.size (.string (strS n)) (.int .i64 0) (.int .i64 0) (.int .i64 0) (.int .i64 0) (.int .i64 0) (.string { data := #[] }) = W := ⟨_, rfl⟩
  rw [hW] at HR HT
  unfold set7 at hW
  rw [hW]
  obtain ⟨q0, q1, q2, q3, q4, q5, q6⟩ := HT.out
  exact bodyPost_ret (v := .tuple #[.agg #[.string (strS n), .int .i64 0, .int .i64 0, .int .i64 0, .int .i64 0, .int .i64 0, .string (strS [])], .bool ok]) (by simp [results, Tryz.results49, go_sem, q0, q1, q2, q3, q4, q5, q6]; rfl) rfl HR.out

/-- The results: a line's variable and a value. -/
theorem res_line {fn : Func} (h : fn.results = #[.cell 2 59, .tmp 3]) (tmps : Array Value) (b : Nat) (x : Ln) (W : World) (h2 : tmps.getD 2 undef = .pointer (some ⟨b, 0, none⟩)) (hb : W.heap[b]? = some (.cells (lnCells x) 59 (0, 0))) :
    (results fn tmps).run Tryz.prog W = .ok (.tuple #[lnV x, tmps.getD 3 undef]) W := by
  obtain ⟨q0, q1, q2, q3, q4, q5, q6⟩ := (cells7 hb).1
  have h3 : tmps[2]?.getD undef = .pointer (some ⟨b, 0, none⟩) := by simpa using h2
  simp [results, h, h3, go_sem, q0, q1, q2, q3, q4, q5, q6]
/-- What stands in the result's variable when it was stored. -/
theorem part_end {w wr : World} {x y : Ln} {ok : Bool} {r : Option Ln} (hb : wr.heap[w.heap.size]? = some (.cells (lnCells x) 59 (0, 0))) (hk : Kept (fun _ => False) w wr) (h1 : ∀ z, r = some z → ok = true ∧ y = z) (h2 : r = none → ok = false) :
    (set7 wr w.heap.size (.string (strS y.label)) (.int .i64 y.op) (.int .i64 y.a) (.int .i64 y.b) (.int .i64 y.c) (.int .i64 y.n) (.string (strS y.target))).heap[w.heap.size]? = some (.cells (lnCells y) 59 (0, 0)) ∧
    PartTo w r (.returned (.tuple #[lnV y, .bool ok])) (set7 wr w.heap.size (.string (strS y.label)) (.int .i64 y.op) (.int .i64 y.a) (.int .i64 y.b) (.int .i64 y.c) (.int .i64 y.n) (.string (strS y.target))) :=
  ⟨set7_at hb, y, ok, rfl, h1, h2, set7_kept (Nat.le_refl _) hk⟩

end Go.Proofs.YtlhnbihpefgcbaaGreatDoor
