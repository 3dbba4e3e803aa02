/-
  What the program's take comes to.
  Conditions: the table lies as the program's text lays it; a line lies in memory; strings of at most 100000 bytes.
-/
import Derived.Test.YtlhnbihpefgcbaaGreatDoorInsParts
import Derived.Test.YtlhnbihpefgcbaaGreatDoorLineMem
namespace Go.Proofs.YtlhnbihpefgcbaaGreatDoor
open Go.RowKit

/-- What take leaves. -/
def TakeTo (w : World) (b : Nat) (h : UInt8) (l : Str) (x : Ln) (e : Ending) (w' : World) : Prop :=
  ∃ y : Ln, e = .returned (.bool (argL h l x).isSome) ∧ w'.heap[b]? = some (.cells (lnCells y) 59 (0, 0)) ∧ (∀ z, argL h l x = some z → y = z) ∧ Kept (fun k => k = b) w w'

theorem take_end {w w1 : World} {b o : Nat} {h : UInt8} {l : Str} {x y : Ln} {v : Value} {ok : Bool} (hb : w.heap[b]? = some (.cells (lnCells x) 59 (0, 0))) (hk : Kept (fun _ => False) w w1) (hy : (lnCells x).setIfInBounds o v = lnCells y) (hok : (argL h l x).isSome = ok) (hz : ∀ z, argL h l x = some z → y = z) :
    TakeTo w b h l x (.returned (.bool ok)) (w1.setCell ⟨b, o, none⟩ v) := by
  refine ⟨y, by rw [hok], ?_, hz, (hk.mono (fun _ _ f => f.elim)).setCell _ _ (fun _ => rfl)⟩
  have h1 : w1.heap[b]? = some (.cells (lnCells x) 59 (0, 0)) := (hk.block _ (Array.getElem?_eq_some_iff.1 hb).1 (fun f => f)).trans hb
  rw [set_cellB h1, hy]

theorem arg_reg {l : Str} {f : Int → Ln} : ((regL l).map f).isSome = (regL l).isSome := by cases regL l <;> rfl
theorem arg_num {l : Str} {f : Int → Ln} : ((numL l).map f).isSome = (numL l).isSome := by cases numL l <;> rfl

set_option maxHeartbeats 1000000 in
theorem take_any (h : UInt8) (s : ByteArray) (b : Nat) (x : Ln) (w : World) (hh : h = 65 ∨ h = 66 ∨ h = 67 ∨ h = 78 ∨ h = 84) (hb : w.heap[b]? = some (.cells (lnCells x) 59 (0, 0))) (hL : Laid w) (hs : s.size ≤ 100000) :
    Calls Tryz.prog 65 #[.pointer (some ⟨b, 0, none⟩), .int .u8 h.toNat, .string s] w (TakeTo w b h (bytesS s) x) := by
  have HB := Lib.hid hb
  obtain ⟨⟨c0, c1, c2, c3, c4, c5, c6⟩, f0, f1, f2, f3, f4, f5, f6⟩ := cells7 hb
  have HL := Lib.hid hL
  have hk0 := Kept.refl (fun _ => False) w
  clear hb hL
  rcases hh with rfl | rfl | rfl | rfl | rfl
  · have HF := Lib.hid (take_end (h := 65) (l := bytesS s) (y := { x with a := (regL (bytesS s)).getD 0 }) (o := 2) (v := .int .i64 ((regL (bytesS s)).getD 0)) HB.out hk0 rfl arg_reg (fun z hz => by
      change (regL (bytesS s)).map _ = some z at hz
      rw [Option.map_eq_some_iff] at hz
      obtain ⟨r, h1, rfl⟩ := hz
      rw [h1]; rfl))
    clear hk0
    go_enter Tryz.func65, Tryz.ntmps65
    go_wp2_with fail
    refine (parseRegister_any s w).mono ?_
    rintro e wx ⟨rfl, rfl⟩
    go_wp2_with fail
    go_ret
    exact HF.out
  · have HF := Lib.hid (take_end (h := 66) (l := bytesS s) (y := { x with b := (regL (bytesS s)).getD 0 }) (o := 3) (v := .int .i64 ((regL (bytesS s)).getD 0)) HB.out hk0 rfl arg_reg (fun z hz => by
      change (regL (bytesS s)).map _ = some z at hz
      rw [Option.map_eq_some_iff] at hz
      obtain ⟨r, h1, rfl⟩ := hz
      rw [h1]; rfl))
    clear hk0
    go_enter Tryz.func65, Tryz.ntmps65
    go_wp2_with fail
    refine (parseRegister_any s w).mono ?_
    rintro e wx ⟨rfl, rfl⟩
    go_wp2_with fail
    go_ret
    exact HF.out
  · have HF := Lib.hid (take_end (h := 67) (l := bytesS s) (y := { x with c := (regL (bytesS s)).getD 0 }) (o := 4) (v := .int .i64 ((regL (bytesS s)).getD 0)) HB.out hk0 rfl arg_reg (fun z hz => by
      change (regL (bytesS s)).map _ = some z at hz
      rw [Option.map_eq_some_iff] at hz
      obtain ⟨r, h1, rfl⟩ := hz
      rw [h1]; rfl))
    clear hk0
    go_enter Tryz.func65, Tryz.ntmps65
    go_wp2_with fail
    refine (parseRegister_any s w).mono ?_
    rintro e wx ⟨rfl, rfl⟩
    go_wp2_with fail
    go_ret
    exact HF.out
  · clear c0 c1 c2 c3 c4 c5 c6 f0 f1 f2 f3 f4 f5 f6 hk0
    go_enter Tryz.func65, Tryz.ntmps65
    go_wp2_with fail
    refine (parseNumber_any s w HL.out hs).mono ?_
    rintro e w1 ⟨rfl, hk1⟩
    have hb1 : w1.heap[b]? = some (.cells (lnCells x) 59 (0, 0)) := (hk1.block _ (Array.getElem?_eq_some_iff.1 HB.out).1 (fun f => f)).trans HB.out
    obtain ⟨⟨c0, c1, c2, c3, c4, c5, c6⟩, f0, f1, f2, f3, f4, f5, f6⟩ := cells7 hb1
    have HF := Lib.hid (take_end (h := 78) (l := bytesS s) (y := { x with n := (numL (bytesS s)).getD 0 }) (o := 5) (v := .int .i64 ((numL (bytesS s)).getD 0)) HB.out hk1 rfl arg_num (fun z hz => by
      change (numL (bytesS s)).map _ = some z at hz
      rw [Option.map_eq_some_iff] at hz
      obtain ⟨r, h1, rfl⟩ := hz
      rw [h1]; rfl))
    clear hk1 hb1
    go_wp2_with fail
    go_ret
    exact HF.out
  · clear c0 c1 c2 c3 c4 c5 c6 f0 f1 f2 f3 f4 f5 f6 hk0
    go_enter Tryz.func65, Tryz.ntmps65
    go_wp2_with fail
    refine (parseName_any s w hs).mono ?_
    rintro e w1 ⟨t, ok, rfl, ht, hok, hk1⟩
    have hb1 : w1.heap[b]? = some (.cells (lnCells x) 59 (0, 0)) := (hk1.block _ (Array.getElem?_eq_some_iff.1 HB.out).1 (fun f => f)).trans HB.out
    obtain ⟨⟨c0, c1, c2, c3, c4, c5, c6⟩, f0, f1, f2, f3, f4, f5, f6⟩ := cells7 hb1
    have HF := Lib.hid (take_end (h := 84) (l := bytesS s) (y := { x with target := t }) (o := 6) (v := .string (strS t)) (ok := ok) HB.out hk1 rfl (by
        change (if isName (bytesS s) then some { x with target := bytesS s } else none : Option Ln).isSome = _
        rw [hok]
        cases isName (bytesS s) <;> rfl) (fun z hz => by
      change (if isName (bytesS s) then some { x with target := bytesS s } else none : Option Ln) = some z at hz
      cases hn : isName (bytesS s)
      · rw [hn] at hz; cases hz
      · rw [hn] at hz ht
        rw [ht]
        simpa using hz))
    clear ht hok
    clear hk1 hb1
    go_wp2_with fail
    go_ret
    exact HF.out

end Go.Proofs.YtlhnbihpefgcbaaGreatDoor
