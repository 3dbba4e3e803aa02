/-
  What the program's printPart comes to.
  Conditions: the tables lie as the texts lay them; a register's number is one, a number has 64 bits.
-/
import Derived.Test.YtibgkhfadlgonaaGreatDoorInsParts
import Derived.Test.YtibgkhfadlgonaaGreatDoorLineMem
import Derived.Shelf.Strconv.Itoa4
namespace Go.Proofs.YtibgkhfadlgonaaGreatDoor
open Go.RowKit

/-- The library's table of powers lies as its text lays it, too. -/
structure LaidP (w : World) : Prop where
  laid : Laid w
  low : 3 < w.heap.size
  pow : Lib.TabIs Tryz.prog w "internal/strconv.uint64pow10" .u64 Lib.pow10Tab
theorem gPow : Tryz.prog.globalNamed "internal/strconv.uint64pow10" = some 3 := by kernel_rfl
theorem LaidP.on {S : Nat → Prop} {w w' : World} (h : LaidP w) (hk : Kept S w w') (hS : ∀ k, S k → w.heap.size ≤ k) : LaidP w' := by
  refine ⟨h.laid.on hk (fun k hg hs => by have := h.laid.low k hg; have := hS k hs; omega), Nat.lt_of_lt_of_le h.low hk.size, ?_⟩
  have hb := hk.block _ h.low (fun hs => by have := h.low; have := hS _ hs; omega)
  have hp := h.pow
  unfold Lib.TabIs World.var? at hp ⊢
  rw [gPow] at hp ⊢
  simp only [Option.bind_some] at hp ⊢
  rw [hb]; exact hp
theorem LaidP.on0 {w w' : World} (h : LaidP w) (hk : Kept (fun _ => False) w w') : LaidP w' := h.on hk (fun _ f => f.elim)

theorem format_any (n : Int) (h0 : -9223372036854775808 ≤ n) (h1 : n ≤ 9223372036854775807) (w : World) (hL : LaidP w) : Calls Tryz.prog 50 #[.int .i64 n, .int .i64 10] w fun e w' => e = .returned (.string (strS (decI n))) ∧ Kept (fun _ => False) w w' :=
  (Any.strconv_FormatInt_10 Tryz.laysM173 n h0 h1 w hL.pow).mono fun e w' ⟨p1, k, os, p2⟩ => ⟨by rw [p1, lib_itoa h0 h1]; rfl, by
    rw [p2]
    exact ((Kept.refl (fun _ => False) w).drewN k).trans (T := fun _ => False) ⟨rfl, rfl, rfl, by simp [Sort.grow], fun i hi _ => by unfold Sort.grow; exact Array.getElem?_append_left hi⟩ (fun _ _ f => f)⟩

/-- What may be printed. -/
structure Told (x : Ln) : Prop where
  a : 0 ≤ x.a ∧ x.a ≤ 15
  b : 0 ≤ x.b ∧ x.b ≤ 15
  c : 0 ≤ x.c ∧ x.c ≤ 15
  n : -9223372036854775808 ≤ x.n ∧ x.n ≤ 9223372036854775807

set_option maxHeartbeats 1000000 in
theorem printPart_any (h : UInt8) (x : Ln) (w : World) (hh : h = 65 ∨ h = 66 ∨ h = 67 ∨ h = 78 ∨ h = 84) (hx : Told x) (hL : LaidP w) :
    Calls Tryz.prog 33 #[.agg #[.string (strS x.label), .int .i64 x.op, .int .i64 x.a, .int .i64 x.b, .int .i64 x.c, .int .i64 x.n, .string (strS x.target)], .int .u8 h.toNat] w fun e w' => e = .returned (.string (strS (fieldL h x))) ∧ Kept (fun _ => False) w w' := by
  have HK := Lib.hid ((Kept.refl (fun _ => False) w).alloc (.cells (lnCells x) 25))
  have HL := Lib.hid (hL.on0 ((Kept.refl _ w).alloc (.cells (lnCells x) 25)))
  obtain ⟨⟨a0, a1⟩, ⟨b0, b1⟩, ⟨c0, c1⟩, n0, n1⟩ := hx
  clear hL
  rcases hh with rfl | rfl | rfl | rfl | rfl
  · obtain ⟨k, hk⟩ : ∃ k : Nat, x.a = k := ⟨x.a.toNat, by omega⟩
    have HP : Hid (∀ w', Calls Tryz.prog 49 #[.int .i64 x.a] w' fun e w'' => e = .returned (.string (strS (fieldL 65 x))) ∧ w'' = w') := Lib.hid (fun w' => by
      show Calls _ _ _ _ fun e w'' => e = .returned (.string (strS (regT x.a))) ∧ w'' = w'
      rw [hk]; exact printRegister_any k (by omega) w')
    clear hk
    go_enter Tryz.func33, Tryz.ntmps33
    go_wp2_with fail
    refine (HP.out _).mono ?_
    rintro e wx ⟨rfl, rfl⟩
    go_wp2_with fail
    go_ret
    exact ⟨rfl, HK.out⟩
  · obtain ⟨k, hk⟩ : ∃ k : Nat, x.b = k := ⟨x.b.toNat, by omega⟩
    have HP : Hid (∀ w', Calls Tryz.prog 49 #[.int .i64 x.b] w' fun e w'' => e = .returned (.string (strS (fieldL 66 x))) ∧ w'' = w') := Lib.hid (fun w' => by
      show Calls _ _ _ _ fun e w'' => e = .returned (.string (strS (regT x.b))) ∧ w'' = w'
      rw [hk]; exact printRegister_any k (by omega) w')
    clear hk
    go_enter Tryz.func33, Tryz.ntmps33
    go_wp2_with fail
    refine (HP.out _).mono ?_
    rintro e wx ⟨rfl, rfl⟩
    go_wp2_with fail
    go_ret
    exact ⟨rfl, HK.out⟩
  · obtain ⟨k, hk⟩ : ∃ k : Nat, x.c = k := ⟨x.c.toNat, by omega⟩
    have HP : Hid (∀ w', Calls Tryz.prog 49 #[.int .i64 x.c] w' fun e w'' => e = .returned (.string (strS (fieldL 67 x))) ∧ w'' = w') := Lib.hid (fun w' => by
      show Calls _ _ _ _ fun e w'' => e = .returned (.string (strS (regT x.c))) ∧ w'' = w'
      rw [hk]; exact printRegister_any k (by omega) w')
    clear hk
    go_enter Tryz.func33, Tryz.ntmps33
    go_wp2_with fail
    refine (HP.out _).mono ?_
    rintro e wx ⟨rfl, rfl⟩
    go_wp2_with fail
    go_ret
    exact ⟨rfl, HK.out⟩
  · go_enter Tryz.func33, Tryz.ntmps33
    go_wp2_with fail
    refine (format_any x.n n0 n1 _ HL.out).mono ?_
    rintro e w1 ⟨rfl, hk1⟩
    have HF := Lib.hid (HK.out.trans hk1 (fun _ _ f => f))
    clear hk1
    go_wp2_with fail
    go_ret
    exact ⟨rfl, HF.out⟩
  · go_enter Tryz.func33, Tryz.ntmps33
    go_wp2_with fail
    go_ret
    exact ⟨rfl, HK.out⟩

end Go.Proofs.YtibgkhfadlgonaaGreatDoor
