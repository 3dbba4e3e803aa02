/-
  The contracts of package cell's calls: what New, Len, Alloc, Load, Store, Swap and Clone come to, and what they leave as it was.
  Conditions: the block given holds an arena; fewer than 2^40 cells.
-/
import Derived.Test.YtdkableaooaebaaDoorCells
import Derived.Deep.QuietTactic
import Derived.BigQuiet
namespace Go.Proofs.YtdkableaooaebaaDoor
open Go.RowKit

theorem has_low (b : Nat) (at' : Int) (w : World) (h : at' < 1) :
    Calls Tryd.prog 26 #[.pointer (some ⟨b, 0, none⟩), .int .i64 at'] w fun e w' => e = .returned (.bool false) ∧ w = w' := by
  have hg : ¬ (1 ≤ at') := by omega
  go_enter Tryd.func26, Tryd.ntmps26
  go_wp2
  go_ret
  exact ⟨rfl, rfl⟩

theorem has_high {b : Nat} {og : Option Nat} {most : Int} {zs : List Int} (at' : Int) (w : World) (hA : Arena w b og most zs) (h : 1 ≤ at') (h2 : (zs.length : Int) < at') :
    Calls Tryd.prog 26 #[.pointer (some ⟨b, 0, none⟩), .int .i64 at'] w fun e w' => e = .returned (.bool false) ∧ w = w' := by
  obtain ⟨ao, cap, c0, c1, f1, hm, _, _⟩ := hA.fields
  have h2' : ¬ (at' ≤ (zs.length : Int)) := by omega
  clear hA
  go_enter Tryd.func26, Tryd.ntmps26
  go_wp2
  go_ret
  exact ⟨rfl, rfl⟩

theorem has_in {b : Nat} {og : Option Nat} {most : Int} {zs : List Int} (at' : Int) (w : World) (hA : Arena w b og most zs) (h : 1 ≤ at') (h2 : at' ≤ (zs.length : Int)) :
    Calls Tryd.prog 26 #[.pointer (some ⟨b, 0, none⟩), .int .i64 at'] w fun e w' => e = .returned (.bool true) ∧ w = w' := by
  obtain ⟨ao, cap, c0, c1, f1, hm, _, _⟩ := hA.fields
  clear hA
  go_enter Tryd.func26, Tryd.ntmps26
  go_wp2
  go_ret
  exact ⟨rfl, rfl⟩

theorem has_out {b : Nat} {og : Option Nat} {most : Int} {zs : List Int} (at' : Int) (w : World) (hA : Arena w b og most zs) (h : ¬ (1 ≤ at' ∧ at' ≤ (zs.length : Int))) :
    Calls Tryd.prog 26 #[.pointer (some ⟨b, 0, none⟩), .int .i64 at'] w fun e w' => e = .returned (.bool false) ∧ w = w' := by
  by_cases h1 : 1 ≤ at'
  · exact has_high at' w hA h1 (by omega)
  · exact has_low b at' w (by omega)

theorem len_any {b : Nat} {og : Option Nat} {most : Int} {zs : List Int} (w : World) (hA : Arena w b og most zs) :
    Calls Tryd.prog 13 #[.pointer (some ⟨b, 0, none⟩)] w fun e w' => e = .returned (.int .i64 zs.length) ∧ w = w' := by
  obtain ⟨ao, cap, c0, c1, f1, hm, _, _⟩ := hA.fields
  clear hA
  go_enter Tryd.func13, Tryd.ntmps13
  go_wp2
  go_ret
  exact ⟨rfl, rfl⟩

theorem load_out {b : Nat} {og : Option Nat} {most : Int} {zs : List Int} (at' : Int) (w : World) (hA : Arena w b og most zs) (h : ¬ (1 ≤ at' ∧ at' ≤ (zs.length : Int))) :
    Calls Tryd.prog 14 #[.pointer (some ⟨b, 0, none⟩), .int .i64 at'] w fun e w' => e = .returned (.tuple #[.int .i64 0, .iface 42 (.int .i64 6)]) ∧ w = w' := by
  have H := Lib.hid h; clear h
  go_enter Tryd.func14, Tryd.ntmps14
  go_wp2_with (go_at_call 26; refine (has_out _ _ hA H.out).mono ?_; rintro e w' ⟨rfl, rfl⟩)
  go_ret2
  exact ⟨rfl, rfl⟩

theorem load_in {b : Nat} {og : Option Nat} {most : Int} {zs : List Int} (at' : Int) (w : World) (hA : Arena w b og most zs) (h : 1 ≤ at') (h2 : at' ≤ (zs.length : Int)) :
    Calls Tryd.prog 14 #[.pointer (some ⟨b, 0, none⟩), .int .i64 at'] w fun e w' => e = .returned (.tuple #[.int .i64 (zs.getD (at'.toNat - 1) 0), .nilIface]) ∧ w = w' := by
  obtain ⟨g, cap, hog, hgb, hm, c1, ci, fi⟩ := hA.at (at'.toNat - 1) (by omega)
  unfold maxLen at hm
  have hi1 : 0 ≤ at' - 1 := by omega
  have hi2 : at' - 1 < (zs.length : Int) := by omega
  have HOG := Lib.hid hog; clear hog
  go_enter Tryd.func14, Tryd.ntmps14
  go_wp2_with (go_at_call 26; refine (has_in _ _ hA h h2).mono ?_; rintro e w' ⟨rfl, rfl⟩)
  go_ret2
  exact ⟨rfl, rfl⟩

theorem store_out {b : Nat} {og : Option Nat} {most : Int} {zs : List Int} (at' v : Int) (w : World) (hA : Arena w b og most zs) (h : ¬ (1 ≤ at' ∧ at' ≤ (zs.length : Int))) :
    Calls Tryd.prog 21 #[.pointer (some ⟨b, 0, none⟩), .int .i64 at', .int .i64 v] w fun e w' => e = .returned (.iface 42 (.int .i64 6)) ∧ w = w' := by
  have H := Lib.hid h; clear h
  go_enter Tryd.func21, Tryd.ntmps21
  go_wp2_with (go_at_call 26; refine (has_out _ _ hA H.out).mono ?_; rintro e w' ⟨rfl, rfl⟩)
  go_ret
  exact ⟨rfl, rfl⟩

/-- What a store leaves: the arena with that cell written, and all else as it was. -/
def Stored (w : World) (b : Nat) (og : Option Nat) (most : Int) (zs' : List Int) (w' : World) : Prop :=
  Arena w' b og most zs' ∧ Kept (fun k => og = some k) w w'

theorem store_in {b : Nat} {og : Option Nat} {most : Int} {zs : List Int} (at' v : Int) (w : World) (hA : Arena w b og most zs) (h : 1 ≤ at') (h2 : at' ≤ (zs.length : Int)) :
    Calls Tryd.prog 21 #[.pointer (some ⟨b, 0, none⟩), .int .i64 at', .int .i64 v] w fun e w' => e = .returned .nilIface ∧ Stored w b og most (zs.set (at'.toNat - 1) v) w' := by
  obtain ⟨g, cap, hog, hgb, hm, c1, ci, fi⟩ := hA.at (at'.toNat - 1) (by omega)
  unfold maxLen at hm
  have hi1 : 0 ≤ at' - 1 := by omega
  have hi2 : at' - 1 < (zs.length : Int) := by omega
  subst hog
  have hS : Stored w b (some g) most (zs.set (at'.toNat - 1) v) (w.setCell ⟨g, (at'.toNat - 1), none⟩ (.int .i64 v)) :=
    ⟨hA.set _ (by omega) v, (Kept.refl _ _).setCell _ _ (fun _ => rfl)⟩
  have HS := Lib.hid hS; clear hS
  go_enter Tryd.func21, Tryd.ntmps21
  go_wp2_with (go_at_call 26; refine (has_in _ _ hA h h2).mono ?_; rintro e w' ⟨rfl, rfl⟩)
  go_ret
  exact ⟨rfl, HS.out⟩

theorem swap_out {b : Nat} {og : Option Nat} {most : Int} {zs : List Int} (at' old v : Int) (w : World) (hA : Arena w b og most zs) (h : ¬ (1 ≤ at' ∧ at' ≤ (zs.length : Int))) :
    Calls Tryd.prog 52 #[.pointer (some ⟨b, 0, none⟩), .int .i64 at', .int .i64 old, .int .i64 v] w fun e w' => e = .returned (.tuple #[.bool false, .iface 42 (.int .i64 6)]) ∧ w = w' := by
  have H := Lib.hid h; clear h
  go_enter Tryd.func52, Tryd.ntmps52
  go_wp2_with (go_at_call 26; refine (has_out _ _ hA H.out).mono ?_; rintro e w' ⟨rfl, rfl⟩)
  go_ret2
  exact ⟨rfl, rfl⟩

theorem swap_no {b : Nat} {og : Option Nat} {most : Int} {zs : List Int} (at' old v : Int) (w : World) (hA : Arena w b og most zs) (h : 1 ≤ at') (h2 : at' ≤ (zs.length : Int)) (hne : zs.getD (at'.toNat - 1) 0 ≠ old) :
    Calls Tryd.prog 52 #[.pointer (some ⟨b, 0, none⟩), .int .i64 at', .int .i64 old, .int .i64 v] w fun e w' => e = .returned (.tuple #[.bool false, .nilIface]) ∧ w = w' := by
  obtain ⟨g, cap, hog, hgb, hm, c1, ci, fi⟩ := hA.at (at'.toNat - 1) (by omega)
  unfold maxLen at hm
  have hi1 : 0 ≤ at' - 1 := by omega
  have hi2 : at' - 1 < (zs.length : Int) := by omega
  subst hog
  generalize hx : zs.getD (at'.toNat - 1) 0 = x at *
  have hn1 : (x != old) = true := by rw [bne_iff_ne]; exact hne
  have HX := Lib.hid hx; clear hx
  have HNE := Lib.hid hne; clear hne
  go_enter Tryd.func52, Tryd.ntmps52
  go_wp2_with (go_at_call 26; refine (has_in _ _ hA h h2).mono ?_; rintro e w' ⟨rfl, rfl⟩)
  go_ret2
  exact ⟨rfl, rfl⟩

theorem swap_yes {b : Nat} {og : Option Nat} {most : Int} {zs : List Int} (at' old v : Int) (w : World) (hA : Arena w b og most zs) (h : 1 ≤ at') (h2 : at' ≤ (zs.length : Int)) (he : zs.getD (at'.toNat - 1) 0 = old) :
    Calls Tryd.prog 52 #[.pointer (some ⟨b, 0, none⟩), .int .i64 at', .int .i64 old, .int .i64 v] w fun e w' => e = .returned (.tuple #[.bool true, .nilIface]) ∧ Stored w b og most (zs.set (at'.toNat - 1) v) w' := by
  obtain ⟨g, cap, hog, hgb, hm, c1, ci, fi⟩ := hA.at (at'.toNat - 1) (by omega)
  unfold maxLen at hm
  have hi1 : 0 ≤ at' - 1 := by omega
  have hi2 : at' - 1 < (zs.length : Int) := by omega
  subst hog
  rw [he] at ci
  have hn1 : (old != old) = false := by simp
  have HE := Lib.hid he; clear he
  have hS : Stored w b (some g) most (zs.set (at'.toNat - 1) v) (w.setCell ⟨g, (at'.toNat - 1), none⟩ (.int .i64 v)) :=
    ⟨hA.set _ (by omega) v, (Kept.refl _ _).setCell _ _ (fun _ => rfl)⟩
  have HS := Lib.hid hS; clear hS
  go_enter Tryd.func52, Tryd.ntmps52
  go_wp2_with (go_at_call 26; refine (has_in _ _ hA h h2).mono ?_; rintro e w' ⟨rfl, rfl⟩)
  go_ret2
  exact ⟨rfl, HS.out⟩

theorem new_out (most : Int) (w : World) (h : most < 1 ∨ 4096 < most) :
    Calls Tryd.prog 18 #[.int .i64 most] w fun e w' => e = .returned (.tuple #[.pointer none, .iface 42 (.int .i64 1)]) ∧ w = w' := by
  by_cases h1 : most < 1
  · go_enter Tryd.func18, Tryd.ntmps18
    go_wp2
    go_ret2
    exact ⟨rfl, rfl⟩
  · have h2 : 4096 < most := by omega
    go_enter Tryd.func18, Tryd.ntmps18
    go_wp2
    go_ret2
    exact ⟨rfl, rfl⟩

theorem new_in (most : Int) (w : World) (h1 : 1 ≤ most) (h2 : most ≤ 4096) :
    Calls Tryd.prog 18 #[.int .i64 most] w fun e w' => e = .returned (.tuple #[.pointer (some ⟨w.heap.size, 0, none⟩), .nilIface]) ∧ w' = w.alloc (.cells #[.int .i64 most, .slice none 0 0] 62) := by
  have h3 : ¬ most < 1 := by omega
  have h4 : ¬ 4096 < most := by omega
  go_enter Tryd.func18, Tryd.ntmps18
  go_wp2
  go_ret2
  exact ⟨rfl, rfl⟩

end Go.Proofs.YtdkableaooaebaaDoor
