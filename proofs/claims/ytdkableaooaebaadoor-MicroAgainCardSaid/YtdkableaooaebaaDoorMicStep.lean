/-
  What the program's Step comes to, where it does nothing.
  Conditions: the table's blocks hold a table.
-/
import Derived.Test.YtdkableaooaebaaDoorMicOn
import Derived.Test.YtdkableaooaebaaDoorTable
namespace Go.Proofs.YtdkableaooaebaaDoor
open Go.RowKit
set_option linter.unusedVariables false

/-- A step that isn't done. -/
def StepNo (w : World) (e : Ending) (w' : World) : Prop := e = .returned (.tuple #[.slice none 0 0, .slice none 0 0, .int .i64 0, .int .i64 0, .iface 42 (.int .i64 1)]) ∧ Kept (fun _ => False) w w'
def GoesTo (w : World) (b : Bool) (e : Ending) (w' : World) : Prop := e = .returned (.bool b) ∧ Kept (fun _ => False) w w'

theorem goes_nil (i : Int) (w : World) : Calls Tryd.prog 23 #[.pointer none, .int .i64 i] w (GoesTo w false) := by
  go_enter Tryd.func23, Tryd.ntmps23
  go_wp2_with fail
  exact bodyPost_ret (v := .bool false) (by simp [results, Tryd.results23, go_sem]) rfl ⟨rfl, Kept.refl _ _⟩
section
variable {w : World} {b g c : Nat} {now : Int} {ps : List Pk}
theorem goes_out {i : Int} (h : Tab w b g c now ps) (hi : ¬ (0 ≤ i ∧ i < (ps.length : Int))) : Calls Tryd.prog 23 #[.pointer (some ⟨b, 0, none⟩), .int .i64 i] w (GoesTo w false) := by
  have HA := Lib.hid (at_out h hi)
  clear h hi
  unfold Pk.agg Pk.zero at HA
  go_enter Tryd.func23, Tryd.ntmps23
  go_wp2_with fail
  refine (HA.out).mono ?_
  rintro e w1 ⟨rfl, hk⟩
  have HK := Lib.hid hk
  clear hk HA
  go_wp2_with fail
  exact bodyPost_ret (v := .bool false) (by simp [results, Tryd.results23, go_sem]) rfl ⟨rfl, HK.out.alloc _⟩
theorem goes_in {i : Nat} {p : Pk} (h : Tab w b g c now ps) (hp : ps[i]? = some p) : Calls Tryd.prog 23 #[.pointer (some ⟨b, 0, none⟩), .int .i64 i] w (GoesTo w (!p.blocked)) := by
  have HA := Lib.hid (at_in h hp)
  clear h hp
  unfold Pk.agg at HA
  obtain ⟨pm, fl, bl, dl⟩ := p
  go_enter Tryd.func23, Tryd.ntmps23
  go_wp2_with fail
  refine (HA.out).mono ?_
  rintro e w1 ⟨rfl, hk⟩
  have HK := Lib.hid hk
  clear hk HA
  go_wp2_with fail
  exact bodyPost_ret (v := .bool (!bl)) (by simp [results, Tryd.results23, go_sem]) rfl ⟨rfl, HK.out.alloc _⟩
end

theorem step_nilA (so tp fo : Option Addr) (n c m d : Nat) (i : Int) (w : World) :
    Calls Tryd.prog 12 #[.slice so n c, .pointer none, .pointer tp, .int .i64 i, .slice fo m d] w (StepNo w) := by
  go_enter Tryd.func12, Tryd.ntmps12
  go_wp2_with fail
  exact bodyPost_ret (v := .tuple #[.slice none 0 0, .slice none 0 0, .int .i64 0, .int .i64 0, .iface 42 (.int .i64 1)]) (by simp [results, Tryd.results12, go_sem]) rfl ⟨rfl, Kept.refl _ _⟩
theorem step_goesNot {ab : Nat} {tp : Option Addr} {i : Int} {w : World} (hg : Calls Tryd.prog 23 #[.pointer tp, .int .i64 i] w (GoesTo w false)) (so fo : Option Addr) (n c m d : Nat) :
    Calls Tryd.prog 12 #[.slice so n c, .pointer (some ⟨ab, 0, none⟩), .pointer tp, .int .i64 i, .slice fo m d] w (StepNo w) := by
  have HG := Lib.hid hg
  clear hg
  go_enter Tryd.func12, Tryd.ntmps12
  go_wp2_with fail
  refine (HG.out).mono ?_
  rintro e w1 ⟨rfl, hk⟩
  have HK := Lib.hid hk
  clear hk HG
  go_wp2_with fail
  exact bodyPost_ret (v := .tuple #[.slice none 0 0, .slice none 0 0, .int .i64 0, .int .i64 0, .iface 42 (.int .i64 1)]) (by simp [results, Tryd.results12, go_sem]) rfl ⟨rfl, HK.out⟩
theorem step_none {ab : Nat} {tp : Option Addr} {i : Int} {w : World} (hg : Calls Tryd.prog 23 #[.pointer tp, .int .i64 i] w (GoesTo w true)) (so fo : Option Addr) (n c d : Nat) :
    Calls Tryd.prog 12 #[.slice so n c, .pointer (some ⟨ab, 0, none⟩), .pointer tp, .int .i64 i, .slice fo 0 d] w (StepNo w) := by
  have HG := Lib.hid hg
  clear hg
  go_enter Tryd.func12, Tryd.ntmps12
  go_wp2_with fail
  refine (HG.out).mono ?_
  rintro e w1 ⟨rfl, hk⟩
  have HK := Lib.hid hk
  clear hk HG
  go_wp2_with fail
  exact bodyPost_ret (v := .tuple #[.slice none 0 0, .slice none 0 0, .int .i64 0, .int .i64 0, .iface 42 (.int .i64 1)]) (by simp [results, Tryd.results12, go_sem]) rfl ⟨rfl, HK.out⟩
theorem step_many {ab : Nat} {tp : Option Addr} {i : Int} {w : World} (hg : Calls Tryd.prog 23 #[.pointer tp, .int .i64 i] w (GoesTo w true)) (so fo : Option Addr) (n c m d : Nat) (hm : 16 < m) :
    Calls Tryd.prog 12 #[.slice so n c, .pointer (some ⟨ab, 0, none⟩), .pointer tp, .int .i64 i, .slice fo m d] w (StepNo w) := by
  have HG := Lib.hid hg
  have h1 : ¬ ((m : Int) = 0) := by omega
  have h2 : (16 : Int) < (m : Int) := by omega
  clear hg hm
  go_enter Tryd.func12, Tryd.ntmps12
  go_wp2_with fail
  refine (HG.out).mono ?_
  rintro e w1 ⟨rfl, hk⟩
  have HK := Lib.hid hk
  clear hk HG
  go_wp2_with fail
  exact bodyPost_ret (v := .tuple #[.slice none 0 0, .slice none 0 0, .int .i64 0, .int .i64 0, .iface 42 (.int .i64 1)]) (by simp [results, Tryd.results12, go_sem]) rfl ⟨rfl, HK.out⟩

end Go.Proofs.YtdkableaooaebaaDoor
