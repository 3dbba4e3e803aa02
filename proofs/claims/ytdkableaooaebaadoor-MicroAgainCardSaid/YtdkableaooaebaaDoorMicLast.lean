/-
  What the program's last, bit, ranUnless and leads come to.
  Conditions: the step's row of frames has 1 to 16 of them; registers' numbers are below 16.
-/
import Derived.Test.YtdkableaooaebaaDoorMicOn
import Derived.Deep.RegionWith
namespace Go.Proofs.YtdkableaooaebaaDoor
open Go.RowKit

theorem cellLt {w : World} {g k : Nat} {v : Value} (h : w.cell? ⟨g, k, none⟩ = some v) : g < w.heap.size := World.block_lt_of_cell? w _ h

theorem last_raw (b g c n : Nat) (w : World) (c4 : w.cell? ⟨b, 4, none⟩ = some (.slice (some ⟨g, 0, none⟩) (n + 1) c)) (hn : n ≤ 15) :
    Calls Tryd.prog 32 #[.pointer (some ⟨b, 0, none⟩)] w fun e w' => e = .returned (.pointer (some ⟨g, n * 17, none⟩)) ∧ Kept (fun _ => False) w w' := by
  have HK : Hid (∀ q, Kept (fun _ => False) w (w.drewN q)) := Lib.hid (fun q => (Kept.refl _ w).drewN q)
  go_enter Tryd.func32, Tryd.ntmps32
  go_wp2_with fail
  go_quiet (fail)
  go_wp2_with fail
  go_ret
  exact ⟨rfl, HK.out _⟩

theorem bit_any (x : Bool) (w : World) : Calls Tryd.prog 53 #[.bool x] w fun e w' => e = .returned (.int .i64 (bitI x)) ∧ w = w' := by
  cases x
  · go_enter Tryd.func53, Tryd.ntmps53
    go_wp2_with fail
    go_ret
    exact ⟨rfl, rfl⟩
  · go_enter Tryd.func53, Tryd.ntmps53
    go_wp2_with fail
    go_ret
    exact ⟨rfl, rfl⟩

theorem ran_nil (w : World) : Calls Tryd.prog 43 #[.nilIface] w fun e w' => e = .returned (.int .i64 0) ∧ w = w' := by
  go_enter Tryd.func43, Tryd.ntmps43
  go_wp2_with fail
  go_ret
  exact ⟨rfl, rfl⟩
theorem ran_err (c : Int) (w : World) : Calls Tryd.prog 43 #[.iface 42 (.int .i64 c)] w fun e w' => e = .returned (.int .i64 3) ∧ w = w' := by
  go_enter Tryd.func43, Tryd.ntmps43
  go_wp2_with fail
  go_ret
  exact ⟨rfl, rfl⟩

section
variable {L : Sp} {col : Nat → Nat} {k : Kp} {d : Nat} {s : Ms} {w : World}
theorem last_any (h : On L col k d s w) (hb : s.bs.length ≤ 15) : Calls Tryd.prog 32 #[.pointer (some ⟨L.sb, 0, none⟩)] w fun e w' => e = .returned (.pointer (some ⟨k.fg, s.bs.length * 17, none⟩)) ∧ Kept (fun _ => False) w w' :=
  last_raw L.sb k.fg k.fc s.bs.length w h.cells.1.2.2.2.2.1 hb
end

end Go.Proofs.YtdkableaooaebaaDoor
