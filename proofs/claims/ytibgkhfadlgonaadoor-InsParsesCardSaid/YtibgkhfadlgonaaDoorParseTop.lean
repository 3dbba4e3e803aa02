/-
  What the document's Parse of layer 7 comes to.
  Conditions: a line of at most 100000 bytes.
-/
import Derived.Test.YtibgkhfadlgonaaDoorParseOps
namespace Go.Proofs.YtibgkhfadlgonaaDoor
open Go.RowKit

noncomputable def parseRest : Code := down [1, 1, 1, 1] (Tryd.f7.body.getD .skip)
/-- The frame where nothing but the string is read later. -/
def frO (s : ByteArray) (b : Nat) (u : Nat → Value) : Act := frP s b (u 6) (u 7) (u 8) (u 9) (u 10) (u 11) u
theorem frO_of {s : ByteArray} {b : Nat} {a : Act} (h : a = frO s b (lett a)) : ∃ u, a = frO s b u := ⟨_, h⟩

theorem str_empty {t : ByteArray} (h : t.size = 0) : t = strS [] := bytesS_inj (by rw [bytesS_str]; exact List.eq_nil_of_length_eq_zero (by rw [bytesS_len]; exact h))
theorem str_some {t : ByteArray} (h : 0 < t.size) : t.toList.isEmpty = false ∧ ¬ t.toList = [] := by
  have e : t.toList = bytesS t := by rw [ByteArray.toList_eq]; rfl
  have h2 : (bytesS t).length ≠ 0 := by rw [bytesS_len]; omega
  rw [e]
  rcases hb : bytesS t with _ | ⟨c, r⟩
  · rw [hb] at h2; simp at h2
  · exact ⟨rfl, by simp⟩
theorem last_at (t : ByteArray) (h : 0 < t.size) : (bytesS t).getLast? = some t[t.size - 1] := by
  rw [List.getLast?_eq_getElem?, bytesS_len]; exact bytesS_at t (t.size - 1) (by omega)
theorem cut_last (t : ByteArray) : bytesS (t.extract 0 (t.size - 1)) = (bytesS t).dropLast := by
  rw [bytesS_cut, List.drop_zero, List.dropLast_eq_take, bytesS_len]; rfl
theorem cut_first (t : ByteArray) : bytesS (t.extract 1 t.size) = (bytesS t).drop 1 := by
  rw [bytesS_cut, List.take_of_length_le]; rw [List.length_drop, bytesS_len]; omega

section
variable {w wr : World} {s t : ByteArray} {u : Nat → Value} {Q : Exit → Act → World → Prop} {l : Str}

set_option maxHeartbeats 4000000 in
set_option maxRecDepth 100000 in
theorem rest_empty (hv : VarL w wr zeroLn) (hp : parseL l = some zeroLn) (h : t.size = 0) (hret : Hid (RetL w l Q)) : Code.wp Tryd.prog parseRest Q (frO t w.heap.size u) wr := by
  obtain ⟨⟨c0, c1, c2, c3, c4, c5, c6⟩, ⟨f0, f1, f2, f3, f4, f5, f6⟩⟩ := cells7 hv.var
  obtain ⟨⟨d0, d1, d2, d3, d4, d5, d6⟩, ⟨e0, e1, e2, e3, e4, e5, e6⟩⟩ := cells7 hv.res
  have HF := Lib.hid (hv.yes hp)
  have n2 : t.toList = [] := by rw [str_empty h, ByteArray.toList_eq]; rfl
  have n1 : t.toList.isEmpty = true := by rw [n2]; rfl
  clear h hv hp
  unfold frO frP
  conv => arg 2; whnf
  go_wp2_with fail
  exact hret.out _ _ _ (frQ_of (by kernel_rfl)) HF.out

set_option maxHeartbeats 4000000 in
set_option maxRecDepth 100000 in
theorem rest_semi (hv : VarL w wr zeroLn) (hp : parseL l = some zeroLn) (h : 0 < t.size) (hc : t[0].toNat = 59) (hret : Hid (RetL w l Q)) : Code.wp Tryd.prog parseRest Q (frO t w.heap.size u) wr := by
  obtain ⟨⟨c0, c1, c2, c3, c4, c5, c6⟩, ⟨f0, f1, f2, f3, f4, f5, f6⟩⟩ := cells7 hv.var
  obtain ⟨⟨d0, d1, d2, d3, d4, d5, d6⟩, ⟨e0, e1, e2, e3, e4, e5, e6⟩⟩ := cells7 hv.res
  have HF := Lib.hid (hv.yes hp)
  obtain ⟨n1, n2⟩ := str_some h
  clear hv hp
  unfold frO frP
  conv => arg 2; whnf
  go_wp2_with fail
  exact hret.out _ _ _ (frQ_of (by kernel_rfl)) HF.out

set_option maxHeartbeats 4000000 in
set_option maxRecDepth 100000 in
theorem rest_label {m : Nat} (hv : VarL w wr zeroLn) (hm : m < t.size) (hm1 : t.size = m + 1) (h0 : 0 < t.size) (hc : t[0].toNat ≠ 59) (hlast : t[m].toNat = 58) (ht : t.size ≤ 100000)
    (hp : parseL l = if isName (bytesS t).dropLast then some { zeroLn with label := (bytesS t).dropLast } else none) (hret : Hid (RetL w l Q)) : Code.wp Tryd.prog parseRest Q (frO t w.heap.size u) wr := by
  obtain ⟨n1, n2⟩ := str_some h0
  have hc' : ((t[0].toNat : Int) == 59) = false := by rw [beq_eq_false_iff_ne]; omega
  have h58 : ((t[m].toNat : Int) == 58) = true := by rw [beq_iff_eq]; omega
  obtain ⟨lb, hlb⟩ : ∃ lb, t.extract 0 m = lb := ⟨_, rfl⟩
  have hb : (bytesS t).dropLast = bytesS lb := by rw [← hlb, ← cut_last, hm1]; rfl
  rw [hb] at hp
  have hlbs : lb.size ≤ 9223372036854775807 := by rw [← bytesS_len, ← hb, List.length_dropLast, bytesS_len]; omega
  have hcast : (t.size : Int) - 1 = (m : Int) := by omega
  have hcmp : (m : Int) < (t.size : Int) := by omega
  have hm9 : (m : Int) ≤ 100000 := by omega
  obtain ⟨W2, hW2⟩ : ∃ W2, wr.setCell ⟨w.heap.size + 1, 0, none⟩ (.string lb) = W2 := ⟨_, rfl⟩
  have hv2 : VarL w W2 { zeroLn with label := bytesS lb } := by rw [← hW2]; exact hv.set (by rw [← strS_bytes lb]; rfl)
  obtain ⟨⟨c0, _⟩, ⟨f0, _⟩⟩ := cells7 hv.var
  obtain ⟨⟨k0, k1, k2, k3, k4, k5, k6⟩, _⟩ := cells7 hv2.var
  obtain ⟨⟨d0, d1, d2, d3, d4, d5, d6⟩, ⟨e0, e1, e2, e3, e4, e5, e6⟩⟩ := cells7 hv2.res
  have k0' : W2.cell? ⟨w.heap.size + 1, 0, none⟩ = some (.string lb) := by rw [k0, strS_bytes]
  have HN := Lib.hid (refName_any lb W2 hlbs)
  have HV2 := Lib.hid hv2
  have HP := Lib.hid hp
  clear hv hv2 hp k0 hlbs hb hlast hc hm1 ht
  cases hn : isName (bytesS lb)
  · have HF := Lib.hid (HV2.out.no (l := l) (by rw [HP.out, hn]; rfl))
    have HN2 : Hid (Calls Tryd.prog 14 #[.string lb] W2 fun e w' => e = .returned (.bool false) ∧ W2 = w') := Lib.hid (by have := HN.out; rwa [hn] at this)
    clear hn HN
    unfold frO frP
    conv => arg 2; whnf
    go_wp2_with fail
    refine (HN2.out).mono ?_
    rintro e wx ⟨rfl, rfl⟩
    clear hW2
    go_wp2_with fail
    exact hret.out _ _ _ (frQ_of (by kernel_rfl)) HF.out
  · have HF := Lib.hid (HV2.out.yes (l := l) (by rw [HP.out, hn]; rfl))
    have HN2 : Hid (Calls Tryd.prog 14 #[.string lb] W2 fun e w' => e = .returned (.bool true) ∧ W2 = w') := Lib.hid (by have := HN.out; rwa [hn] at this)
    clear hn HN
    unfold frO frP
    conv => arg 2; whnf
    go_wp2_with fail
    refine (HN2.out).mono ?_
    rintro e wx ⟨rfl, rfl⟩
    clear hW2
    go_wp2_with fail
    exact hret.out _ _ _ (frQ_of (by kernel_rfl)) HF.out
end

end Go.Proofs.YtibgkhfadlgonaaDoor
