/-
  What the program's print comes to.
  Conditions: the tables lie as the texts lay them; what is printed may be.
-/
import Derived.Test.YtibgkhfadlgonaaGreatDoorInsPart
import Derived.Test.YtibgkhfadlgonaaGreatDoorInsIns
import Derived.Test.YtibgkhfadlgonaaGreatDoorLineTab
import Derived.Deep.RegionHeld3
import Derived.Laws.OwnMore
import Derived.Shelf.Strings.OnBuilder
namespace Go.Proofs.YtibgkhfadlgonaaGreatDoor
open Go.RowKit

section
variable (w : World)
theorem step_pushS {ops : Array Oper} {o : Oper} {a : Act} {K : Act → World → Prop} {Q : Exit → Act → World → Prop} {E : Prop} (hgd : o.guard = none) (s x : Operand)
    (ho : o.op = .call { callee := .builtin .append, args := #[s, x], argTypes := #[46, 46] })
    (base : Nat) (v : Value) (l : List Str) (p : Str) (b : Nat) (hs : a.eval s = v) (hx : a.eval x = .slice (some ⟨b, 0, none⟩) 1 1) (hE : w.heap[b]? = some (.cells #[.string (strS p)] 9 (0, 0))) (hown : w.ownsRow base 9 1 v l.length (flat sC l))
    (hlen : l.length ≤ 100) (hbase : base ≤ w.heap.size)
    (h : ∀ v' w', w'.ownsRow base 9 1 v' (l ++ [p]).length (flat sC (l ++ [p])) → Kept (fun k => v.ownBlock = some k) w w' → K (a.put o.dst v') w') : if Region.wanted o (yielded ops a.tmps) = true then Oper.wp Tryz.prog o a w K Q else E := by
  obtain ⟨i, hi, hz, hn, hbb⟩ := info_parts Tryz.infoStr
  refine step_append_elems w hgd s x 46 ho base 9 i (.string { data := #[] }) 1 16 Tryz.underlying46 hi hz hn hbb rfl (by decide) sC_one (sC_cell [p]) v l.length (flat sC l) hs hown w.heap.size _ 1 hx
    (Elems.more (Elems.block sC_one hE rfl (by show 1 ≤ maxLen; decide)) (by have := (Array.getElem?_eq_some_iff.1 hE).1; omega)) (by unfold maxLen; simp; omega) (by simp; omega) hbase ?_
  intro v' w' h1 h2 h3
  refine h v' w' ?_ ((Kept.refl (fun k => v.ownBlock = some k) w).grown h2 (fun k _ e => e))
  rw [sC_flat, List.length_append]
  exact h1
end

theorem join_any (v : Value) (l : List Str) (a : Str) (ws : List Str) (hl : l = a :: ws) (base : Nat) (w : World) (hown : w.ownsRow base 9 1 v l.length (flat sC l)) (hlen : (a ++ ws.flatMap (fun w => 32 :: w)).length ≤ 1000000) (hn : l.length ≤ 100) :
    Calls Tryz.prog 34 #[v, .string { data := #[32] }] w fun e w' => e = .returned (.string (strS (a ++ ws.flatMap (fun w => 32 :: w)))) ∧ Kept (fun _ => False) w w' := by
  rcases hown.2 with ⟨_, h0⟩ | ⟨g, cap, cur, hv, _, hg, hc, _, hcs, ht⟩
  · rw [hl] at h0; simp at h0
  · have X : Builder.Extra Tryz.prog Tryz.lays156_ren := ⟨⟨by kernel_rfl, by kernel_rfl⟩, Tryz.underlying5, Tryz.isAgg5, Tryz.sizeOf5, Tryz.zeroValue5, by kernel_rfl, by kernel_rfl, by kernel_rfl, by decide⟩
    have e : l.length = (l.map strS).length := by rw [List.length_map]
    have hj : Lib.join ((l.map strS).map (·.data.toList)) [32] = a ++ ws.flatMap (fun w => 32 :: w) := by
      have : (l.map strS).map (·.data.toList) = l := by rw [List.map_map]; exact List.map_id'' (fun _ => rfl) l
      rw [this, hl, lib_join]
    rw [hv, e]
    refine (Any.strings_Join Tryz.lays156 X g 0 cap (l.map strS) ⟨#[32]⟩ w (fun j x hx => ?_) (Array.getElem?_eq_some_iff.1 hg).1 (by rw [← e]; omega) (by rw [← e]; exact hc) (by
      show (Lib.join ((l.map strS).map (·.data.toList)) [32]).length ≤ _
      rw [hj]; omega)).mono fun e w' ⟨h1, h2⟩ => ⟨by
        rw [h1]
        exact congrArg (fun l => Ending.returned (.string (strS l))) hj, Kept.ofBelow h2⟩
    rw [Nat.zero_add, cell_at _ _ _ _ _ hg]
    have h3 : (cur.toList.take (l.length * 1))[j]? = (flat sC l)[j]? := by rw [ht]
    rw [List.getElem?_take] at h3
    have hjl : j < l.length := by have := (List.getElem?_eq_some_iff.1 hx).1; rw [List.length_map] at this; exact this
    rw [if_pos (by omega), Array.getElem?_toList] at h3
    rw [h3]
    have h4 : ∀ (l : List Str) (j : Nat), (flat sC l)[j]? = (l.map strS)[j]?.map Value.string := by
      intro l
      induction l with
      | nil => intro j; rfl
      | cons p l ih =>
        intro j
        match j with
        | 0 => rfl
        | j + 1 => exact ih j
    rw [h4, hx]
    rfl

theorem ownsRow_kept {w w' : World} {S : Nat → Prop} {base : Nat} {e : TypeId} {size : Nat} {v : Value} {n : Nat} {xs : List Value} (h : w.ownsRow base e size v n xs) (hk : Kept S w w') (hS : ∀ g, v.ownBlock = some g → ¬ S g) : w'.ownsRow base e size v n xs := by
  rcases h.2 with hn | ⟨g, cap, cur, rfl, hb, hg, h1, h2, h3, h4⟩
  · exact ⟨h.1, .inl hn⟩
  · exact ⟨h.1, .inr ⟨g, cap, cur, rfl, hb, (hk.block g (Array.getElem?_eq_some_iff.1 hg).1 (hS g rfl)).trans hg, h1, h2, h3, h4⟩⟩
/-- How it stands in print's loop. -/
def PrintAt (w0 : World) (i : Nat) (x : Ln) (v : Value) (n : Nat) (wr : World) : Prop := wr.ownsRow w0.heap.size 9 1 v (wordAt i :: ((hasAt i).take n).map (fieldL · x)).length (flat sC (wordAt i :: ((hasAt i).take n).map (fieldL · x))) ∧ Kept (fun _ => False) w0 wr

theorem field_len (h : UInt8) (x : Ln) (hx : x.target.length ≤ 100000) : (fieldL h x).length ≤ 100000 := by
  unfold fieldL regT
  have ha := decI_len x.a
  have hb := decI_len x.b
  have hc := decI_len x.c
  have hn := decI_len x.n
  repeat' split
  all_goals first | (simp only [List.length_cons]; omega) | omega
theorem has_len : ∀ i, i < 23 → (hasAt i).length ≤ 3 ∧ (wordAt i).length ≤ 10 := by decide +kernel
theorem fields_len (x : Ln) (hx : x.target.length ≤ 100000) : ∀ l : Str, (l.flatMap (fun h => 32 :: fieldL h x)).length ≤ l.length * 100001 := by
  intro l
  induction l with
  | nil => simp
  | cons h l ih =>
    have := field_len h x hx
    simp only [List.flatMap_cons, List.length_append, List.length_cons]
    omega

set_option maxHeartbeats 4000000 in
set_option maxRecDepth 100000 in
theorem shPrint_any (i : Nat) (x : Ln) (w : World) (hi : i ≤ 22) (hx : Told x) (hL : LaidP w) (hlen : x.target.length ≤ 100000) :
    Calls Tryz.prog 18 #[shV i, .agg #[.string (strS x.label), .int .i64 x.op, .int .i64 x.a, .int .i64 x.b, .int .i64 x.c, .int .i64 x.n, .string (strS x.target)]] w fun e w' =>
      e = .returned (.string (strS (wordAt i ++ (hasAt i).flatMap (fun h => 32 :: fieldL h x)))) ∧ Kept (fun _ => False) w w' := by
  obtain ⟨W0, hW0⟩ : ∃ W0, (w.alloc (.cells #[.string (strS (wordAt i)), .string (strS (hasAt i)), .int .i64 (behindAt i)] 41)).alloc (.cells (lnCells x) 25) = W0 := ⟨_, rfl⟩
  have hk0 : Kept (fun _ => False) w W0 := by rw [← hW0]; exact ((Kept.refl _ w).alloc _).alloc _
  have hs0 : W0.heap[w.heap.size]? = some (.cells #[.string (strS (wordAt i)), .string (strS (hasAt i)), .int .i64 (behindAt i)] 41 (0, 0)) := by
    rw [← hW0]; exact ((Kept.refl (fun _ => False) (w.alloc (.cells #[.string (strS (wordAt i)), .string (strS (hasAt i)), .int .i64 (behindAt i)] 41))).alloc _).at0 (heap_new1 w _)
  have hl0 : W0.heap[w.heap.size + 1]? = some (.cells (lnCells x) 25 (0, 0)) := by
    rw [← hW0]
    have := heap_new1 (w.alloc (.cells #[.string (strS (wordAt i)), .string (strS (hasAt i)), .int .i64 (behindAt i)] 41)) (.cells (lnCells x) 25)
    rw [World.size_alloc] at this
    exact this
  have hz0 : W0.heap.size = w.heap.size + 2 := by rw [← hW0]; simp
  obtain ⟨t, ht⟩ : ∃ t, strS (hasAt i) = t := ⟨_, rfl⟩
  have htb : bytesS t = hasAt i := by rw [← ht]; rfl
  have hts : t.size = (hasAt i).length := by rw [← bytesS_len, htb]
  have ht3 : t.size ≤ 3 := by rw [hts]; exact (has_len i (by omega)).1
  rw [ht] at hs0 hW0
  have hsh : shV i = .agg #[.string (strS (wordAt i)), .string t, .int .i64 (behindAt i)] := by rw [← ht]
  rw [hsh]
  have HTB := Lib.hid htb
  have HTS := Lib.hid hts
  have HK0 := Lib.hid hk0
  have HS0 := Lib.hid hs0
  have HL0 := Lib.hid hl0
  have HZ0 := Lib.hid hz0
  have HX := Lib.hid hx
  have HP0 := Lib.hid (hL.on0 hk0)
  have HSF := Lib.hid (fun (w' : World) (hk : Kept (fun k => W0.heap.size ≤ k) W0 w') => And.intro (cells3 ((hk.block _ (Array.getElem?_eq_some_iff.1 hs0).1 (by omega)).trans hs0)) (cells7 ((hk.block _ (Array.getElem?_eq_some_iff.1 hl0).1 (by omega)).trans hl0)).1)
  have s0 := (HSF.out W0 (Kept.refl _ _)).1.1
  have s1 := fun o => (HSF.out (W0.alloc o) ((Kept.refl _ _).alloc o)).1.2.1
  clear hsh htb hts hk0 hs0 hl0 hz0 hx hL
  go_enter Tryz.func18, Tryz.ntmps18
  go_wp2_with fail
  clear ht s0 s1
  go_loopw [5, 13] (fun v j wr => ∃ n : Nat, j = .int .i64 n ∧ n ≤ t.size ∧ PrintAt W0 i x v n wr) (fun _ j _ => t.size - (intOf j).toNat)
  case atStart =>
    refine ⟨0, rfl, by omega, ?_, (Kept.refl _ W0).alloc _⟩
    exact World.ownsRow_lit (base := W0.heap.size) (size := 1) (e := 9) W0 #[.string (strS (wordAt i))] 1 (Nat.le_refl _) (by unfold maxLen; omega) rfl
  case round =>
    obtain ⟨n, rfl, hn, hown, hk⟩ := hrel
    have HO := Lib.hid hown
    have HK := Lib.hid hk
    clear hown hk
    by_cases hnt : n < t.size
    · have hnt' : (n : Int) < (t.size : Int) := by omega
      have hat := bytesS_at t n hnt
      rw [HTB.out] at hat
      have hbn : n < (hasAt i).length := (List.getElem?_eq_some_iff.1 hat).1
      have htk : (hasAt i).take (n + 1) = (hasAt i).take n ++ [t[n]] := by rw [List.take_add_one, hat]; rfl
      have hne : ∀ k, u5.ownBlock = some k → W0.heap.size ≤ k := fun k hk => (World.ownsRow.lt HO.out k hk).1
      have SF := Lib.hid (fun (w' : World) (hk : Kept (fun k => W0.heap.size ≤ k) wr w') => HSF.out w' ((HK.out.mono (fun _ _ f => f.elim)).trans hk (fun _ _ h => h)))
      have HLET := Lib.hid (has_letters i hi t[n] (List.mem_of_getElem? hat))
      have HLP := Lib.hid (HP0.out.on0 (HK.out.drew))
      have HTK := Lib.hid htk
      have HNE := Lib.hid hne
      have HLN : Hid ((wordAt i :: ((hasAt i).take n).map (fieldL · x)).length ≤ 100) := Lib.hid (by have := (has_len i (by omega)).1; simp; omega)
      have hbase : W0.heap.size ≤ wr.heap.size := HK.out.size
      clear hat htk hne
      go_wp2_with fail
      go_region_held3 (fun w' => (w'.cell? ⟨w.heap.size, 0, none⟩ = some (.string (strS (wordAt i))) ∧ w'.cell? ⟨w.heap.size, 1, none⟩ = some (.string t) ∧ w'.cell? ⟨w.heap.size, 2, none⟩ = some (.int .i64 (behindAt i))) ∧ w'.cell? ⟨w.heap.size + 1, 0, none⟩ = some (.string (strS x.label)) ∧ w'.cell? ⟨w.heap.size + 1, 1, none⟩ = some (.int .i64 x.op) ∧ w'.cell? ⟨w.heap.size + 1, 2, none⟩ = some (.int .i64 x.a) ∧ w'.cell? ⟨w.heap.size + 1, 3, none⟩ = some (.int .i64 x.b) ∧ w'.cell? ⟨w.heap.size + 1, 4, none⟩ = some (.int .i64 x.c) ∧ w'.cell? ⟨w.heap.size + 1, 5, none⟩ = some (.int .i64 x.n) ∧ w'.cell? ⟨w.heap.size + 1, 6, none⟩ = some (.string (strS x.target)))
        (first | exact SF.out _ (Kept.refl _ _) | exact SF.out _ (Kept.refl _ _).drew | exact SF.out _ HKA | exact SF.out _ (HKA.alloc _) | exact SF.out _ HKB)
        (first
          | (go_at_call 33; refine (printPart_any t[n] x _ HLET.out HX.out HLP.out).mono ?_; rintro e w1 ⟨rfl, hk1⟩; have HKA : Kept (fun k => W0.heap.size ≤ k) wr w1 := (Kept.refl _ wr).drew.trans (hk1.mono (T := fun k => W0.heap.size ≤ k) (fun _ _ f => f.elim)) (fun _ _ h => h); have HOA := ownsRow_kept (HO.out.drew) hk1 (fun _ _ f => f))
          | (refine step_pushS _ (by rfl) _ _ (by rfl) W0.heap.size _ (wordAt i :: ((hasAt i).take n).map (fieldL · x)) (fieldL t[n] x) _ (by rfl) (by rfl) (heap_new1 w1 _) (HOA.alloc _) HLN.out (by have := HKA.size; simp; omega) ?_; intro v' w2 hown2 hk2; have HKB : Kept (fun k => W0.heap.size ≤ k) wr w2 := (HKA.alloc _).trans (hk2.mono (T := fun k => W0.heap.size ≤ k) (fun k _ e => HNE.out k e)) (fun _ _ h => h)))
      have HF : Hid (PrintAt W0 i x v' (n + 1) w2) := Lib.hid ⟨by
        have e : wordAt i :: ((hasAt i).take (n + 1)).map (fieldL · x) = (wordAt i :: ((hasAt i).take n).map (fieldL · x)) ++ [fieldL t[n] x] := by rw [HTK.out, List.map_append]; rfl
        rw [e]; exact hown2, HK.out.trans HKB (fun q hq h => absurd h (by omega))⟩
      clear hown2 hk2 HKB HOA HKA hk1
      go_wp2_with fail
      go_roundw
      case rel => exact ⟨n + 1, by go_num, by omega, HF.out⟩
      case measure => simp [intOf]; omega
    · obtain rfl : n = t.size := by omega
      have hnt' : ¬ (t.size : Int) < (t.size : Int) := by omega
      have hown := HO.out
      rw [List.take_of_length_le (by rw [← HTS.out]; exact Nat.le_refl _)] at hown
      have hfm : ((hasAt i).map (fieldL · x)).flatMap (fun w => 32 :: w) = (hasAt i).flatMap (fun h => 32 :: fieldL h x) := by rw [List.flatMap_map]
      have hbig := fields_len x hlen (hasAt i)
      have hhl := has_len i (by omega)
      have HJ := Lib.hid (join_any u5 _ (wordAt i) ((hasAt i).map (fieldL · x)) rfl W0.heap.size wr hown (by rw [hfm, List.length_append]; omega) (by simp; omega))
      rw [hfm] at HJ
      clear hown hfm hbig hhl
      go_wp2_with fail
      refine HJ.out.mono ?_
      rintro e w2 ⟨rfl, hk2⟩
      have HF := Lib.hid ((HK0.out.trans HK.out (fun _ _ f => f)).trans hk2 (fun _ _ f => f))
      clear hk2
      go_wp2_with fail
      go_ret
      exact ⟨rfl, HF.out⟩

end Go.Proofs.YtibgkhfadlgonaaGreatDoor
