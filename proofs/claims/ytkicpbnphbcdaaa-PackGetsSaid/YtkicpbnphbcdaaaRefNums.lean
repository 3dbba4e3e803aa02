/-
  What the document's answer of layer 6 comes to: a script's numbers.
  Conditions: the script lies in blocks that were there.
-/
import Derived.Test.YtkicpbnphbcdaaaRefNum
import Derived.Test.YtkicpbnphbcdaaaGetTop
import Derived.StillTailTactics
import Derived.Deep.RegionHeld3
namespace Go.Proofs.Ytkicpbnphbcdaaa
open Go.RowKit

/-- A number's cell. -/
def iC (n : Int) : List Value := [.int .i64 n]
theorem iC_one : ∀ x, (iC x).length = 1 := fun _ => rfl
theorem iC_flat (xs ys : List Int) : flat iC (xs ++ ys) = flat iC xs ++ flat iC ys := by simp [flat]
theorem iC_cell (xs : List Int) : ∀ u ∈ flat iC xs, u.oneCell' = true := by
  intro u hu
  simp only [flat, List.mem_flatMap, iC, List.mem_cons, List.not_mem_nil, or_false] at hu
  obtain ⟨_, _, rfl⟩ := hu
  rfl
theorem Try.infoI64 : (Try.prog.info? 2).map (fun i => (i.zero, i.size, i.bytes)) = some (some (.int .i64 0), 1, 8) := by kernel_rfl

/-- The value v owns these numbers, in a block from base on. -/
def OwnI (base : Nat) (w : World) (v : Value) (l : List Int) : Prop := w.ownsRow base 2 1 v l.length (flat iC l)
theorem OwnI.alloc {base : Nat} {w : World} {v : Value} {l : List Int} (h : OwnI base w v l) (o : Obj) : OwnI base (w.alloc o) v l := World.ownsRow.alloc h o
theorem OwnI.drew {base : Nat} {w : World} {v : Value} {l : List Int} (h : OwnI base w v l) : OwnI base w.drew v l := World.ownsRow.drew h
theorem OwnI.lt {base : Nat} {w : World} {v : Value} {l : List Int} (h : OwnI base w v l) {g : Nat} (e : v.ownBlock = some g) : base ≤ g ∧ g < w.heap.size := World.ownsRow.lt h g e
theorem OwnI.elems {base : Nat} {w : World} {v : Value} {l : List Int} (h : OwnI base w v l) (hm : l.length ≤ maxLen) : ∃ A c, v = .slice A l.length c ∧ l.length ≤ c ∧ Elems w w.heap.size A 1 iC l := by
  obtain ⟨s, c, e, hM⟩ := Made.of_own iC_one h rfl hm
  exact ⟨s, c, e, hM.cap, hM.elems⟩

section
variable (w : World)
/-- An append of some numbers that lie in the block b. -/
theorem wpList_pushI {ops : Array Oper} {rest : List Oper} {o : Oper} {a : Act} {Q : Exit → Act → World → Prop} (hgd : o.guard = none) (s x : Operand)
    (ho : o.op = .call { callee := .builtin .append, args := #[s, x], argTypes := #[64, 64] })
    (base : Nat) (v : Value) (l ys : List Int) (b n : Nat) (hs : a.eval s = v) (hx : a.eval x = .slice (some ⟨b, 0, none⟩) n n) (hn : ys.length = n) (hb : w.heap[b]? = some (.cells (flat iC ys).toArray 2 (0, 0))) (hown : OwnI base w v l)
    (hlen : l.length + n ≤ 1099511627776) (hbase : base ≤ w.heap.size)
    (h : ∀ v' w', OwnI base w' v' (l ++ ys) → w.grownBy w' v.ownBlock → wpList Try.prog ops Q rest (a.put o.dst v') w') : wpList Try.prog ops Q (o :: rest) a w := by
  subst hn
  obtain ⟨i, hi, hz, hn, hbb⟩ := info_parts Try.infoI64
  have hE : Elems w (b + 1) (some ⟨b, 0, none⟩) 1 iC ys := Elems.block iC_one hb rfl (by unfold maxLen; omega)
  refine wpList_append_elems _ hgd s x 64 ho base 2 i (.int .i64 0) 1 8 Try.underlying64 hi hz hn hbb rfl (by decide) iC_one (iC_cell ys) v l.length (flat iC l) hs hown (b + 1) _ _ hx hE (by unfold maxLen; omega) (by omega) hbase ?_
  intro v' w' h1 h2 h3
  refine h v' w' ?_ h2
  unfold OwnI
  rw [iC_flat, List.length_append]
  exact h1
end

section
variable (w : World)
theorem step_pushI {ops : Array Oper} {o : Oper} {a : Act} {K : Act → World → Prop} {Q : Exit → Act → World → Prop} {E : Prop} (hgd : o.guard = none) (s x : Operand)
    (ho : o.op = .call { callee := .builtin .append, args := #[s, x], argTypes := #[64, 64] })
    (base B : Nat) (v : Value) (l ys : List Int) (b n : Nat) (hs : a.eval s = v) (hx : a.eval x = .slice (some ⟨b, 0, none⟩) n n) (hn : ys.length = n) (hE : Elems w B (some ⟨b, 0, none⟩) 1 iC ys) (hown : OwnI base w v l)
    (hlen : l.length + n ≤ 1099511627776) (hbase : base ≤ w.heap.size)
    (h : ∀ v' w', OwnI base w' v' (l ++ ys) → Kept (fun k => v.ownBlock = some k) w w' → K (a.put o.dst v') w') : if Region.wanted o (yielded ops a.tmps) = true then Oper.wp Try.prog o a w K Q else E := by
  subst hn
  obtain ⟨i, hi, hz, hn, hbb⟩ := info_parts Try.infoI64
  refine step_append_elems w hgd s x 64 ho base 2 i (.int .i64 0) 1 8 Try.underlying64 hi hz hn hbb rfl (by decide) iC_one (iC_cell ys) v l.length (flat iC l) hs hown B _ _ hx hE (by unfold maxLen; omega) (by omega) hbase ?_
  intro v' w' h1 h2 h3
  refine h v' w' ?_ ((Kept.refl (fun k => v.ownBlock = some k) w).grown h2 (fun k _ e => e))
  unfold OwnI
  rw [iC_flat, List.length_append]
  exact h1
end

theorem five_cells {w4 : World} {g : Nat} {T : TypeId} {a b c d e : Value} (h : w4.heap[g]? = some (.cells #[a, b, c, d, e] T (0, 0))) : w4.cell? ⟨g, 0, none⟩ = some a ∧ w4.cell? ⟨g, 1, none⟩ = some b ∧ w4.cell? ⟨g, 2, none⟩ = some c ∧ w4.cell? ⟨g, 3, none⟩ = some d ∧ w4.cell? ⟨g, 4, none⟩ = some e :=
  ⟨by rw [cell_at w4 _ 0 _ _ h]; rfl, by rw [cell_at w4 _ 1 _ _ h]; rfl, by rw [cell_at w4 _ 2 _ _ h]; rfl, by rw [cell_at w4 _ 3 _ _ h]; rfl, by rw [cell_at w4 _ 4 _ _ h]; rfl⟩
/-- A script's numbers. -/
def numsOf (x : Sc) : List Int := scE intTok (partsOf x)

/-- New memory that holds these numbers. -/
def NumsTo (w : World) (l : List Int) (e : Ending) (w' : World) : Prop := ∃ v, e = .returned v ∧ OwnI w.heap.size w' v l ∧ Kept (fun _ => False) w w'

set_option maxHeartbeats 4000000 in
set_option maxRecDepth 100000 in
theorem refNumbers_any {w : World} {B : Nat} {x : Sc} (h : Lies w B x) (hB : B ≤ w.heap.size) (hlen : (numsOf x).length ≤ 1000000) :
    Calls Try.prog 28 #[x.agg] w (NumsTo w (numsOf x)) := by
  obtain ⟨os, oc, obs, ps, pc, prs, ks, kc, pis⟩ := x
  show Calls _ _ #[.agg #[.slice os obs.length oc, .slice ps prs.length pc, .slice ks pis.length kc]] _ _
  obtain ⟨W0, hW0⟩ : ∃ W0, w.alloc (.cells #[.slice os obs.length oc, .slice ps prs.length pc, .slice ks pis.length kc] 26) = W0 := ⟨_, rfl⟩
  have hk0 : Kept (fun _ => False) w W0 := by rw [← hW0]; exact (Kept.refl _ w).alloc _
  have hs0 : W0.heap.size = w.heap.size + 1 := by rw [← hW0]; simp
  have hb0 : W0.heap[w.heap.size]? = some (.cells #[.slice os obs.length oc, .slice ps prs.length pc, .slice ks pis.length kc] 26 (0, 0)) := by rw [← hW0]; exact heap_alloc_new w _
  have HX := Lib.hid (fun (w' : World) (hk : Kept (fun _ => False) W0 w') => h.kept (hk0.trans hk (fun _ _ f => f)) hB (fun _ _ f => f))
  have HP := Lib.hid (fun (w' : World) (hk : Kept (fun _ => False) W0 w') => res_cells ((hk.block w.heap.size (by omega) (fun f => f)).trans hb0))
  have HK0 := Lib.hid hk0
  have HS0 := Lib.hid hs0
  have hmo : obs.length ≤ 9223372036854775807 := by have := h.obs.1; unfold maxLen at this; exact this
  have hmp : prs.length ≤ 9223372036854775807 := by have := h.prs.row.1; unfold maxLen at this; exact this
  have hmi : pis.length ≤ 9223372036854775807 := by have := h.pis.1; unfold maxLen at this; exact this
  have hl : (listE intTok (obE intTok) obs).length + (listE intTok (prE intTok) (prs.map Pr.ops)).length + (listE intTok (piE intTok) pis).length ≤ 1000000 := by
    unfold numsOf scE partsOf at hlen
    simp only [List.length_append] at hlen
    exact hlen
  have HL := Lib.hid hl
  clear h hk0 hs0 hb0 hl hlen
  have HW0 := Lib.hid hW0
  obtain ⟨i0, hi, hz, hn, hby⟩ := info_parts Try.infoI64
  have HI := Lib.hid hi
  have HZ := Lib.hid hz
  have HN := Lib.hid hn
  have HBY := Lib.hid hby
  clear hW0 hi hz hn hby
  go_enter Try.func28, Try.ntmps28
  go_wp2_with fail
  rw [HW0.out]
  clear HW0
  have hown0 : OwnI W0.heap.size (W0.alloc (.cells #[.int .i64 obs.length] 2)) (.slice (some ⟨w.heap.size + 1, 0, none⟩) 1 1) [(obs.length : Int)] := by
    rw [← HS0.out]
    exact World.ownsRow_lit (base := W0.heap.size) (e := 2) (size := 1) W0 #[.int .i64 obs.length] 1 (Nat.le_refl _) (by decide) rfl
  have HO0 := Lib.hid hown0
  clear hown0
  obtain ⟨p0, p1, p2⟩ := HP.out W0 (Kept.refl _ _)
  go_wp2_with fail
  clear p0 p1 p2
  go_loopw [3, 4] (fun v i wr => ∃ k : Nat, i = .int .i64 k ∧ k ≤ obs.length ∧ OwnI W0.heap.size wr v ((obs.length : Int) :: (obs.take k).flatMap (obE intTok)) ∧ Kept (fun _ => False) W0 wr) (fun _ i _ => obs.length - (intOf i).toNat)
  case atStart => exact ⟨0, rfl, by omega, HO0.out, (Kept.refl _ _).alloc _⟩
  case round =>
    clear HO0
    obtain ⟨k, rfl, hk1, hown, hk⟩ := hrel
    obtain ⟨p0, p1, p2⟩ := HP.out wr hk
    have HO := Lib.hid hown
    have HK := Lib.hid hk
    clear hown hk
    by_cases hkk : k < obs.length
    · obtain ⟨x, hx⟩ : ∃ x, obs[k]? = some x := ⟨_, List.getElem?_eq_getElem hkk⟩
      obtain ⟨g, off, hg1, hg, c0, c1, c2⟩ := ob_at (HX.out _ HK.out).obs hx
      obtain rfl : os = some ⟨g, off, none⟩ := hg1
      have hkl : (k : Int) < (obs.length : Int) := by omega
      have hk0 : (0 : Int) ≤ (k : Int) := by omega
      have HXX := Lib.hid hx
      have HLL : Hid (((obs.length : Int) :: (obs.take k).flatMap (obE intTok)).length + 3 ≤ 1000000) := Lib.hid (by
        have h1 := HL.out
        have h2 := congrArg List.length (take_flat (obE intTok) hx)
        have h3 : (obE intTok x).length = 3 := rfl
        unfold listE at h1
        simp only [List.length_append, List.length_cons] at h1 h2 ⊢
        have h4 : (intTok.e (obs.length : Int)).length = 1 := rfl
        omega)
      clear hx
      obtain ⟨kind, fair, n0⟩ := x
      have hsf : ∀ w', Kept (fun k => u3.ownBlock = some k) (wr.alloc (.cells #[.int .i64 kind, .bool fair, .int .i64 n0] 48)) w' → w'.cell? ⟨wr.heap.size, 0, none⟩ = some (.int .i64 kind) ∧ w'.cell? ⟨wr.heap.size, 1, none⟩ = some (.bool fair) ∧ w'.cell? ⟨wr.heap.size, 2, none⟩ = some (.int .i64 n0) := fun w' hk => res_cells ((hk.block wr.heap.size (by simp) (fun e => by have := (HO.out.lt e).2; omega)).trans (heap_alloc_new wr _))
      have SF := Lib.hid hsf
      have hel := heap_alloc_new (wr.alloc (.cells #[.int .i64 kind, .bool fair, .int .i64 n0] 48)) (.cells #[.int .i64 kind, .int .i64 (truthN fair), .int .i64 n0] 2)
      have hE2 := Elems.block iC_one (xs := [kind, truthN fair, n0]) hel rfl (by show 3 ≤ maxLen; decide)
      try rw [World.size_alloc] at hE2
      have HE2 := Lib.hid hE2
      clear hsf hel hE2
      go_wp2_with fail
      go_region_held3 (fun w' => w'.cell? ⟨wr.heap.size, 0, none⟩ = some (.int .i64 kind) ∧ w'.cell? ⟨wr.heap.size, 1, none⟩ = some (.bool fair) ∧ w'.cell? ⟨wr.heap.size, 2, none⟩ = some (.int .i64 n0)) (first | exact SF.out _ (Kept.refl _ _) | exact SF.out _ (Kept.refl _ _).drew | exact SF.out _ ((Kept.refl _ _).alloc _).drew | exact SF.out _ ((Kept.refl _ _).drew.alloc _) | exact SF.out _ HKA) (first | (go_at_call 48; refine (truth_any _ _).mono ?_; rintro e w' ⟨rfl, rfl⟩) | (refine step_pushI _ (by rfl) _ _ (by rfl) W0.heap.size _ _ ((obs.length : Int) :: (obs.take k).flatMap (obE intTok)) [kind, truthN fair, n0] _ 3 (by rfl) (by rfl) rfl HE2.out (((HO.out.alloc _).alloc _).drew) (by have := HLL.out; omega) (by have := HK.out.size; simp; omega) ?_; intro v' w1 hown1 hk1'; have HKA : Kept (fun k => u3.ownBlock = some k) (wr.alloc (.cells #[.int .i64 kind, .bool fair, .int .i64 n0] 48)) w1 := ((Kept.refl (fun k => u3.ownBlock = some k) (wr.alloc (.cells #[.int .i64 kind, .bool fair, .int .i64 n0] 48))).alloc _).drew.trans hk1' (fun _ _ e => e)))
      have hfin : ∃ k' : Nat, Value.int .i64 ((k : Int) + 1) = .int .i64 k' ∧ k' ≤ obs.length ∧ OwnI W0.heap.size w1 v' ((obs.length : Int) :: (obs.take k').flatMap (obE intTok)) ∧ Kept (fun _ => False) W0 w1 :=
        ⟨k + 1, by go_num, by omega, by rw [take_step (obE intTok) HXX.out]; exact hown1, (((HK.out.alloc _).alloc _).drew).trans hk1' (fun i hi e => by have := (HO.out.lt e).1; omega)⟩
      have HF := Lib.hid hfin
      clear hfin hown1 hk1'
      go_wp2_with fail
      go_roundw
      case rel => exact HF.out
      case measure => simp [intOf]; omega
    have hob : (obs.length : Int) :: (obs.take k).flatMap (obE intTok) = listE intTok (obE intTok) obs := by rw [List.take_of_length_le (by omega)]; rfl
    have hO1 : OwnI W0.heap.size wr u3 (listE intTok (obE intTok) obs) := by have := HO.out; rw [hob] at this; exact this
    have HO1 := Lib.hid hO1
    obtain ⟨n1, hn1⟩ : ∃ l, listE intTok (obE intTok) obs = l := ⟨_, rfl⟩
    have HN1 := Lib.hid hn1
    rw [hn1] at HO1
    have HNL : Hid (n1.length + (listE intTok (prE intTok) (prs.map Pr.ops)).length + (listE intTok (piE intTok) pis).length ≤ 1000000) := Lib.hid (by rw [← hn1]; exact HL.out)
    have hel := heap_alloc_new wr (.cells #[.int .i64 prs.length] 2)
    have HEL := Lib.hid hel
    clear hob hO1 hn1 hel HO
    go_wp2_with (at_builtin; refine wpList_pushI _ rfl (.tmp 36) (.tmp 40) rfl W0.heap.size _ n1 [(prs.length : Int)] wr.heap.size 1 rfl rfl rfl HEL.out (HO1.out.alloc _) ?c1 ?c2 ?_)
    case c1 => have := HNL.out; omega
    case c2 => have := HK.out.size; simp; omega
    intro v1 w1 hown1 hg1
    have hk1' : Kept (fun _ => False) W0 w1 := (HK.out.alloc _).grown hg1 (fun i hi e => by have := (HO1.out.lt e).1; omega)
    have HOB := Lib.hid hown1
    have HKB := Lib.hid hk1'
    clear hown1 hg1 hk1' HO1 HEL p0 p1 p2 hkk hk1 HK
    obtain ⟨p0, p1, p2⟩ := HP.out w1 HKB.out
    go_wp2_with fail
    clear p0 p1 p2
    go_loopw [3, 6] (fun v i wr => ∃ k : Nat, i = .int .i64 k ∧ k ≤ prs.length ∧ OwnI W0.heap.size wr v (n1 ++ ((prs.length : Int) :: ((prs.map Pr.ops).take k).flatMap (prE intTok))) ∧ Kept (fun _ => False) W0 wr) (fun _ i _ => prs.length - (intOf i).toNat)
    case atStart => exact ⟨0, rfl, by omega, HOB.out, HKB.out⟩
    case round =>
      clear HOB HKB
      obtain ⟨k, rfl, hk1, hown, hk⟩ := hrel
      obtain ⟨p0, p1, p2⟩ := HP.out wr hk
      have HO := Lib.hid hown
      have HK := Lib.hid hk
      clear hown hk
      by_cases hkk : k < prs.length
      · obtain ⟨x, hx⟩ : ∃ x, prs[k]? = some x := ⟨_, List.getElem?_eq_getElem hkk⟩
        have HXM := Lib.hid (List.mem_of_getElem? hx)
        obtain ⟨g, off, hg1, hg, c0⟩ := pr_at (HX.out _ HK.out).prs.row hx
        obtain rfl : ps = some ⟨g, off, none⟩ := hg1
        obtain ⟨xs, xc, xops⟩ := x
        have hxm : (prs.map Pr.ops)[k]? = some xops := by rw [List.getElem?_map, hx]; rfl
        replace c0 : wr.cell? ⟨g, off + k, none⟩ = some (.slice xs xops.length xc) := c0
        have HXG := Lib.hid hx
        have HXX := Lib.hid hxm
        have HSUM : Hid (n1.length + 1 + (((prs.map Pr.ops).take k).flatMap (prE intTok)).length + (prE intTok xops).length + (listE intTok (piE intTok) pis).length ≤ 1000000) := Lib.hid (by
          have h1 := HNL.out
          have h2 := congrArg List.length (take_flat (prE intTok) hxm)
          generalize (listE intTok (piE intTok) pis).length = q at h1 ⊢
          unfold listE at h1
          simp only [List.length_append, List.length_map] at h1 h2 ⊢
          have h4 : (intTok.e (prs.length : Int)).length = 1 := rfl
          omega)
        have HPE : Hid ((prE intTok xops).length = 1 + (xops.flatMap (clE intTok)).length) := Lib.hid (by unfold prE listE; rw [List.length_append]; rfl)
        have hxl : xops.length ≤ 9223372036854775807 := by have := ((HX.out _ HK.out).prs.ops _ HXM.out).1; unfold maxLen at this; exact this
        clear hx hxm
        have hkl : (k : Int) < (prs.length : Int) := by omega
        have hk0 : (0 : Int) ≤ (k : Int) := by omega
        have HEL := Lib.hid (heap_alloc_new wr (.cells #[.int .i64 xops.length] 2))
        go_wp2_with (at_builtin; refine wpList_pushI _ rfl (.tmp 49) (.tmp 56) rfl W0.heap.size _ (n1 ++ ((prs.length : Int) :: ((prs.map Pr.ops).take k).flatMap (prE intTok))) [(xops.length : Int)] wr.heap.size 1 rfl rfl rfl HEL.out (HO.out.alloc _) ?c3 ?c4 ?_)
        case c3 => have := HSUM.out; simp only [List.length_append, List.length_cons]; omega
        case c4 => have := HK.out.size; simp; omega
        intro v1 w1 hown1 hg1'
        have hk1' : Kept (fun _ => False) W0 w1 := (HK.out.alloc _).grown hg1' (fun i hi e => by have := (HO.out.lt e).1; omega)
        obtain ⟨l0, hl0⟩ : ∃ l, n1 ++ ((prs.length : Int) :: ((prs.map Pr.ops).take k).flatMap (prE intTok)) = l := ⟨_, rfl⟩
        have hown2 : OwnI W0.heap.size w1 v1 (l0 ++ ((xops.length : Int) :: (xops.take 0).flatMap (clE intTok))) := by
          rw [← hl0, List.take_zero, List.flatMap_nil]
          simp only [List.append_assoc] at hown1 ⊢
          exact hown1
        have HL0 := Lib.hid hl0
        have HLS : Hid (l0.length + (prE intTok xops).length ≤ 1000000) := Lib.hid (by
          have := HSUM.out
          rw [← hl0]
          simp only [List.length_append, List.length_cons]; omega)
        have HOB := Lib.hid hown2
        have HKB := Lib.hid hk1'
        clear hown1 hown2 hg1' hk1' HO HEL HK p0 p1 p2 c0 hl0
        go_wp2_with fail
        go_loopw [3, 7] (fun v i wr => ∃ j : Nat, i = .int .i64 j ∧ j ≤ xops.length ∧ OwnI W0.heap.size wr v (l0 ++ ((xops.length : Int) :: (xops.take j).flatMap (clE intTok))) ∧ Kept (fun _ => False) W0 wr) (fun _ i _ => xops.length - (intOf i).toNat)
        case atStart => exact ⟨0, rfl, by omega, HOB.out, HKB.out⟩
        case round =>
          clear HOB HKB
          obtain ⟨j, rfl, hj1, hown, hk⟩ := hrel
          obtain ⟨p0, p1, p2⟩ := HP.out wr hk
          have HO := Lib.hid hown
          have HK := Lib.hid hk
          clear hown hk
          obtain ⟨g1, off1, hg1, _, c0⟩ := pr_at (HX.out _ HK.out).prs.row HXG.out
          obtain ⟨rfl, rfl⟩ : g = g1 ∧ off = off1 := by simpa using hg1
          replace c0 : wr.cell? ⟨g, off + k, none⟩ = some (.slice xs xops.length xc) := c0
          clear hg1
          by_cases hjj : j < xops.length
          · obtain ⟨z, hz⟩ : ∃ z, xops[j]? = some z := ⟨_, List.getElem?_eq_getElem hjj⟩
            obtain ⟨g2, off2, hg2, hgg2, d0, d1, d2, d3, d4⟩ := cl_at ((HX.out _ HK.out).prs.ops _ HXM.out) hz
            obtain rfl : xs = some ⟨g2, off2, none⟩ := hg2
            have HZX := Lib.hid hz
            have HLL : Hid ((l0 ++ ((xops.length : Int) :: (xops.take j).flatMap (clE intTok))).length + 5 ≤ 1000000) := Lib.hid (by
              have h1 := HLS.out
              have h2 := congrArg List.length (take_flat (clE intTok) hz)
              have h3 : (clE intTok z).length = 5 := rfl
              have h4 := HPE.out
              simp only [List.length_append, List.length_cons] at h1 h2 ⊢
              omega)
            clear hz
            have hjl : (j : Int) < (xops.length : Int) := by omega
            have hj0 : (0 : Int) ≤ (j : Int) := by omega
            obtain ⟨kind, obj, n0, wait, breaks⟩ := z
            have hsf : ∀ w', Kept (fun k => u3.ownBlock = some k) (wr.alloc (.cells #[.int .i64 kind, .int .i64 obj, .int .i64 n0, .int .i64 wait, .bool breaks] 62)) w' → w'.cell? ⟨wr.heap.size, 0, none⟩ = some (.int .i64 kind) ∧ w'.cell? ⟨wr.heap.size, 1, none⟩ = some (.int .i64 obj) ∧ w'.cell? ⟨wr.heap.size, 2, none⟩ = some (.int .i64 n0) ∧ w'.cell? ⟨wr.heap.size, 3, none⟩ = some (.int .i64 wait) ∧ w'.cell? ⟨wr.heap.size, 4, none⟩ = some (.bool breaks) := fun w' hk => five_cells ((hk.block wr.heap.size (by simp) (fun e => by have := (HO.out.lt e).2; omega)).trans (heap_alloc_new wr _))
            have SF := Lib.hid hsf
            have hel := heap_alloc_new (wr.alloc (.cells #[.int .i64 kind, .int .i64 obj, .int .i64 n0, .int .i64 wait, .bool breaks] 62)) (.cells #[.int .i64 kind, .int .i64 obj, .int .i64 n0, .int .i64 wait, .int .i64 (truthN breaks)] 2)
            have hE2 := Elems.block iC_one (xs := [kind, obj, n0, wait, truthN breaks]) hel rfl (by show 5 ≤ maxLen; decide)
            try rw [World.size_alloc] at hE2
            have HE2 := Lib.hid hE2
            clear hsf hel hE2
            go_wp2_with fail
            go_region_held3 (fun w' => w'.cell? ⟨wr.heap.size, 0, none⟩ = some (.int .i64 kind) ∧ w'.cell? ⟨wr.heap.size, 1, none⟩ = some (.int .i64 obj) ∧ w'.cell? ⟨wr.heap.size, 2, none⟩ = some (.int .i64 n0) ∧ w'.cell? ⟨wr.heap.size, 3, none⟩ = some (.int .i64 wait) ∧ w'.cell? ⟨wr.heap.size, 4, none⟩ = some (.bool breaks)) (first | exact SF.out _ (Kept.refl _ _) | exact SF.out _ (Kept.refl _ _).drew | exact SF.out _ ((Kept.refl _ _).alloc _).drew | exact SF.out _ ((Kept.refl _ _).drew.alloc _) | exact SF.out _ HKA) (first | (go_at_call 48; refine (truth_any _ _).mono ?_; rintro e w' ⟨rfl, rfl⟩) | (refine step_pushI _ (by rfl) _ _ (by rfl) W0.heap.size _ _ (l0 ++ ((xops.length : Int) :: (xops.take j).flatMap (clE intTok))) [kind, obj, n0, wait, truthN breaks] _ 5 (by rfl) (by rfl) rfl HE2.out (((HO.out.alloc _).alloc _).drew) (by have := HLL.out; omega) (by have := HK.out.size; simp; omega) ?_; intro v' w1 hown1 hk1'; have HKA : Kept (fun k => u3.ownBlock = some k) (wr.alloc (.cells #[.int .i64 kind, .int .i64 obj, .int .i64 n0, .int .i64 wait, .bool breaks] 62)) w1 := ((Kept.refl (fun k => u3.ownBlock = some k) (wr.alloc (.cells #[.int .i64 kind, .int .i64 obj, .int .i64 n0, .int .i64 wait, .bool breaks] 62))).alloc _).drew.trans hk1' (fun _ _ e => e)))
            have hfin : ∃ j' : Nat, Value.int .i64 ((j : Int) + 1) = .int .i64 j' ∧ j' ≤ xops.length ∧ OwnI W0.heap.size w1 v' (l0 ++ ((xops.length : Int) :: (xops.take j').flatMap (clE intTok))) ∧ Kept (fun _ => False) W0 w1 :=
              ⟨j + 1, by go_num, by omega, by
                rw [take_step (clE intTok) HZX.out]
                simp only [List.append_assoc, List.cons_append] at hown1 ⊢
                exact hown1, (((HK.out.alloc _).alloc _).drew).trans hk1' (fun i hi e => by have := (HO.out.lt e).1; omega)⟩
            have HF := Lib.hid hfin
            clear hfin hown1 hk1'
            go_wp2_with fail
            go_roundw
            case rel => exact HF.out
            case measure => simp [intOf]; omega
          · have hfin : ∃ k' : Nat, Value.int .i64 ((k : Int) + 1) = .int .i64 k' ∧ k' ≤ prs.length ∧ OwnI W0.heap.size wr u3 (n1 ++ ((prs.length : Int) :: ((prs.map Pr.ops).take k').flatMap (prE intTok))) ∧ Kept (fun _ => False) W0 wr :=
              ⟨k + 1, by go_num, by omega, by
                have h := HO.out
                rw [List.take_of_length_le (by omega), ← HL0.out] at h
                rw [take_step (prE intTok) HXX.out]
                have e : prE intTok xops = (xops.length : Int) :: xops.flatMap (clE intTok) := rfl
                rw [e]
                simp only [List.append_assoc, List.cons_append] at h ⊢
                exact h, HK.out⟩
            have HF := Lib.hid hfin
            clear hfin
            go_wp2_with fail
            go_roundw
            case rel => first | exact HF.out | ((repeat apply Exists.intro); exact ⟨HF.out, rfl⟩)
            case measure => simp [intOf]; omega
      have hpb : n1 ++ ((prs.length : Int) :: ((prs.map Pr.ops).take k).flatMap (prE intTok)) = n1 ++ listE intTok (prE intTok) (prs.map Pr.ops) := by rw [List.take_of_length_le (by rw [List.length_map]; omega)]; unfold listE; rw [List.length_map]; rfl
      have hO2 : OwnI W0.heap.size wr u3 (n1 ++ listE intTok (prE intTok) (prs.map Pr.ops)) := by have := HO.out; rw [hpb] at this; exact this
      obtain ⟨n2, hn2⟩ : ∃ l, n1 ++ listE intTok (prE intTok) (prs.map Pr.ops) = l := ⟨_, rfl⟩
      have HN2 := Lib.hid hn2
      rw [hn2] at hO2
      have HO2 := Lib.hid hO2
      have HNL2 : Hid (n2.length + (listE intTok (piE intTok) pis).length ≤ 1000000) := Lib.hid (by rw [← hn2, List.length_append]; exact HNL.out)
      have HEL := Lib.hid (heap_alloc_new wr (.cells #[.int .i64 pis.length] 2))
      clear hpb hO2 hn2 HO
      go_wp2_with (at_builtin; refine wpList_pushI _ rfl (.tmp 90) (.tmp 94) rfl W0.heap.size _ n2 [(pis.length : Int)] wr.heap.size 1 rfl rfl rfl HEL.out (HO2.out.alloc _) ?c5 ?c6 ?_)
      case c5 => have := HNL2.out; omega
      case c6 => have := HK.out.size; simp; omega
      intro v1 w1 hown1 hg1
      have hk1' : Kept (fun _ => False) W0 w1 := (HK.out.alloc _).grown hg1 (fun i hi e => by have := (HO2.out.lt e).1; omega)
      have HOB := Lib.hid hown1
      have HKB := Lib.hid hk1'
      clear hown1 hg1 hk1' HO2 HEL p0 p1 p2 hkk hk1 HK
      obtain ⟨p0, p1, p2⟩ := HP.out w1 HKB.out
      go_wp2_with fail
      clear p0 p1 p2
      go_loopw [3, 9] (fun v i wr => ∃ k : Nat, i = .int .i64 k ∧ k ≤ pis.length ∧ OwnI W0.heap.size wr v (n2 ++ ((pis.length : Int) :: (pis.take k).flatMap (piE intTok))) ∧ Kept (fun _ => False) W0 wr) (fun _ i _ => pis.length - (intOf i).toNat)
      case atStart => exact ⟨0, rfl, by omega, HOB.out, HKB.out⟩
      case round =>
        clear HOB HKB
        obtain ⟨k, rfl, hk1, hown, hk⟩ := hrel
        obtain ⟨p0, p1, p2⟩ := HP.out wr hk
        have HO := Lib.hid hown
        have HK := Lib.hid hk
        clear hown hk
        by_cases hkk : k < pis.length
        · obtain ⟨x, hx⟩ : ∃ x, pis[k]? = some x := ⟨_, List.getElem?_eq_getElem hkk⟩
          obtain ⟨g, off, hg1, hg, c0, c1⟩ := pi_at (HX.out _ HK.out).pis hx
          obtain rfl : ks = some ⟨g, off, none⟩ := hg1
          have hkl : (k : Int) < (pis.length : Int) := by omega
          have hk0 : (0 : Int) ≤ (k : Int) := by omega
          have HXX := Lib.hid hx
          have HLL : Hid ((n2 ++ ((pis.length : Int) :: (pis.take k).flatMap (piE intTok))).length + 2 ≤ 1000000) := Lib.hid (by
            have h1 := HNL2.out
            have h2 := congrArg List.length (take_flat (piE intTok) hx)
            have h3 : (piE intTok x).length = 2 := rfl
            unfold listE at h1
            simp only [List.length_append, List.length_cons] at h1 h2 ⊢
            have h4 : (intTok.e (pis.length : Int)).length = 1 := rfl
            omega)
          clear hx
          obtain ⟨kind, n0⟩ := x
          have HPB : Hid (w.heap.size < wr.heap.size ∧ g < w.heap.size) := Lib.hid ⟨by have := HK.out.size; have := HS0.out; omega, by omega⟩
          have CC := Lib.hid (show _ ∧ _ ∧ _ from ⟨p2, c0, c1⟩)
          have hsf : ∀ w', Kept (fun k => u3.ownBlock = some k) wr w' → w'.cell? ⟨w.heap.size, 2, none⟩ = some (.slice (some ⟨g, off, none⟩) pis.length kc) ∧ w'.cell? ⟨g, off + k * 2, none⟩ = some (.int .i64 kind) ∧ w'.cell? ⟨g, off + k * 2 + 1, none⟩ = some (.int .i64 n0) := fun w' hk => ⟨(hk.cell (p := ⟨w.heap.size, 2, none⟩) HPB.out.1 (fun e => by have := (HO.out.lt (g := w.heap.size) e).1; have := HS0.out; omega)).trans CC.out.1, (hk.cell (p := ⟨g, off + k * 2, none⟩) (by have := HPB.out; show g < _; omega) (fun e => by have := (HO.out.lt (g := g) e).1; have := HS0.out; have := HPB.out; omega)).trans CC.out.2.1, (hk.cell (p := ⟨g, off + k * 2 + 1, none⟩) (by have := HPB.out; show g < _; omega) (fun e => by have := (HO.out.lt (g := g) e).1; have := HS0.out; have := HPB.out; omega)).trans CC.out.2.2⟩
          have SF := Lib.hid hsf
          have hel := heap_alloc_new wr (.cells #[.int .i64 kind, .int .i64 n0] 2)
          have hE2 := Elems.block iC_one (xs := [kind, n0]) hel rfl (by show 2 ≤ maxLen; decide)
          try rw [World.size_alloc] at hE2
          have HE2 := Lib.hid hE2
          clear hsf hel hE2
          go_wp2_with fail
          go_region_held3 (fun w' => w'.cell? ⟨w.heap.size, 2, none⟩ = some (.slice (some ⟨g, off, none⟩) pis.length kc) ∧ w'.cell? ⟨g, off + k * 2, none⟩ = some (.int .i64 kind) ∧ w'.cell? ⟨g, off + k * 2 + 1, none⟩ = some (.int .i64 n0)) (first | exact SF.out _ (Kept.refl _ _) | exact SF.out _ (Kept.refl _ _).drew | exact SF.out _ ((Kept.refl _ _).alloc _).drew | exact SF.out _ ((Kept.refl _ _).drew.alloc _) | exact SF.out _ HKA) (first | (refine step_pushI _ (by rfl) _ _ (by rfl) W0.heap.size _ _ (n2 ++ ((pis.length : Int) :: (pis.take k).flatMap (piE intTok))) [kind, n0] _ 2 (by rfl) (by rfl) rfl HE2.out ((HO.out.alloc _).drew) (by have := HLL.out; omega) (by have := HK.out.size; simp; omega) ?_; intro v' w1 hown1 hk1'; have HKA : Kept (fun k => u3.ownBlock = some k) wr w1 := ((Kept.refl (fun k => u3.ownBlock = some k) wr).alloc _).drew.trans hk1' (fun _ _ e => e)))
          have hfin : ∃ k' : Nat, Value.int .i64 ((k : Int) + 1) = .int .i64 k' ∧ k' ≤ pis.length ∧ OwnI W0.heap.size w1 v' (n2 ++ ((pis.length : Int) :: (pis.take k').flatMap (piE intTok))) ∧ Kept (fun _ => False) W0 w1 :=
            ⟨k + 1, by go_num, by omega, by
              rw [take_step (piE intTok) HXX.out]
              simp only [List.append_assoc, List.cons_append] at hown1 ⊢
              exact hown1, ((HK.out.alloc _).drew).trans hk1' (fun i hi e => by have := (HO.out.lt e).1; omega)⟩
          have HF := Lib.hid hfin
          clear hfin hown1 hk1'
          go_wp2_with fail
          go_roundw
          case rel => exact HF.out
          case measure => simp [intOf]; omega
        · have hfin : NumsTo w (numsOf ⟨os, oc, obs, ps, pc, prs, ks, kc, pis⟩) (.returned u3) wr := ⟨u3, rfl, by
            have h := HO.out
            rw [List.take_of_length_le (by omega), ← HN2.out, ← HN1.out] at h
            have h2 : OwnI W0.heap.size wr u3 (numsOf ⟨os, oc, obs, ps, pc, prs, ks, kc, pis⟩) := h
            refine ⟨h2.1, ?_⟩
            rcases h2.2 with h3 | ⟨g, cap, cur, h3, hbb, h4⟩
            · exact .inl h3
            · exact .inr ⟨g, cap, cur, h3, by have := HS0.out; omega, h4⟩, HK0.out.trans HK.out (fun _ _ f => f)⟩
          have HF := Lib.hid hfin
          clear hfin HO
          go_wp2_with fail
          go_ret
          exact HF.out

end Go.Proofs.Ytkicpbnphbcdaaa
