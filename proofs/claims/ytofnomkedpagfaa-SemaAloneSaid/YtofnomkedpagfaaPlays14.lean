/-
  The document's New of layer 10 and of layer 12: a thing, a world of eight threads.
  Conditions: none.
  The document's Plays of layer 13, of any kind of objects: true, where each call alone comes to what the model says.
  Conditions: what a kind of objects has to say of its calls (Plays).
  Expect's call in the document's Plays: region 14.
  Conditions: where the thing and the call lie.
-/
import Derived.Test.YtofnomkedpagfaaRunLay
import Derived.Test.YtofnomkedpagfaaRunDo2
import Derived.Test.YtofnomkedpagfaaRunFirst
import Derived.Test.YtofnomkedpagfaaRunCode
import Derived.Test.YtofnomkedpagfaaRepInv
import Derived.Test.YtofnomkedpagfaaRunAlone
import Derived.Test.YtofnomkedpagfaaRunMay
import Derived.Test.YtofnomkedpagfaaRunObj
import Derived.Test.YtofnomkedpagfaaDown
section
namespace Go.Proofs.Ytofnomkedpagfaa
open Go.RowKit
set_option linter.unusedVariables false

/-- What a call tells that tells a thing. -/
theorem th_results1 {fn : Func} {c : Nat} (hr : fn.results = #[.cell c 45]) {tmps : Array Value} {g : Nat} {cs : List Value} {w : World} (h1 : tmps.getD c undef = .pointer (some ⟨g, 0, none⟩)) (hB : w.rangeAt g 0 cs) (hl : cs.length = 15) :
    (results fn tmps).run Try.prog w = .ok (.agg cs.toArray) w := by
  obtain ⟨d, hu, hd⟩ := und_th
  have h3 := run_loadVar_mid (P := Try.prog) w g 0 45 cs d hB hu hd (by rw [hl]; exact size_th)
  unfold results
  rw [hr]
  rw [Array.getD_eq_getD_getElem?] at h1
  simp [h1, h3, asAddr]

set_option maxHeartbeats 2000000 in
set_option maxRecDepth 100000 in
theorem thingNew_any (k n : Int) (fair : Bool) (w : World) : Calls Try.prog 11 #[.agg #[.int .i64 k, .bool fair, .int .i64 n]] w fun e w' => e = .returned (.agg (idleC k n).toArray) ∧ Kept (fun _ => False) w w' := by
  go_enter Try.func11, Try.ntmps11
  go_wp2_with fail
  have k1 : Kept (fun _ => False) w (w.alloc (.cells #[.int .i64 k, .bool fair, .int .i64 n] 23)) := (Kept.refl _ w).alloc _
  have h2 := heap_new1 (w.alloc (.cells #[.int .i64 k, .bool fair, .int .i64 n] 23)) (.cells (idleC k n).toArray 45)
  rw [show (w.alloc (.cells #[.int .i64 k, .bool fair, .int .i64 n] 23)).heap.size = w.heap.size + 1 by simp] at h2
  exact bodyPost_ret (th_results1 rfl rfl (cs := idleC k n) (g := w.heap.size + 1) (ThAt.range h2) rfl) rfl ⟨rfl, k1.alloc _⟩

end Go.Proofs.Ytofnomkedpagfaa
end
section
namespace Go.Proofs.Ytofnomkedpagfaa
open Go.RowKit
set_option linter.unusedVariables false
set_option linter.unusedSimpArgs false

/-- A kind of objects: its code, where calls begin, and a state: cells, threads, the model's thing; what a call comes to. -/
structure Kd (S : Type) where
  kind : Int
  fair : Bool
  n0 : Int
  code : List Ix
  ent : Int → ByteArray
  pc : Int → Int
  zs : S → List Int
  ps : S → List Pk
  cs : S → List Value
  ok : Nat → S → Prop
  s0 : S
  next : S → Nat → Int → Int → S
  want : S → Nat → Int → Int → List Nt
  val : S → Nat → Int → Int → Int
/-- A call that is done. -/
def Valid (kind k n : Int) : Prop := ofI k = kind ∧ 0 ≤ n ∧ n ≤ 1000 ∧ (k = 4 ∨ k = 5 ∨ k = 6 → 1 ≤ n) ∧ (k = 4 ∨ k = 5 ∨ k = 6 ∨ k = 19 ∨ n = 0)
/-- What it has to say. -/
structure KdOk {S : Type} (Y : Kd S) : Prop where
  zs0 : Y.zs Y.s0 = laidZ Y.kind Y.n0 Y.fair
  ps0 : Y.ps Y.s0 = pks8
  cs0 : Y.cs Y.s0 = idleC Y.kind Y.n0
  ok0 : Y.ok 0 Y.s0
  p8 : ∀ i s, Y.ok i s → (Y.ps s).length = 8
  len : ∀ s, (Y.cs s).length = 15
  one : ∀ s, ∀ v ∈ Y.cs s, v.oneCell' = true
  skip : ∀ i s, Y.ok i s → Y.ok (i + 1) s
  next : ∀ i s t k n, i < 40 → Y.ok i s → t < 8 → Valid Y.kind k n → Y.ok (i + 1) (Y.next s t k n)
  few : ∀ s t k n, (Y.want s t k n).length ≤ 100
  run : ∀ i s t k n, i < 40 → Y.ok i s → t < 8 → Valid Y.kind k n → ∃ xs u, aloneR Y.code 4096 0 t 500 [] ⟨Y.zs s, Y.ps s, [], startFr (Y.pc k) [1, askI k n, 0, 0] 4, []⟩ = some (Y.val s t k n, xs, u) ∧ u.zs = Y.zs (Y.next s t k n) ∧ u.ps = Y.ps (Y.next s t k n) ∧ SameL xs (Y.want s t k n)
  entry : ∀ k w, ofI k = Y.kind → Calls Try.prog 15 #[.int .i64 k] w fun e w' => e = .returned (.string (Y.ent k)) ∧ Kept (fun _ => False) w w'
  expect : ∀ i s t k n o wt br w, i < 40 → Y.ok i s → t < 8 → Valid Y.kind k n → Calls Try.prog 17 #[.agg (Y.cs s).toArray, .int .i64 (t : Nat), .agg #[.int .i64 k, .int .i64 o, .int .i64 n, .int .i64 wt, .bool br]] w fun e w' =>
    ∃ sb cb, e = .returned (.tuple #[.agg (Y.cs (Y.next s t k n)).toArray, .slice sb (Y.want s t k n).length cb, .int .i64 (Y.val s t k n)]) ∧ Elems w' w'.heap.size sb 2 Nt.cells (Y.want s t k n) ∧ Kept (fun _ => False) w w'

section
variable {S : Type} {Y : Kd S}
/-- How it stands: the cells and the threads of the one, the thing of the other. -/
structure StP (Y : Kd S) (w2 : World) (P : Wp) (og oc xb : Nat) (s m : S) (wr : World) : Prop where
  rw : RW P og oc (Y.zs s) (Y.ps s) wr
  th : ThAt xb (Y.cs m) wr
  nx : ¬ P.foot og xb
  k : Kept (fun k => w2.heap.size ≤ k) w2 wr
  low : ∀ q, P.foot og q → w2.heap.size ≤ q
  lx : w2.heap.size ≤ xb
theorem StP.on {w2 wr w' : World} {P : Wp} {og oc xb : Nat} {s m : S} (h : StP Y w2 P og oc xb s m wr) (hk : Kept (fun _ => False) wr w') : StP Y w2 P og oc xb s m w' :=
  ⟨h.rw.kept0 hk, h.th.kept hk (fun f => f), h.nx, h.k.trans hk (fun _ _ f => f.elim), h.low, h.lx⟩
/-- The texts' code and labels, as Assemble tells them. -/
structure Coded (Y : Kd S) (w : World) (so lo : Option Addr) (l : Labs) : Prop where
  code : Elems w w.heap.size so 5 Ix.cells Y.code
  labs : Elems w w.heap.size lo 2 labC l
  place : ∀ k, ofI k = Y.kind → placeA l (bytesS (Y.ent k)) = Y.pc k
  may : ∀ x : Ix, x ∈ Y.code → mayL x.op x.a x.b x.c x.n = true
  few : Y.code.length ≤ 1000000

theorem code_through {w2 wr : World} {P : Wp} {og : Nat} {so lo : Option Addr} {l : Labs} (h : Coded Y w2 so lo l) (hk : Kept (fun k => w2.heap.size ≤ k) w2 wr) (low : ∀ q, P.foot og q → w2.heap.size ≤ q) : Through so Y.code P og wr :=
  ⟨⟨h.few, fun i x hx => by
    obtain ⟨g, off, rfl, hg, hcell⟩ := h.code.2 i x hx
    exact ⟨g, off, rfl, Nat.lt_of_lt_of_le hg hk.size, fun hq => by have := low g hq; omega, fun j v hj => (hk.cell (p := ⟨g, off + i * 5 + j, none⟩) hg (fun hq => by have : w2.heap.size ≤ g := hq; omega)).trans (hcell j v hj)⟩⟩, h.may⟩

/-- Alone at a call, as the model has it. -/
theorem alone_kd (hY : KdOk Y) {w2 wr : World} {P : Wp} {og oc xb : Nat} {s m : S} {so lo : Option Addr} {l : Labs} (hC : Coded Y w2 so lo l) (hS : StP Y w2 P og oc xb s m wr) (hm : P.most = 4096) (hnw : P.now = 0) {i : Nat} (hi : i < 40) (hok : Y.ok i s)
    (k n : Int) (t : Nat) (ht : t < 8) (hV : Valid Y.kind k n) (cl cc lc ll : Nat) (hcl : Y.code.length = cl) (hll : l.length = ll) (ro : Option Addr) (rc : Nat) (hrs : Elems wr wr.heap.size ro 1 intC [1, askI k n, 0, 0]) (eb : ByteArray) (heb : Y.ent k = eb) (v : Int) (hv : Y.val s t k n = v) (q : Nat) (hq : (Y.want s t k n).length = q) :
    Calls Try.prog 14 #[.pointer (some ⟨P.wb, 0, none⟩), .slice so cl cc, .slice lo ll lc, .int .i64 t, .string eb, .slice ro 4 rc] wr fun e w' =>
      ∃ (sn : Option Addr) (cn og' oc' : Nat) (xs : List Nt), e = .returned (.tuple #[.int .i64 v, .slice sn q cn, .bool true]) ∧ StP Y w2 P og' oc' xb (Y.next s t k n) m w' ∧ Elems w' w'.heap.size sn 2 Nt.cells xs ∧ SameL xs (Y.want s t k n) ∧ Kept (P.foot og) wr w' := by
  obtain ⟨xs, u, hrun, hz, hp, hx⟩ := hY.run i s t k n hi hok ht hV
  have hrun' : aloneR Y.code P.most P.now t 500 [] ⟨Y.zs s, Y.ps s, [], startFr (Y.pc k) [1, askI k n, 0, 0] 4, []⟩ = some (Y.val s t k n, xs, u) := by rw [hm, hnw]; exact hrun
  have hsz := hS.k.size
  rw [← hcl, ← heb]
  refine (alone_any so cc Y.code lo lc ll l (Y.ent k) ro rc 4 [1, askI k n, 0, 0] (Y.zs s) (Y.ps s) (Y.val s t k n, xs, u) (Y.pc k) (code_through hC hS.k hS.low) hS.rw ((hC.labs.kept hS.k (Nat.le_refl _) (fun k hk h => by omega)).more hsz) hll hrs rfl (by decide) (by rw [hY.p8 i s hok]; exact ht) (hC.place k hV.1) hrun').mono ?_
  rintro e w' ⟨nv, og', oc', rfl, hrw, hog, hkk, hown, hnf⟩
  dsimp only at hrw hown hkk
  rw [hz, hp] at hrw
  have hxl : xs.length = q := by rw [← hq]; exact hx.1
  obtain ⟨sn, cn, rfl, hM⟩ := Made.of_own (f := Nt.cells) (fun _ => rfl) hown rfl (by have := hY.few s t k n; unfold maxLen; omega)
  have hxb := (Array.getElem?_eq_some_iff.1 hS.th).1
  rw [hv, hxl]
  refine ⟨sn, cn, og', oc', xs, rfl, ⟨hrw, hS.th.kept hkk hS.nx, foot_next hog hxb hS.nx, hS.k.trans hkk (fun i hi h => hS.low i h), fun q hq => ?_, hS.lx⟩, hM.elems, hx, hkk⟩
  rcases hq with e | e | e | e
  · exact hS.low q (.inl e)
  · rcases hog with h | h
    · exact hS.low q (.inr (.inl (by rw [e, h])))
    · omega
  · exact hS.low q (.inr (.inr (.inl e)))
  · exact hS.low q (.inr (.inr (.inr e)))

/-- What the test of a call comes to. -/
theorem test_valid {kd k n : Int} {q0 e4 e5 e6 e19 z0 : Bool} (h0 : (ofI k == kd) = q0) (h4 : (k == 4) = e4) (h5 : (k == 5) = e5) (h6 : (k == 6) = e6) (h19 : (k == 19) = e19) (hz : (n == 0) = z0)
    (h : (((!q0 || decide (n < 0)) || decide (1000 < n)) || ((e4 || e5 || e6) && z0) || (!e4 && !e5 && !e6 && !e19 && !z0)) = false) : Valid kd k n := by
  subst h0 h4 h5 h6 h19 hz
  simp only [Bool.or_eq_false_iff, Bool.and_eq_false_iff, Bool.not_eq_false', decide_eq_false_iff_not, beq_iff_eq, beq_eq_false_iff_ne, ne_eq] at h
  obtain ⟨⟨⟨⟨h1, h2⟩, h3⟩, h4⟩, h5⟩ := h
  refine ⟨h1, by omega, by omega, fun hk => ?_, ?_⟩
  · rcases h4 with h4 | h4
    · omega
    · omega
  · omega

end
end Go.Proofs.Ytofnomkedpagfaa
end
section
namespace Go.Proofs.Ytofnomkedpagfaa
open Go.RowKit
set_option linter.unusedVariables false
set_option linter.unusedSimpArgs false

noncomputable def plays14 : Code := down [1, 1, 1, 1, 1, 1, 0, 1, 0, 0, 1, 0, 0, 1, 1, 1, 1, 0] (Try.f6.body.getD .skip)
set_option maxHeartbeats 1000000 in
set_option maxRecDepth 100000 in
theorem reg14 {Q : Exit → Act → World → Prop} {w : World} {cb xb t q : Nat} {xk xo xn xw vl : Int} {xr : Bool} {C1 C2 : List Value} {ws : List Nt} {u0 u1 u2 u3 u4 u5 u6 u7 u8 u9 u10 u11 u13 u16 u17 u18 u19 u20 u21 u22 u23 u24 u25 u26 u27 u28 u29 u30 u31 u32 u33 u34 u35 u36 u37 u38 u39 u40 u41 u42 u43 u44 u45 u46 u47 u48 u49 u50 u51 u52 u53 u54 u55 u56 u57 u58 u59 u60 u61 u62 u63 u64 u65 u66 u67 u68 u69 u70 u71 u72 u73 u74 u75 u76 u77 u78 u79 u80 u81 u82 u83 u84 u85 u86 u87 u88 u89 u90 u91 u92 u93 u94 u95 u96 u97 u98 u99 u100 u101 u102 u103 u104 u105 u106 u107 u108 u109 u110 u111 u112 u113 u114 u115 u116 u117 u118 u119 u120 u121 u122 u123 u124 u125 u126 u127 u128 u129 u130 u131 u132 u133 u134 u135 u136 u137 u138 u139 u140 u141 u142 u143 u144 u145 u146 u147 u148 u149 u150 u151 u152 u153 u154 u155 : Value}
    (HTH : Hid (ThAt xb C1 w)) (HLN : Hid (C1.length = 15)) (HLM : Hid (C2.length = 15)) (HON : Hid (∀ v ∈ C2, v.oneCell' = true))
    (HC6 : Hid (w.heap[cb]? = some (.cells #[.int .i64 xk, .int .i64 xo, .int .i64 xn, .int .i64 xw, .bool xr] 32 (0, 0))))
    (HEX : Hid (∀ w', Calls Try.prog 17 #[.agg C1.toArray, .int .i64 t, .agg #[.int .i64 xk, .int .i64 xo, .int .i64 xn, .int .i64 xw, .bool xr]] w' fun e w'' =>
        ∃ sb cb', e = .returned (.tuple #[.agg C2.toArray, .slice sb q cb', .int .i64 vl]) ∧ Elems w'' w''.heap.size sb 2 Nt.cells ws ∧ Kept (fun _ => False) w' w''))
    (hnext : Hid (∀ (sb : Option Addr) (cb' yb : Nat) (v134 v135 v136 v137 v138 v139 v140 v141 : Value) (w' : World), ThAt yb C2 w' → Elems w' w'.heap.size sb 2 Nt.cells ws → w.heap.size ≤ yb → Kept (fun _ => False) w w' → Q .normal ⟨#[u0, u1, u2, u3, u4, u5, u6, u7, u8, u9, u10, u11, .pointer (some ⟨xb, 0, none⟩), u13, .pointer (some ⟨cb, 0, none⟩), .int .i64 t, u16, u17, u18, .pointer (some ⟨yb, 0, none⟩), .slice sb q cb', .int .i64 vl, u22, u23, u24, u25, u26, u27, u28, u29, u30, u31, u32, u33, u34, u35, u36, u37, u38, u39, u40, u41, u42, u43, u44, u45, u46, u47, u48, u49, u50, u51, u52, u53, u54, u55, u56, u57, u58, u59, u60, u61, u62, u63, u64, u65, u66, u67, u68, u69, u70, u71, u72, u73, u74, u75, u76, u77, u78, u79, u80, u81, u82, u83, u84, u85, u86, u87, u88, u89, u90, u91, u92, u93, u94, u95, u96, u97, u98, u99, u100, u101, u102, u103, u104, u105, u106, u107, u108, u109, u110, u111, u112, u113, u114, u115, u116, u117, u118, u119, u120, u121, u122, u123, u124, u125, u126, u127, u128, u129, u130, u131, u132, u133, v134, v135, v136, v137, v138, v139, v140, v141, u142, u143, u144, u145, u146, u147, u148, u149, u150, u151, u152, u153, u154, u155], []⟩ w')) :
    plays14.wp Try.prog Q ⟨#[u0, u1, u2, u3, u4, u5, u6, u7, u8, u9, u10, u11, .pointer (some ⟨xb, 0, none⟩), u13, .pointer (some ⟨cb, 0, none⟩), .int .i64 t, u16, u17, u18, u19, u20, u21, u22, u23, u24, u25, u26, u27, u28, u29, u30, u31, u32, u33, u34, u35, u36, u37, u38, u39, u40, u41, u42, u43, u44, u45, u46, u47, u48, u49, u50, u51, u52, u53, u54, u55, u56, u57, u58, u59, u60, u61, u62, u63, u64, u65, u66, u67, u68, u69, u70, u71, u72, u73, u74, u75, u76, u77, u78, u79, u80, u81, u82, u83, u84, u85, u86, u87, u88, u89, u90, u91, u92, u93, u94, u95, u96, u97, u98, u99, u100, u101, u102, u103, u104, u105, u106, u107, u108, u109, u110, u111, u112, u113, u114, u115, u116, u117, u118, u119, u120, u121, u122, u123, u124, u125, u126, u127, u128, u129, u130, u131, u132, u133, u134, u135, u136, u137, u138, u139, u140, u141, u142, u143, u144, u145, u146, u147, u148, u149, u150, u151, u152, u153, u154, u155], []⟩ w := by
  obtain ⟨c0, c1, c2, c3, c4, _⟩ := cells5 HC6.out
  unfold plays14
  conv => arg 2; whnf
  refine wp_region_lit ?_
  refine wpList_loadTh rfl rfl rfl HTH.out HLN.out ?_
  go_wp2_with fail
  refine (HEX.out _).mono ?_
  rintro e w1 ⟨sb, cb', rfl, hE, hk⟩
  have HK := Lib.hid hk
  have HE := Lib.hid hE
  have HZ := Lib.hid (th_zero w1)
  clear hE hk c0 c1 c2 c3 c4
  go_wp2_with (refine wpList_storeTh rfl rfl rfl rfl HZ.out rfl HLM.out HON.out ?_; intro W5 hb5 hk5; have H5 := Lib.hid (And.intro hb5 hk5); clear hb5 hk5)
  have k5 : Kept (fun _ => False) w W5 := (HK.out.alloc _).trans H5.out.2 (fun i hi e => by have := HK.out.size; have : i = w1.heap.size := e; omega)
  have hE5 : Elems W5 W5.heap.size sb 2 Nt.cells ws := by
    have h1 : Kept (fun k => k = w1.heap.size) w1 W5 := ((Kept.refl _ w1).alloc _).trans H5.out.2 (fun _ _ e => e)
    exact (HE.out.kept h1 (Nat.le_refl _) (fun k hk e => by omega)).more h1.size
  exact hnext.out _ _ _ _ _ _ _ _ _ _ _ _ H5.out.1 hE5 HK.out.size k5

noncomputable def plays17 : Code := down [1, 1, 1, 1, 1, 1, 0, 1, 0, 0, 1, 0, 0, 1, 1, 1, 1, 1, 1] (Try.f6.body.getD .skip)
set_option maxHeartbeats 1000000 in
set_option maxRecDepth 100000 in
theorem reg17 {Q : Exit → Act → World → Prop} {w : World} {xb yb : Nat} {C1 C2 : List Value} {u0 u1 u2 u3 u4 u5 u6 u7 u8 u9 u10 u11 u13 u14 u15 u16 u17 u18 u20 u21 u22 u23 u24 u25 u26 u27 u28 u29 u30 u31 u32 u33 u34 u35 u36 u37 u38 u39 u40 u41 u42 u43 u44 u45 u46 u47 u48 u49 u50 u51 u52 u53 u54 u55 u56 u57 u58 u59 u60 u61 u62 u63 u64 u65 u66 u67 u68 u69 u70 u71 u72 u73 u74 u75 u76 u77 u78 u79 u80 u81 u82 u83 u84 u85 u86 u87 u88 u89 u90 u91 u92 u93 u94 u95 u96 u97 u98 u99 u100 u101 u102 u103 u104 u105 u106 u107 u108 u109 u110 u111 u112 u113 u114 u115 u116 u117 u118 u119 u120 u121 u122 u123 u124 u125 u126 u127 u128 u129 u130 u131 u132 u133 u134 u135 u136 u137 u138 u139 u140 u141 u142 u143 u144 u145 u146 u147 u148 u149 u150 u151 u152 u153 u154 u155 : Value}
    (HTH : Hid (ThAt xb C1 w)) (HTY : Hid (ThAt yb C2 w)) (HLN : Hid (C1.length = 15)) (HLM : Hid (C2.length = 15)) (HON : Hid (∀ v ∈ C2, v.oneCell' = true))
    (hnext : Hid (∀ (v155 : Value) (w' : World), ThAt xb C2 w' → Kept (fun k => k = xb) w w' → Q .normal ⟨#[u0, u1, u2, u3, u4, u5, u6, u7, u8, u9, u10, u11, .pointer (some ⟨xb, 0, none⟩), u13, u14, u15, u16, u17, u18, .pointer (some ⟨yb, 0, none⟩), u20, u21, u22, u23, u24, u25, u26, u27, u28, u29, u30, u31, u32, u33, u34, u35, u36, u37, u38, u39, u40, u41, u42, u43, u44, u45, u46, u47, u48, u49, u50, u51, u52, u53, u54, u55, u56, u57, u58, u59, u60, u61, u62, u63, u64, u65, u66, u67, u68, u69, u70, u71, u72, u73, u74, u75, u76, u77, u78, u79, u80, u81, u82, u83, u84, u85, u86, u87, u88, u89, u90, u91, u92, u93, u94, u95, u96, u97, u98, u99, u100, u101, u102, u103, u104, u105, u106, u107, u108, u109, u110, u111, u112, u113, u114, u115, u116, u117, u118, u119, u120, u121, u122, u123, u124, u125, u126, u127, u128, u129, u130, u131, u132, u133, u134, u135, u136, u137, u138, u139, u140, u141, u142, u143, u144, u145, u146, u147, u148, u149, u150, u151, u152, u153, u154, v155], []⟩ w')) :
    plays17.wp Try.prog Q ⟨#[u0, u1, u2, u3, u4, u5, u6, u7, u8, u9, u10, u11, .pointer (some ⟨xb, 0, none⟩), u13, u14, u15, u16, u17, u18, .pointer (some ⟨yb, 0, none⟩), u20, u21, u22, u23, u24, u25, u26, u27, u28, u29, u30, u31, u32, u33, u34, u35, u36, u37, u38, u39, u40, u41, u42, u43, u44, u45, u46, u47, u48, u49, u50, u51, u52, u53, u54, u55, u56, u57, u58, u59, u60, u61, u62, u63, u64, u65, u66, u67, u68, u69, u70, u71, u72, u73, u74, u75, u76, u77, u78, u79, u80, u81, u82, u83, u84, u85, u86, u87, u88, u89, u90, u91, u92, u93, u94, u95, u96, u97, u98, u99, u100, u101, u102, u103, u104, u105, u106, u107, u108, u109, u110, u111, u112, u113, u114, u115, u116, u117, u118, u119, u120, u121, u122, u123, u124, u125, u126, u127, u128, u129, u130, u131, u132, u133, u134, u135, u136, u137, u138, u139, u140, u141, u142, u143, u144, u145, u146, u147, u148, u149, u150, u151, u152, u153, u154, u155], []⟩ w := by
  unfold plays17
  conv => arg 2; whnf
  refine wp_region_lit ?_
  refine wpList_loadTh rfl rfl rfl HTY.out HLM.out ?_
  go_wp2_with (refine wpList_storeTh rfl rfl rfl rfl HTH.out HLN.out HLM.out HON.out ?_; intro W5 hb5 hk5; have H5 := Lib.hid (And.intro hb5 hk5); clear hb5 hk5)
  exact hnext.out _ _ H5.out.1 H5.out.2

end Go.Proofs.Ytofnomkedpagfaa
end
