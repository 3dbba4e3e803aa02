/-
  Region 20 of the document's Step of layer 9: a call's frame is appended.
  Conditions: at most 14 frames ahead.
-/
import Derived.Test.YtofnomkedpagfaaMachMove
import Derived.Test.YtofnomkedpagfaaDown
import Derived.LoopTactic
import Derived.Deep.RegionLaw
namespace Go.Proofs.Ytofnomkedpagfaa
open Go.RowKit
set_option linter.unusedVariables false
set_option linter.unusedSimpArgs false

theorem exit_lits {E : Exit → Act → World → Prop} {a : Act} {w : World} (mk : (Nat → Value) → Act) (hf : mk (lett a) = a) (i : Nat) (v : Value) (hv : lett a i = v) (h : ∀ f : Nat → Value, f i = v → E .normal (mk f) w) : E .normal a w := by rw [← hf]; exact h _ hv
noncomputable def step20 : Code := down [1, 1, 1, 0, 1, 0, 0, 1, 0, 0, 1, 1, 1, 1, 1, 1, 1, 0, 1, 0, 1, 1, 0] (Try.f25.body.getD .skip)
set_option maxHeartbeats 4000000 in
set_option maxRecDepth 100000 in
theorem reg20 {K : Act → World → Prop} {w W5 : World} {P : Wp} {og0 og oc fg fc k z : Nat} {nv : Value} {s : Ms} {op a b c n : Int} {u0 u1 u2 u4 u5 u6 u7 u8 u9 u10 u11 u12 u13 u15 u17 u18 u19 u20 u21 u22 u23 u24 u25 u26 u27 u28 u29 u30 u31 u32 u33 u34 u35 u36 u37 u38 u39 u40 u41 u42 u43 u44 u45 u46 u47 u48 u49 u50 u51 u52 u53 u54 u55 u56 u57 u58 u59 u60 u61 u62 u63 u64 u65 u66 u67 u68 u69 u70 u71 u72 u73 u74 u75 u76 u77 u78 u79 u80 u81 u82 u83 u84 u85 u86 u87 u88 u89 u90 u91 u92 u93 u94 u95 u96 u97 u98 u99 u100 u101 u102 u103 u104 u105 u106 u107 u108 u109 u110 u111 u112 u113 u114 u115 u116 u117 u118 u119 u120 u121 u122 u123 u124 u125 u126 u127 u128 u129 u130 u131 u132 u133 u134 u135 u136 u137 u138 u139 u140 u141 u142 u143 u144 u145 u146 u147 u148 u149 u150 u151 u152 u153 u154 u155 u156 u157 u158 u159 u160 u161 u162 u163 u164 u165 u166 u167 u168 u169 u170 u171 u172 u173 u174 u175 u176 u177 u178 u179 u180 u181 : Value}
    (HS5 : Hid (StIn w P og0 og oc fg fc nv s W5)) (hk : s.bs.length = k) (k14 : k ≤ 14) (HX : Hid (W5.heap[z]? = some (.cells #[.int .i64 op, .int .i64 a, .int .i64 b, .int .i64 c, .int .i64 n] 87 (0, 0))))
    (hnext : Hid (∀ (v3 v84 v85 v86 v87 v88 v89 v90 v91 v92 v93 v94 : Value) (fg' fc' : Nat) (w' : World), v3 = .slice (some ⟨fg', 0, none⟩) (k + 1 + 1) fc' → StIn w P og0 og oc fg' fc' nv { s with bs := s.bs ++ [s.f], f := ⟨n, s.f.r⟩ } w' → Exit.then K (fun _ _ _ => False) .normal ⟨#[u0, u1, u2, v3, u4, u5, u6, u7, u8, u9, u10, u11, u12, u13, .int .i64 k, u15, .pointer (some ⟨z, 0, none⟩), u17, u18, u19, u20, u21, u22, u23, u24, u25, u26, u27, u28, u29, u30, u31, u32, u33, u34, u35, u36, u37, u38, u39, u40, u41, u42, u43, u44, u45, u46, u47, u48, u49, u50, u51, u52, u53, u54, u55, u56, u57, u58, u59, u60, u61, u62, u63, u64, u65, u66, u67, u68, u69, u70, u71, u72, u73, u74, u75, u76, u77, u78, u79, u80, u81, u82, u83, v84, v85, v86, v87, v88, v89, v90, v91, v92, v93, v94, u95, u96, u97, u98, u99, u100, u101, u102, u103, u104, u105, u106, u107, u108, u109, u110, u111, u112, u113, u114, u115, u116, u117, u118, u119, u120, u121, u122, u123, u124, u125, u126, u127, u128, u129, u130, u131, u132, u133, u134, u135, u136, u137, u138, u139, u140, u141, u142, u143, u144, u145, u146, u147, u148, u149, u150, u151, u152, u153, u154, u155, u156, u157, u158, u159, u160, u161, u162, u163, u164, u165, u166, u167, u168, u169, u170, u171, u172, u173, u174, u175, u176, u177, u178, u179, u180, u181], []⟩ w')) :
    step20.wp Try.prog (Exit.then K (fun _ _ _ => False)) ⟨#[u0, u1, u2, .slice (some ⟨fg, 0, none⟩) (k + 1) fc, u4, u5, u6, u7, u8, u9, u10, u11, u12, u13, .int .i64 k, u15, .pointer (some ⟨z, 0, none⟩), u17, u18, u19, u20, u21, u22, u23, u24, u25, u26, u27, u28, u29, u30, u31, u32, u33, u34, u35, u36, u37, u38, u39, u40, u41, u42, u43, u44, u45, u46, u47, u48, u49, u50, u51, u52, u53, u54, u55, u56, u57, u58, u59, u60, u61, u62, u63, u64, u65, u66, u67, u68, u69, u70, u71, u72, u73, u74, u75, u76, u77, u78, u79, u80, u81, u82, u83, u84, u85, u86, u87, u88, u89, u90, u91, u92, u93, u94, u95, u96, u97, u98, u99, u100, u101, u102, u103, u104, u105, u106, u107, u108, u109, u110, u111, u112, u113, u114, u115, u116, u117, u118, u119, u120, u121, u122, u123, u124, u125, u126, u127, u128, u129, u130, u131, u132, u133, u134, u135, u136, u137, u138, u139, u140, u141, u142, u143, u144, u145, u146, u147, u148, u149, u150, u151, u152, u153, u154, u155, u156, u157, u158, u159, u160, u161, u162, u163, u164, u165, u166, u167, u168, u169, u170, u171, u172, u173, u174, u175, u176, u177, u178, u179, u180, u181], []⟩ W5 := by
  obtain ⟨i17, hi7, hz7, hn7, hb7⟩ := info_parts info_fr
  have HI7 := Lib.hid hi7; clear hi7
  have HZ7 := Lib.hid hz7; clear hz7
  have HN7 := Lib.hid hn7; clear hn7
  have HB7 := Lib.hid hb7; clear hb7
  have HKK := Lib.hid hk
  obtain ⟨c0, c1, c2, c3, c4, _⟩ := cells5 HX.out
  obtain ⟨y1, y2, y3, y4, y5, y6, y7, y8, y9, y10, y11, y12, y13, y14, y15, y16⟩ := HS5.out.all (k := k) hk
  have HOWN : Hid (∀ W', Kept (fun _ => False) W5 W' → W'.ownsRow 0 72 17 (.slice (some ⟨fg, 0, none⟩) (k + 1) fc) (k + 1) (flat Fr.cells (s.bs ++ [s.f]))) := Lib.hid (fun W' hkk => by
    have h3 := HS5.out.fr.kept hkk (fun f => f)
    unfold Row at h3
    rw [show (s.bs ++ [s.f]).length = k + 1 by rw [List.length_append, hk]; rfl] at h3
    exact h3)
  have HEL : Hid (Elems (W5.alloc (.cells #[.int .i64 n, .int .i64 (s.f.r 0), .int .i64 (s.f.r 1), .int .i64 (s.f.r 2), .int .i64 (s.f.r 3), .int .i64 (s.f.r 4), .int .i64 (s.f.r 5), .int .i64 (s.f.r 6), .int .i64 (s.f.r 7), .int .i64 (s.f.r 8), .int .i64 (s.f.r 9), .int .i64 (s.f.r 10), .int .i64 (s.f.r 11), .int .i64 (s.f.r 12), .int .i64 (s.f.r 13), .int .i64 (s.f.r 14), .int .i64 (s.f.r 15)] 72)).drew (W5.heap.size + 1) (some ⟨W5.heap.size, 0, none⟩) 17 Fr.cells [⟨n, s.f.r⟩]) :=
    Lib.hid (Elems.block (f := Fr.cells) (xs := [⟨n, s.f.r⟩]) Fr.len (heap_new1 W5 (.cells #[.int .i64 n, .int .i64 (s.f.r 0), .int .i64 (s.f.r 1), .int .i64 (s.f.r 2), .int .i64 (s.f.r 3), .int .i64 (s.f.r 4), .int .i64 (s.f.r 5), .int .i64 (s.f.r 6), .int .i64 (s.f.r 7), .int .i64 (s.f.r 8), .int .i64 (s.f.r 9), .int .i64 (s.f.r 10), .int .i64 (s.f.r 11), .int .i64 (s.f.r 12), .int .i64 (s.f.r 13), .int .i64 (s.f.r 14), .int .i64 (s.f.r 15)] 72)) rfl (by show 1 ≤ maxLen; decide))
  have k15 : (k : Int) ≤ 14 := by omega
  have kk1 : (k : Int) < (k : Int) + 1 := by omega
  clear hk
  unfold step20
  conv => arg 2; whnf
  go_region_law (refine step_append_elems (ys := [⟨n, s.f.r⟩]) _ (by rfl) _ _ _ (by rfl) 0 72 i17 (.agg #[.int .i64 0, .int .i64 0, .int .i64 0, .int .i64 0, .int .i64 0, .int .i64 0, .int .i64 0, .int .i64 0, .int .i64 0, .int .i64 0, .int .i64 0, .int .i64 0, .int .i64 0, .int .i64 0, .int .i64 0, .int .i64 0, .int .i64 0]) 17 136 Try.underlying73 HI7.out HZ7.out HN7.out HB7.out rfl (by decide) Fr.len (frs_one _) (.slice (some ⟨fg, 0, none⟩) (k + 1) fc) (k + 1) (flat Fr.cells (s.bs ++ [s.f])) (by rfl) (by exact HOWN.out _ (((Kept.refl _ W5).alloc _).drew)) (W5.heap.size + 1) _ 1 (by rfl) (by exact HEL.out) (by show k + 1 + 1 ≤ maxLen; unfold maxLen; omega) (by show (k + 1 + 1) * 136 ≤ _; omega) (by simp) ?_; intro v' w3 g1 g2 g3)
  all_goals
    rw [← HKK.out] at g1
    obtain ⟨fg', fc', rfl, hst'⟩ := HS5.out.push (((Kept.refl _ W5).alloc _).drew) ⟨n, s.f.r⟩ g1 g2 (Or.imp (fun e => e) (fun e => e) g3)
    refine exit_lits (fun f => ⟨#[u0, u1, u2, f 3, u4, u5, u6, u7, u8, u9, u10, u11, u12, u13, .int .i64 k, u15, .pointer (some ⟨z, 0, none⟩), u17, u18, u19, u20, u21, u22, u23, u24, u25, u26, u27, u28, u29, u30, u31, u32, u33, u34, u35, u36, u37, u38, u39, u40, u41, u42, u43, u44, u45, u46, u47, u48, u49, u50, u51, u52, u53, u54, u55, u56, u57, u58, u59, u60, u61, u62, u63, u64, u65, u66, u67, u68, u69, u70, u71, u72, u73, u74, u75, u76, u77, u78, u79, u80, u81, u82, u83, f 84, f 85, f 86, f 87, f 88, f 89, f 90, f 91, f 92, f 93, f 94, u95, u96, u97, u98, u99, u100, u101, u102, u103, u104, u105, u106, u107, u108, u109, u110, u111, u112, u113, u114, u115, u116, u117, u118, u119, u120, u121, u122, u123, u124, u125, u126, u127, u128, u129, u130, u131, u132, u133, u134, u135, u136, u137, u138, u139, u140, u141, u142, u143, u144, u145, u146, u147, u148, u149, u150, u151, u152, u153, u154, u155, u156, u157, u158, u159, u160, u161, u162, u163, u164, u165, u166, u167, u168, u169, u170, u171, u172, u173, u174, u175, u176, u177, u178, u179, u180, u181], []⟩) (by kernel_rfl) 3 (.slice (some ⟨fg', 0, none⟩) (s.bs.length + 1 + 1) fc') (by kernel_rfl) (fun f hf => ?_)
    exact hnext.out (f 3) (f 84) (f 85) (f 86) (f 87) (f 88) (f 89) (f 90) (f 91) (f 92) (f 93) (f 94) fg' fc' w3 (hf.trans (by rw [HKK.out])) hst'

theorem then_any {K : Act → World → Prop} {X : Exit → Act → World → Prop} (e : Exit) (a : Act) (w : World) (h : Exit.then K (fun _ _ _ => False) e a w) : Exit.then K X e a w := by
  cases e <;> first | exact h | exact h.elim

end Go.Proofs.Ytofnomkedpagfaa
