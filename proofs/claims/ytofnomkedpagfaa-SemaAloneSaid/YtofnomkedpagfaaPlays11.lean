/-
  The test of a call in the document's Plays: a region of 61 operations that draws its order.
  Conditions: where the call and the object lie.
-/
import Derived.Test.YtofnomkedpagfaaRepInv
import Derived.Test.YtofnomkedpagfaaRunMay
import Derived.Test.YtofnomkedpagfaaDown
namespace Go.Proofs.Ytofnomkedpagfaa
open Go.RowKit
set_option linter.unusedVariables false
set_option linter.unusedSimpArgs false

noncomputable def plays11 : Code := down [1, 1, 1, 1, 1, 1, 0, 1, 0, 0, 1, 0, 0, 1, 0, 0] (Try.f6.body.getD .skip)
theorem bool_cases (b : Bool) : b = true ∨ b = false := by cases b <;> simp
theorem lt61 : ∀ i, i < 61 → (i = 0 ∨ i = 1 ∨ i = 2 ∨ i = 3 ∨ i = 4 ∨ i = 5 ∨ i = 6 ∨ i = 7 ∨ i = 8 ∨ i = 9 ∨ i = 10 ∨ i = 11 ∨ i = 12 ∨ i = 13 ∨ i = 14 ∨ i = 15 ∨ i = 16 ∨ i = 17 ∨ i = 18 ∨ i = 19 ∨ i = 20 ∨ i = 21 ∨ i = 22 ∨ i = 23 ∨ i = 24 ∨ i = 25 ∨ i = 26 ∨ i = 27 ∨ i = 28 ∨ i = 29 ∨ i = 30 ∨ i = 31 ∨ i = 32 ∨ i = 33 ∨ i = 34 ∨ i = 35 ∨ i = 36 ∨ i = 37 ∨ i = 38 ∨ i = 39 ∨ i = 40 ∨ i = 41 ∨ i = 42 ∨ i = 43 ∨ i = 44 ∨ i = 45 ∨ i = 46 ∨ i = 47 ∨ i = 48 ∨ i = 49 ∨ i = 50 ∨ i = 51 ∨ i = 52 ∨ i = 53 ∨ i = 54 ∨ i = 55 ∨ i = 56 ∨ i = 57 ∨ i = 58 ∨ i = 59 ∨ i = 60)
  | 0, _ => by simp
  | 1, _ => by simp
  | 2, _ => by simp
  | 3, _ => by simp
  | 4, _ => by simp
  | 5, _ => by simp
  | 6, _ => by simp
  | 7, _ => by simp
  | 8, _ => by simp
  | 9, _ => by simp
  | 10, _ => by simp
  | 11, _ => by simp
  | 12, _ => by simp
  | 13, _ => by simp
  | 14, _ => by simp
  | 15, _ => by simp
  | 16, _ => by simp
  | 17, _ => by simp
  | 18, _ => by simp
  | 19, _ => by simp
  | 20, _ => by simp
  | 21, _ => by simp
  | 22, _ => by simp
  | 23, _ => by simp
  | 24, _ => by simp
  | 25, _ => by simp
  | 26, _ => by simp
  | 27, _ => by simp
  | 28, _ => by simp
  | 29, _ => by simp
  | 30, _ => by simp
  | 31, _ => by simp
  | 32, _ => by simp
  | 33, _ => by simp
  | 34, _ => by simp
  | 35, _ => by simp
  | 36, _ => by simp
  | 37, _ => by simp
  | 38, _ => by simp
  | 39, _ => by simp
  | 40, _ => by simp
  | 41, _ => by simp
  | 42, _ => by simp
  | 43, _ => by simp
  | 44, _ => by simp
  | 45, _ => by simp
  | 46, _ => by simp
  | 47, _ => by simp
  | 48, _ => by simp
  | 49, _ => by simp
  | 50, _ => by simp
  | 51, _ => by simp
  | 52, _ => by simp
  | 53, _ => by simp
  | 54, _ => by simp
  | 55, _ => by simp
  | 56, _ => by simp
  | 57, _ => by simp
  | 58, _ => by simp
  | 59, _ => by simp
  | 60, _ => by simp
  | i + 61, h => absurd h (by omega)
set_option maxHeartbeats 16000000 in
set_option maxRecDepth 100000 in
theorem reg11 {Q : Exit → Act → World → Prop} {W : World} {cb ob : Nat} {xk xn kd r0 : Int} {u0 u1 u2 u3 u5 u6 u7 u8 u9 u10 u11 u12 u13 u15 u16 u17 u18 u19 u20 u21 u22 u23 u24 u25 u26 u27 u28 u29 u30 u31 u32 u33 u34 u35 u36 u37 u38 u39 u40 u41 u42 u43 u44 u45 u46 u47 u48 u49 u50 u51 u52 u53 u54 u55 u56 u57 u58 u59 u60 u61 u62 u63 u64 u65 u66 u67 u68 u69 u70 u71 u72 u73 u74 u75 u76 u77 u78 u79 u80 u81 u82 u83 u84 u85 u86 u87 u88 u89 u90 u91 u92 u93 u94 u95 u96 u97 u98 u99 u100 u101 u102 u103 u104 u105 u106 u107 u108 u109 u110 u111 u112 u113 u114 u115 u116 u117 u118 u119 u120 u121 u122 u123 u124 u125 u126 u127 u128 u129 u130 u131 u132 u133 u134 u135 u136 u137 u138 u139 u140 u141 u142 u143 u144 u145 u146 u147 u148 u149 u150 u151 u152 u153 u154 u155 : Value}
    (HOF : Hid (∀ w', Calls Try.prog 12 #[.int .i64 xk] w' fun e w'' => e = .returned (.int .i64 r0) ∧ Kept (fun _ => False) w' w''))
    (HCO6 : Hid (∀ w', Kept (fun _ => False) W w' → w'.cell? ⟨cb, 0, none⟩ = some (.int .i64 xk) ∧ w'.cell? ⟨cb, 2, none⟩ = some (.int .i64 xn) ∧ w'.cell? ⟨ob, 0, none⟩ = some (.int .i64 kd)))
    (q0 e4 e5 e6 e19 z0 : Bool) (HQ0 : Hid ((r0 == kd) = q0)) (HE4 : Hid ((xk == 4) = e4)) (HE5 : Hid ((xk == 5) = e5)) (HE6 : Hid ((xk == 6) = e6)) (HE19 : Hid ((xk == 19) = e19)) (HZ0 : Hid ((xn == 0) = z0))
    (hnext : Hid (∀ (b11 : Bool) (v0 v1 v2 v3 v4 v5 v6 v7 v8 v9 v10 v11 v12 v13 v14 v15 v16 v17 v18 v19 v20 v21 v22 v23 v24 v25 v26 v27 v28 v29 v30 v31 v32 v33 v34 v35 v36 v37 v38 v39 v40 v41 v42 v43 v44 v45 v46 v47 v48 v49 v50 v51 v52 v53 v54 v55 v56 v57 v58 v59 : Value) (w' : World), b11 = (((!q0 || decide (xn < 0)) || decide (1000 < xn)) || ((e4 || e5 || e6) && z0) || (!e4 && !e5 && !e6 && !e19 && !z0)) → Kept (fun _ => False) W w' → Q .normal ⟨#[u0, u1, u2, u3, .pointer (some ⟨ob, 0, none⟩), u5, u6, u7, u8, u9, u10, u11, u12, u13, .pointer (some ⟨cb, 0, none⟩), u15, u16, u17, u18, u19, u20, u21, u22, u23, u24, u25, u26, u27, u28, u29, u30, u31, u32, u33, u34, u35, u36, u37, u38, u39, u40, u41, u42, u43, u44, u45, u46, u47, u48, u49, u50, v0, v1, v2, v3, v4, v5, v6, v7, v8, v9, v10, v11, v12, v13, v14, v15, v16, v17, v18, v19, v20, v21, v22, v23, v24, v25, v26, v27, v28, v29, v30, v31, v32, v33, v34, v35, v36, v37, v38, v39, v40, v41, v42, v43, v44, v45, v46, v47, v48, v49, v50, v51, v52, v53, v54, v55, v56, v57, v58, v59, .bool b11, u112, u113, u114, u115, u116, u117, u118, u119, u120, u121, u122, u123, u124, u125, u126, u127, u128, u129, u130, u131, u132, u133, u134, u135, u136, u137, u138, u139, u140, u141, u142, u143, u144, u145, u146, u147, u148, u149, u150, u151, u152, u153, u154, u155], []⟩ w')) :
    plays11.wp Try.prog Q ⟨#[u0, u1, u2, u3, .pointer (some ⟨ob, 0, none⟩), u5, u6, u7, u8, u9, u10, u11, u12, u13, .pointer (some ⟨cb, 0, none⟩), u15, u16, u17, u18, u19, u20, u21, u22, u23, u24, u25, u26, u27, u28, u29, u30, u31, u32, u33, u34, u35, u36, u37, u38, u39, u40, u41, u42, u43, u44, u45, u46, u47, u48, u49, u50, u51, u52, u53, u54, u55, u56, u57, u58, u59, u60, u61, u62, u63, u64, u65, u66, u67, u68, u69, u70, u71, u72, u73, u74, u75, u76, u77, u78, u79, u80, u81, u82, u83, u84, u85, u86, u87, u88, u89, u90, u91, u92, u93, u94, u95, u96, u97, u98, u99, u100, u101, u102, u103, u104, u105, u106, u107, u108, u109, u110, u111, u112, u113, u114, u115, u116, u117, u118, u119, u120, u121, u122, u123, u124, u125, u126, u127, u128, u129, u130, u131, u132, u133, u134, u135, u136, u137, u138, u139, u140, u141, u142, u143, u144, u145, u146, u147, u148, u149, u150, u151, u152, u153, u154, u155], []⟩ W := by
  unfold plays11
  conv => arg 2; whnf
  obtain ⟨b1, hb1⟩ : ∃ b, b = (!q0 || decide (xn < 0)) := ⟨_, rfl⟩
  have HB1 := Lib.hid hb1; clear hb1
  obtain ⟨b2, hb2⟩ : ∃ b, b = (b1 || decide (1000 < xn)) := ⟨_, rfl⟩
  have HB2 := Lib.hid hb2; clear hb2
  obtain ⟨b3, hb3⟩ : ∃ b, b = (e4 || e5) := ⟨_, rfl⟩
  have HB3 := Lib.hid hb3; clear hb3
  obtain ⟨b4, hb4⟩ : ∃ b, b = (b3 || e6) := ⟨_, rfl⟩
  have HB4 := Lib.hid hb4; clear hb4
  obtain ⟨b5, hb5⟩ : ∃ b, b = (b4 && z0) := ⟨_, rfl⟩
  have HB5 := Lib.hid hb5; clear hb5
  obtain ⟨b6, hb6⟩ : ∃ b, b = (b2 || b5) := ⟨_, rfl⟩
  have HB6 := Lib.hid hb6; clear hb6
  obtain ⟨b7, hb7⟩ : ∃ b, b = (!e4 && !e5) := ⟨_, rfl⟩
  have HB7 := Lib.hid hb7; clear hb7
  obtain ⟨b8, hb8⟩ : ∃ b, b = (b7 && !e6) := ⟨_, rfl⟩
  have HB8 := Lib.hid hb8; clear hb8
  obtain ⟨b9, hb9⟩ : ∃ b, b = (b8 && !e19) := ⟨_, rfl⟩
  have HB9 := Lib.hid hb9; clear hb9
  obtain ⟨b10, hb10⟩ : ∃ b, b = (b9 && !z0) := ⟨_, rfl⟩
  have HB10 := Lib.hid hb10; clear hb10
  obtain ⟨b11, hb11⟩ : ∃ b, b = (b6 || b10) := ⟨_, rfl⟩
  have HB11 := Lib.hid hb11; clear hb11
  have HST : Hid (StayAll [PEq (.pointer (some ⟨cb, 0, none⟩)), PEq (.int .i64 xk), PEq (.int .i64 r0), PEq (.pointer (some ⟨ob, 0, none⟩)), PEq (.int .i64 kd), PEq (.bool (!q0)), PEq (.bool (!q0)), PEq ((bif q0 then .pointer (some ⟨cb, 2, none⟩) else undef)), PEq ((bif q0 then .int .i64 xn else undef)), PEq ((bif q0 then .bool (decide (xn < 0)) else undef)), PEq (.bool (b1)), PEq (.bool (b1)), PEq ((bif b1 then undef else .pointer (some ⟨cb, 2, none⟩))), PEq ((bif b1 then undef else .int .i64 xn)), PEq ((bif b1 then undef else .bool (decide (1000 < xn)))), PEq (.bool (b2)), PEq (.bool (b2)), PEq ((bif b2 then undef else .pointer (some ⟨cb, 0, none⟩))), PEq ((bif b2 then undef else .int .i64 xk)), PEq ((bif b2 then undef else .bool (e4))), PEq ((bif b2 then undef else .bool (e4))), PEq ((bif b2 then undef else (bif e4 then undef else .pointer (some ⟨cb, 0, none⟩)))), PEq ((bif b2 then undef else (bif e4 then undef else .int .i64 xk))), PEq ((bif b2 then undef else (bif e4 then undef else .bool (e5)))), PEq ((bif b2 then undef else .bool (b3))), PEq ((bif b2 then undef else .bool (b3))), PEq ((bif b2 then undef else (bif b3 then undef else .pointer (some ⟨cb, 0, none⟩)))), PEq ((bif b2 then undef else (bif b3 then undef else .int .i64 xk))), PEq ((bif b2 then undef else (bif b3 then undef else .bool (e6)))), PEq ((bif b2 then undef else .bool (b4))), PEq ((bif b2 then undef else .bool (b4))), PEq ((bif b2 then undef else (bif b4 then .pointer (some ⟨cb, 2, none⟩) else undef))), PEq ((bif b2 then undef else (bif b4 then .int .i64 xn else undef))), PEq ((bif b2 then undef else (bif b4 then .bool (z0) else undef))), PEq ((bif b2 then undef else .bool (b5))), PEq (.bool (b6)), PEq (.bool (b6)), PEq ((bif b6 then undef else .pointer (some ⟨cb, 0, none⟩))), PEq ((bif b6 then undef else .int .i64 xk)), PEq ((bif b6 then undef else .bool (!e4))), PEq ((bif b6 then undef else .bool (!e4))), PEq ((bif b6 then undef else (bif e4 then undef else .pointer (some ⟨cb, 0, none⟩)))), PEq ((bif b6 then undef else (bif e4 then undef else .int .i64 xk))), PEq ((bif b6 then undef else (bif e4 then undef else .bool (!e5)))), PEq ((bif b6 then undef else .bool (b7))), PEq ((bif b6 then undef else .bool (b7))), PEq ((bif b6 then undef else (bif b7 then .pointer (some ⟨cb, 0, none⟩) else undef))), PEq ((bif b6 then undef else (bif b7 then .int .i64 xk else undef))), PEq ((bif b6 then undef else (bif b7 then .bool (!e6) else undef))), PEq ((bif b6 then undef else .bool (b8))), PEq ((bif b6 then undef else .bool (b8))), PEq ((bif b6 then undef else (bif b8 then .pointer (some ⟨cb, 0, none⟩) else undef))), PEq ((bif b6 then undef else (bif b8 then .int .i64 xk else undef))), PEq ((bif b6 then undef else (bif b8 then .bool (!e19) else undef))), PEq ((bif b6 then undef else .bool (b9))), PEq ((bif b6 then undef else .bool (b9))), PEq ((bif b6 then undef else (bif b9 then .pointer (some ⟨cb, 2, none⟩) else undef))), PEq ((bif b6 then undef else (bif b9 then .int .i64 xn else undef))), PEq ((bif b6 then undef else (bif b9 then .bool (!z0) else undef))), PEq ((bif b6 then undef else .bool (b10))), PEq (.bool (b11))]) := Lib.hid ⟨stay_eq _, stay_eq _, stay_eq _, stay_eq _, stay_eq _, stay_eq _, stay_eq _, stay_eq _, stay_eq _, stay_eq _, stay_eq _, stay_eq _, stay_eq _, stay_eq _, stay_eq _, stay_eq _, stay_eq _, stay_eq _, stay_eq _, stay_eq _, stay_eq _, stay_eq _, stay_eq _, stay_eq _, stay_eq _, stay_eq _, stay_eq _, stay_eq _, stay_eq _, stay_eq _, stay_eq _, stay_eq _, stay_eq _, stay_eq _, stay_eq _, stay_eq _, stay_eq _, stay_eq _, stay_eq _, stay_eq _, stay_eq _, stay_eq _, stay_eq _, stay_eq _, stay_eq _, stay_eq _, stay_eq _, stay_eq _, stay_eq _, stay_eq _, stay_eq _, stay_eq _, stay_eq _, stay_eq _, stay_eq _, stay_eq _, stay_eq _, stay_eq _, stay_eq _, stay_eq _, stay_eq _, trivial⟩
  refine wp_region_any (by kernel_rfl) (wpAny_inv (fun l a w' => ∃ v0 v1 v2 v3 v4 v5 v6 v7 v8 v9 v10 v11 v12 v13 v14 v15 v16 v17 v18 v19 v20 v21 v22 v23 v24 v25 v26 v27 v28 v29 v30 v31 v32 v33 v34 v35 v36 v37 v38 v39 v40 v41 v42 v43 v44 v45 v46 v47 v48 v49 v50 v51 v52 v53 v54 v55 v56 v57 v58 v59 v60, a = ⟨#[u0, u1, u2, u3, .pointer (some ⟨ob, 0, none⟩), u5, u6, u7, u8, u9, u10, u11, u12, u13, .pointer (some ⟨cb, 0, none⟩), u15, u16, u17, u18, u19, u20, u21, u22, u23, u24, u25, u26, u27, u28, u29, u30, u31, u32, u33, u34, u35, u36, u37, u38, u39, u40, u41, u42, u43, u44, u45, u46, u47, u48, u49, u50, v0, v1, v2, v3, v4, v5, v6, v7, v8, v9, v10, v11, v12, v13, v14, v15, v16, v17, v18, v19, v20, v21, v22, v23, v24, v25, v26, v27, v28, v29, v30, v31, v32, v33, v34, v35, v36, v37, v38, v39, v40, v41, v42, v43, v44, v45, v46, v47, v48, v49, v50, v51, v52, v53, v54, v55, v56, v57, v58, v59, v60, u112, u113, u114, u115, u116, u117, u118, u119, u120, u121, u122, u123, u124, u125, u126, u127, u128, u129, u130, u131, u132, u133, u134, u135, u136, u137, u138, u139, u140, u141, u142, u143, u144, u145, u146, u147, u148, u149, u150, u151, u152, u153, u154, u155], []⟩ ∧ FG W [PEq (.pointer (some ⟨cb, 0, none⟩)), PEq (.int .i64 xk), PEq (.int .i64 r0), PEq (.pointer (some ⟨ob, 0, none⟩)), PEq (.int .i64 kd), PEq (.bool (!q0)), PEq (.bool (!q0)), PEq ((bif q0 then .pointer (some ⟨cb, 2, none⟩) else undef)), PEq ((bif q0 then .int .i64 xn else undef)), PEq ((bif q0 then .bool (decide (xn < 0)) else undef)), PEq (.bool (b1)), PEq (.bool (b1)), PEq ((bif b1 then undef else .pointer (some ⟨cb, 2, none⟩))), PEq ((bif b1 then undef else .int .i64 xn)), PEq ((bif b1 then undef else .bool (decide (1000 < xn)))), PEq (.bool (b2)), PEq (.bool (b2)), PEq ((bif b2 then undef else .pointer (some ⟨cb, 0, none⟩))), PEq ((bif b2 then undef else .int .i64 xk)), PEq ((bif b2 then undef else .bool (e4))), PEq ((bif b2 then undef else .bool (e4))), PEq ((bif b2 then undef else (bif e4 then undef else .pointer (some ⟨cb, 0, none⟩)))), PEq ((bif b2 then undef else (bif e4 then undef else .int .i64 xk))), PEq ((bif b2 then undef else (bif e4 then undef else .bool (e5)))), PEq ((bif b2 then undef else .bool (b3))), PEq ((bif b2 then undef else .bool (b3))), PEq ((bif b2 then undef else (bif b3 then undef else .pointer (some ⟨cb, 0, none⟩)))), PEq ((bif b2 then undef else (bif b3 then undef else .int .i64 xk))), PEq ((bif b2 then undef else (bif b3 then undef else .bool (e6)))), PEq ((bif b2 then undef else .bool (b4))), PEq ((bif b2 then undef else .bool (b4))), PEq ((bif b2 then undef else (bif b4 then .pointer (some ⟨cb, 2, none⟩) else undef))), PEq ((bif b2 then undef else (bif b4 then .int .i64 xn else undef))), PEq ((bif b2 then undef else (bif b4 then .bool (z0) else undef))), PEq ((bif b2 then undef else .bool (b5))), PEq (.bool (b6)), PEq (.bool (b6)), PEq ((bif b6 then undef else .pointer (some ⟨cb, 0, none⟩))), PEq ((bif b6 then undef else .int .i64 xk)), PEq ((bif b6 then undef else .bool (!e4))), PEq ((bif b6 then undef else .bool (!e4))), PEq ((bif b6 then undef else (bif e4 then undef else .pointer (some ⟨cb, 0, none⟩)))), PEq ((bif b6 then undef else (bif e4 then undef else .int .i64 xk))), PEq ((bif b6 then undef else (bif e4 then undef else .bool (!e5)))), PEq ((bif b6 then undef else .bool (b7))), PEq ((bif b6 then undef else .bool (b7))), PEq ((bif b6 then undef else (bif b7 then .pointer (some ⟨cb, 0, none⟩) else undef))), PEq ((bif b6 then undef else (bif b7 then .int .i64 xk else undef))), PEq ((bif b6 then undef else (bif b7 then .bool (!e6) else undef))), PEq ((bif b6 then undef else .bool (b8))), PEq ((bif b6 then undef else .bool (b8))), PEq ((bif b6 then undef else (bif b8 then .pointer (some ⟨cb, 0, none⟩) else undef))), PEq ((bif b6 then undef else (bif b8 then .int .i64 xk else undef))), PEq ((bif b6 then undef else (bif b8 then .bool (!e19) else undef))), PEq ((bif b6 then undef else .bool (b9))), PEq ((bif b6 then undef else .bool (b9))), PEq ((bif b6 then undef else (bif b9 then .pointer (some ⟨cb, 2, none⟩) else undef))), PEq ((bif b6 then undef else (bif b9 then .int .i64 xn else undef))), PEq ((bif b6 then undef else (bif b9 then .bool (!z0) else undef))), PEq ((bif b6 then undef else .bool (b10))), PEq (.bool (b11))] l w' [v0, v1, v2, v3, v4, v5, v6, v7, v8, v9, v10, v11, v12, v13, v14, v15, v16, v17, v18, v19, v20, v21, v22, v23, v24, v25, v26, v27, v28, v29, v30, v31, v32, v33, v34, v35, v36, v37, v38, v39, v40, v41, v42, v43, v44, v45, v46, v47, v48, v49, v50, v51, v52, v53, v54, v55, v56, v57, v58, v59, v60]) ?hstep ?hend _ _ _ _ (by simp) (by simp) ?hstart)
  case hstart =>
    exact ⟨_, _, _, _, _, _, _, _, _, _, _, _, _, _, _, _, _, _, _, _, _, _, _, _, _, _, _, _, _, _, _, _, _, _, _, _, _, _, _, _, _, _, _, _, _, _, _, _, _, _, _, _, _, _, _, _, _, _, _, _, _, rfl, ⟨(Kept.refl _ _).drew, fun i P v _ hv hf => (flag_none hf).elim⟩⟩
  case hstep =>
    intro l a wr i hs hI hi
    have hs' : l.size = 61 := hs
    obtain ⟨hlt, hu, hd⟩ := ready_of hi
    have hsj : ∀ j, j ≠ i → (l.setIfInBounds i true).getD j false = true → l.getD j false = true := fun j hj h => by
      rw [getD_set (by omega), if_neg hj] at h; exact h
    have HS := Lib.hid hsj; clear hsj
    have hlt' : i < 61 := hlt
    clear hi hlt hu
    obtain ⟨v0, hI⟩ := hI
    obtain ⟨v1, hI⟩ := hI
    obtain ⟨v2, hI⟩ := hI
    obtain ⟨v3, hI⟩ := hI
    obtain ⟨v4, hI⟩ := hI
    obtain ⟨v5, hI⟩ := hI
    obtain ⟨v6, hI⟩ := hI
    obtain ⟨v7, hI⟩ := hI
    obtain ⟨v8, hI⟩ := hI
    obtain ⟨v9, hI⟩ := hI
    obtain ⟨v10, hI⟩ := hI
    obtain ⟨v11, hI⟩ := hI
    obtain ⟨v12, hI⟩ := hI
    obtain ⟨v13, hI⟩ := hI
    obtain ⟨v14, hI⟩ := hI
    obtain ⟨v15, hI⟩ := hI
    obtain ⟨v16, hI⟩ := hI
    obtain ⟨v17, hI⟩ := hI
    obtain ⟨v18, hI⟩ := hI
    obtain ⟨v19, hI⟩ := hI
    obtain ⟨v20, hI⟩ := hI
    obtain ⟨v21, hI⟩ := hI
    obtain ⟨v22, hI⟩ := hI
    obtain ⟨v23, hI⟩ := hI
    obtain ⟨v24, hI⟩ := hI
    obtain ⟨v25, hI⟩ := hI
    obtain ⟨v26, hI⟩ := hI
    obtain ⟨v27, hI⟩ := hI
    obtain ⟨v28, hI⟩ := hI
    obtain ⟨v29, hI⟩ := hI
    obtain ⟨v30, hI⟩ := hI
    obtain ⟨v31, hI⟩ := hI
    obtain ⟨v32, hI⟩ := hI
    obtain ⟨v33, hI⟩ := hI
    obtain ⟨v34, hI⟩ := hI
    obtain ⟨v35, hI⟩ := hI
    obtain ⟨v36, hI⟩ := hI
    obtain ⟨v37, hI⟩ := hI
    obtain ⟨v38, hI⟩ := hI
    obtain ⟨v39, hI⟩ := hI
    obtain ⟨v40, hI⟩ := hI
    obtain ⟨v41, hI⟩ := hI
    obtain ⟨v42, hI⟩ := hI
    obtain ⟨v43, hI⟩ := hI
    obtain ⟨v44, hI⟩ := hI
    obtain ⟨v45, hI⟩ := hI
    obtain ⟨v46, hI⟩ := hI
    obtain ⟨v47, hI⟩ := hI
    obtain ⟨v48, hI⟩ := hI
    obtain ⟨v49, hI⟩ := hI
    obtain ⟨v50, hI⟩ := hI
    obtain ⟨v51, hI⟩ := hI
    obtain ⟨v52, hI⟩ := hI
    obtain ⟨v53, hI⟩ := hI
    obtain ⟨v54, hI⟩ := hI
    obtain ⟨v55, hI⟩ := hI
    obtain ⟨v56, hI⟩ := hI
    obtain ⟨v57, hI⟩ := hI
    obtain ⟨v58, hI⟩ := hI
    obtain ⟨v59, hI⟩ := hI
    obtain ⟨v60, hI⟩ := hI
    obtain ⟨ha, F⟩ := hI
    subst ha
    have hi := lt61 i hlt'
    clear hlt'
    obtain ⟨y0, y2, y3⟩ := HCO6.out wr F.kept
    rcases hi with rfl | rfl | rfl | rfl | rfl | rfl | rfl | rfl | rfl | rfl | rfl | rfl | rfl | rfl | rfl | rfl | rfl | rfl | rfl | rfl | rfl | rfl | rfl | rfl | rfl | rfl | rfl | rfl | rfl | rfl | rfl | rfl | rfl | rfl | rfl | rfl | rfl | rfl | rfl | rfl | rfl | rfl | rfl | rfl | rfl | rfl | rfl | rfl | rfl | rfl | rfl | rfl | rfl | rfl | rfl | rfl | rfl | rfl | rfl | rfl | rfl
    · refine wpOp_open rfl (fun K hK => ?_)
      go_simp
      exact hK.out _ _ ⟨_, _, _, _, _, _, _, _, _, _, _, _, _, _, _, _, _, _, _, _, _, _, _, _, _, _, _, _, _, _, _, _, _, _, _, _, _, _, _, _, _, _, _, _, _, _, _, _, _, _, _, _, _, _, _, _, _, _, _, _, _, rfl, F.step HST.out 0 HS.out (Kept.refl _ _) _ rfl _ rfl⟩
    · have d0 : l.getD 0 false = true := by simp [Region.binds] at hd; simp [hd]
      obtain rfl := F.at_ 0 _ _ rfl rfl d0
      refine wpOp_open rfl (fun K hK => ?_)
      go_simp
      exact hK.out _ _ ⟨_, _, _, _, _, _, _, _, _, _, _, _, _, _, _, _, _, _, _, _, _, _, _, _, _, _, _, _, _, _, _, _, _, _, _, _, _, _, _, _, _, _, _, _, _, _, _, _, _, _, _, _, _, _, _, _, _, _, _, _, _, rfl, F.step HST.out 1 HS.out (Kept.refl _ _) _ rfl _ rfl⟩
    · have d1 : l.getD 1 false = true := by simp [Region.binds] at hd; simp [hd]
      obtain rfl := F.at_ 1 _ _ rfl rfl d1
      refine wpOp_open rfl (fun K hK => ?_)
      go_simp
      refine (HOF.out wr).mono ?_
      rintro e w4 ⟨rfl, hk4⟩
      exact hK.out _ _ ⟨_, _, _, _, _, _, _, _, _, _, _, _, _, _, _, _, _, _, _, _, _, _, _, _, _, _, _, _, _, _, _, _, _, _, _, _, _, _, _, _, _, _, _, _, _, _, _, _, _, _, _, _, _, _, _, _, _, _, _, _, _, rfl, F.step HST.out 2 HS.out (hk4) _ rfl _ rfl⟩
    · refine wpOp_open rfl (fun K hK => ?_)
      go_simp
      exact hK.out _ _ ⟨_, _, _, _, _, _, _, _, _, _, _, _, _, _, _, _, _, _, _, _, _, _, _, _, _, _, _, _, _, _, _, _, _, _, _, _, _, _, _, _, _, _, _, _, _, _, _, _, _, _, _, _, _, _, _, _, _, _, _, _, _, rfl, F.step HST.out 3 HS.out (Kept.refl _ _) _ rfl _ rfl⟩
    · have d3 : l.getD 3 false = true := by simp [Region.binds] at hd; simp [hd]
      obtain rfl := F.at_ 3 _ _ rfl rfl d3
      refine wpOp_open rfl (fun K hK => ?_)
      go_simp
      exact hK.out _ _ ⟨_, _, _, _, _, _, _, _, _, _, _, _, _, _, _, _, _, _, _, _, _, _, _, _, _, _, _, _, _, _, _, _, _, _, _, _, _, _, _, _, _, _, _, _, _, _, _, _, _, _, _, _, _, _, _, _, _, _, _, _, _, rfl, F.step HST.out 4 HS.out (Kept.refl _ _) _ rfl _ rfl⟩
    · have d2 : l.getD 2 false = true := by simp [Region.binds] at hd; simp [hd]
      have d4 : l.getD 4 false = true := by simp [Region.binds] at hd; simp [hd]
      obtain rfl := F.at_ 2 _ _ rfl rfl d2
      obtain rfl := F.at_ 4 _ _ rfl rfl d4
      have ha : (r0 != kd) = !q0 := congrArg (! ·) HQ0.out
      refine wpOp_open rfl (fun K hK => ?_)
      go_simp
      exact hK.out _ _ ⟨_, _, _, _, _, _, _, _, _, _, _, _, _, _, _, _, _, _, _, _, _, _, _, _, _, _, _, _, _, _, _, _, _, _, _, _, _, _, _, _, _, _, _, _, _, _, _, _, _, _, _, _, _, _, _, _, _, _, _, _, _, rfl, F.step HST.out 5 HS.out (Kept.refl _ _) _ rfl _ rfl⟩
    · have d5 : l.getD 5 false = true := by simp [Region.binds] at hd; simp [hd]
      obtain rfl := F.at_ 5 _ _ rfl rfl d5
      refine wpOp_open rfl (fun K hK => ?_)
      go_simp
      exact hK.out _ _ ⟨_, _, _, _, _, _, _, _, _, _, _, _, _, _, _, _, _, _, _, _, _, _, _, _, _, _, _, _, _, _, _, _, _, _, _, _, _, _, _, _, _, _, _, _, _, _, _, _, _, _, _, _, _, _, _, _, _, _, _, _, _, rfl, F.step HST.out 6 HS.out (Kept.refl _ _) _ rfl _ rfl⟩
    · have d6 : l.getD 6 false = true := by simp [Region.binds] at hd; simp [hd]
      rcases bool_cases q0 with c0 | c0 <;>
        (have z6 := F.at_ 6 _ _ rfl rfl d6
         simp only [PEq, c0, cond_true, cond_false] at z6
         subst z6
         refine wpOp_open rfl (fun K hK => ?_)
         go_simp
         exact hK.out _ _ ⟨_, _, _, _, _, _, _, _, _, _, _, _, _, _, _, _, _, _, _, _, _, _, _, _, _, _, _, _, _, _, _, _, _, _, _, _, _, _, _, _, _, _, _, _, _, _, _, _, _, _, _, _, _, _, _, _, _, _, _, _, _, rfl, F.step HST.out 7 HS.out (Kept.refl _ _) _ rfl _ (by simp only [PEq, c0, cond_true, cond_false])⟩)
    · have d6 : l.getD 6 false = true := by simp [Region.binds] at hd; simp [hd]
      have d7 : l.getD 7 false = true := by simp [Region.binds] at hd; simp [hd]
      rcases bool_cases q0 with c0 | c0 <;>
        (have z6 := F.at_ 6 _ _ rfl rfl d6
         simp only [PEq, c0, cond_true, cond_false] at z6
         subst z6
         have z7 := F.at_ 7 _ _ rfl rfl d7
         simp only [PEq, c0, cond_true, cond_false] at z7
         subst z7
         refine wpOp_open rfl (fun K hK => ?_)
         go_simp
         exact hK.out _ _ ⟨_, _, _, _, _, _, _, _, _, _, _, _, _, _, _, _, _, _, _, _, _, _, _, _, _, _, _, _, _, _, _, _, _, _, _, _, _, _, _, _, _, _, _, _, _, _, _, _, _, _, _, _, _, _, _, _, _, _, _, _, _, rfl, F.step HST.out 8 HS.out (Kept.refl _ _) _ rfl _ (by simp only [PEq, c0, cond_true, cond_false])⟩)
    · have d6 : l.getD 6 false = true := by simp [Region.binds] at hd; simp [hd]
      have d8 : l.getD 8 false = true := by simp [Region.binds] at hd; simp [hd]
      rcases bool_cases q0 with c0 | c0 <;>
        (have z6 := F.at_ 6 _ _ rfl rfl d6
         simp only [PEq, c0, cond_true, cond_false] at z6
         subst z6
         have z8 := F.at_ 8 _ _ rfl rfl d8
         simp only [PEq, c0, cond_true, cond_false] at z8
         subst z8
         refine wpOp_open rfl (fun K hK => ?_)
         go_simp
         exact hK.out _ _ ⟨_, _, _, _, _, _, _, _, _, _, _, _, _, _, _, _, _, _, _, _, _, _, _, _, _, _, _, _, _, _, _, _, _, _, _, _, _, _, _, _, _, _, _, _, _, _, _, _, _, _, _, _, _, _, _, _, _, _, _, _, _, rfl, F.step HST.out 9 HS.out (Kept.refl _ _) _ rfl _ (by simp only [PEq, c0, cond_true, cond_false])⟩)
    · have d6 : l.getD 6 false = true := by simp [Region.binds] at hd; simp [hd]
      have d9 : l.getD 9 false = true := by simp [Region.binds] at hd; simp [hd]
      rcases bool_cases q0 with c0 | c0 <;>
        (have z6 := F.at_ 6 _ _ rfl rfl d6
         simp only [PEq, c0, cond_true, cond_false] at z6
         subst z6
         have z9 := F.at_ 9 _ _ rfl rfl d9
         simp only [PEq, c0, cond_true, cond_false] at z9
         subst z9
         refine wpOp_open rfl (fun K hK => ?_)
         go_simp
         exact hK.out _ _ ⟨_, _, _, _, _, _, _, _, _, _, _, _, _, _, _, _, _, _, _, _, _, _, _, _, _, _, _, _, _, _, _, _, _, _, _, _, _, _, _, _, _, _, _, _, _, _, _, _, _, _, _, _, _, _, _, _, _, _, _, _, _, rfl, F.step HST.out 10 HS.out (Kept.refl _ _) _ rfl _ (by simp only [PEq, c0, cond_true, cond_false, HB1.out, Bool.true_or, Bool.false_or, Bool.true_and, Bool.false_and, Bool.not_true, Bool.not_false])⟩)
    · have d10 : l.getD 10 false = true := by simp [Region.binds] at hd; simp [hd]
      obtain rfl := F.at_ 10 _ _ rfl rfl d10
      refine wpOp_open rfl (fun K hK => ?_)
      go_simp
      exact hK.out _ _ ⟨_, _, _, _, _, _, _, _, _, _, _, _, _, _, _, _, _, _, _, _, _, _, _, _, _, _, _, _, _, _, _, _, _, _, _, _, _, _, _, _, _, _, _, _, _, _, _, _, _, _, _, _, _, _, _, _, _, _, _, _, _, rfl, F.step HST.out 11 HS.out (Kept.refl _ _) _ rfl _ rfl⟩
    · have d11 : l.getD 11 false = true := by simp [Region.binds] at hd; simp [hd]
      rcases bool_cases b1 with c0 | c0 <;>
        (have z11 := F.at_ 11 _ _ rfl rfl d11
         simp only [PEq, c0, cond_true, cond_false] at z11
         subst z11
         refine wpOp_open rfl (fun K hK => ?_)
         go_simp
         exact hK.out _ _ ⟨_, _, _, _, _, _, _, _, _, _, _, _, _, _, _, _, _, _, _, _, _, _, _, _, _, _, _, _, _, _, _, _, _, _, _, _, _, _, _, _, _, _, _, _, _, _, _, _, _, _, _, _, _, _, _, _, _, _, _, _, _, rfl, F.step HST.out 12 HS.out (Kept.refl _ _) _ rfl _ (by simp only [PEq, c0, cond_true, cond_false])⟩)
    · have d11 : l.getD 11 false = true := by simp [Region.binds] at hd; simp [hd]
      have d12 : l.getD 12 false = true := by simp [Region.binds] at hd; simp [hd]
      rcases bool_cases b1 with c0 | c0 <;>
        (have z11 := F.at_ 11 _ _ rfl rfl d11
         simp only [PEq, c0, cond_true, cond_false] at z11
         subst z11
         have z12 := F.at_ 12 _ _ rfl rfl d12
         simp only [PEq, c0, cond_true, cond_false] at z12
         subst z12
         refine wpOp_open rfl (fun K hK => ?_)
         go_simp
         exact hK.out _ _ ⟨_, _, _, _, _, _, _, _, _, _, _, _, _, _, _, _, _, _, _, _, _, _, _, _, _, _, _, _, _, _, _, _, _, _, _, _, _, _, _, _, _, _, _, _, _, _, _, _, _, _, _, _, _, _, _, _, _, _, _, _, _, rfl, F.step HST.out 13 HS.out (Kept.refl _ _) _ rfl _ (by simp only [PEq, c0, cond_true, cond_false])⟩)
    · have d11 : l.getD 11 false = true := by simp [Region.binds] at hd; simp [hd]
      have d13 : l.getD 13 false = true := by simp [Region.binds] at hd; simp [hd]
      rcases bool_cases b1 with c0 | c0 <;>
        (have z11 := F.at_ 11 _ _ rfl rfl d11
         simp only [PEq, c0, cond_true, cond_false] at z11
         subst z11
         have z13 := F.at_ 13 _ _ rfl rfl d13
         simp only [PEq, c0, cond_true, cond_false] at z13
         subst z13
         refine wpOp_open rfl (fun K hK => ?_)
         go_simp
         exact hK.out _ _ ⟨_, _, _, _, _, _, _, _, _, _, _, _, _, _, _, _, _, _, _, _, _, _, _, _, _, _, _, _, _, _, _, _, _, _, _, _, _, _, _, _, _, _, _, _, _, _, _, _, _, _, _, _, _, _, _, _, _, _, _, _, _, rfl, F.step HST.out 14 HS.out (Kept.refl _ _) _ rfl _ (by simp only [PEq, c0, cond_true, cond_false])⟩)
    · have d11 : l.getD 11 false = true := by simp [Region.binds] at hd; simp [hd]
      have d14 : l.getD 14 false = true := by simp [Region.binds] at hd; simp [hd]
      rcases bool_cases b1 with c0 | c0 <;>
        (have z11 := F.at_ 11 _ _ rfl rfl d11
         simp only [PEq, c0, cond_true, cond_false] at z11
         subst z11
         have z14 := F.at_ 14 _ _ rfl rfl d14
         simp only [PEq, c0, cond_true, cond_false] at z14
         subst z14
         refine wpOp_open rfl (fun K hK => ?_)
         go_simp
         exact hK.out _ _ ⟨_, _, _, _, _, _, _, _, _, _, _, _, _, _, _, _, _, _, _, _, _, _, _, _, _, _, _, _, _, _, _, _, _, _, _, _, _, _, _, _, _, _, _, _, _, _, _, _, _, _, _, _, _, _, _, _, _, _, _, _, _, rfl, F.step HST.out 15 HS.out (Kept.refl _ _) _ rfl _ (by simp only [PEq, c0, cond_true, cond_false, HB2.out, Bool.true_or, Bool.false_or, Bool.true_and, Bool.false_and, Bool.not_true, Bool.not_false])⟩)
    · have d15 : l.getD 15 false = true := by simp [Region.binds] at hd; simp [hd]
      obtain rfl := F.at_ 15 _ _ rfl rfl d15
      refine wpOp_open rfl (fun K hK => ?_)
      go_simp
      exact hK.out _ _ ⟨_, _, _, _, _, _, _, _, _, _, _, _, _, _, _, _, _, _, _, _, _, _, _, _, _, _, _, _, _, _, _, _, _, _, _, _, _, _, _, _, _, _, _, _, _, _, _, _, _, _, _, _, _, _, _, _, _, _, _, _, _, rfl, F.step HST.out 16 HS.out (Kept.refl _ _) _ rfl _ rfl⟩
    · have d16 : l.getD 16 false = true := by simp [Region.binds] at hd; simp [hd]
      rcases bool_cases b2 with c0 | c0 <;>
        (have z16 := F.at_ 16 _ _ rfl rfl d16
         simp only [PEq, c0, cond_true, cond_false] at z16
         subst z16
         refine wpOp_open rfl (fun K hK => ?_)
         go_simp
         exact hK.out _ _ ⟨_, _, _, _, _, _, _, _, _, _, _, _, _, _, _, _, _, _, _, _, _, _, _, _, _, _, _, _, _, _, _, _, _, _, _, _, _, _, _, _, _, _, _, _, _, _, _, _, _, _, _, _, _, _, _, _, _, _, _, _, _, rfl, F.step HST.out 17 HS.out (Kept.refl _ _) _ rfl _ (by simp only [PEq, c0, cond_true, cond_false])⟩)
    · have d16 : l.getD 16 false = true := by simp [Region.binds] at hd; simp [hd]
      have d17 : l.getD 17 false = true := by simp [Region.binds] at hd; simp [hd]
      rcases bool_cases b2 with c0 | c0 <;>
        (have z16 := F.at_ 16 _ _ rfl rfl d16
         simp only [PEq, c0, cond_true, cond_false] at z16
         subst z16
         have z17 := F.at_ 17 _ _ rfl rfl d17
         simp only [PEq, c0, cond_true, cond_false] at z17
         subst z17
         refine wpOp_open rfl (fun K hK => ?_)
         go_simp
         exact hK.out _ _ ⟨_, _, _, _, _, _, _, _, _, _, _, _, _, _, _, _, _, _, _, _, _, _, _, _, _, _, _, _, _, _, _, _, _, _, _, _, _, _, _, _, _, _, _, _, _, _, _, _, _, _, _, _, _, _, _, _, _, _, _, _, _, rfl, F.step HST.out 18 HS.out (Kept.refl _ _) _ rfl _ (by simp only [PEq, c0, cond_true, cond_false])⟩)
    · have d16 : l.getD 16 false = true := by simp [Region.binds] at hd; simp [hd]
      have d18 : l.getD 18 false = true := by simp [Region.binds] at hd; simp [hd]
      rcases bool_cases b2 with c0 | c0 <;>
        (have z16 := F.at_ 16 _ _ rfl rfl d16
         simp only [PEq, c0, cond_true, cond_false] at z16
         subst z16
         have z18 := F.at_ 18 _ _ rfl rfl d18
         simp only [PEq, c0, cond_true, cond_false] at z18
         subst z18
         have ha := HE4.out
         refine wpOp_open rfl (fun K hK => ?_)
         go_simp
         exact hK.out _ _ ⟨_, _, _, _, _, _, _, _, _, _, _, _, _, _, _, _, _, _, _, _, _, _, _, _, _, _, _, _, _, _, _, _, _, _, _, _, _, _, _, _, _, _, _, _, _, _, _, _, _, _, _, _, _, _, _, _, _, _, _, _, _, rfl, F.step HST.out 19 HS.out (Kept.refl _ _) _ rfl _ (by simp only [PEq, c0, cond_true, cond_false])⟩)
    · have d16 : l.getD 16 false = true := by simp [Region.binds] at hd; simp [hd]
      have d19 : l.getD 19 false = true := by simp [Region.binds] at hd; simp [hd]
      rcases bool_cases b2 with c0 | c0 <;>
        (have z16 := F.at_ 16 _ _ rfl rfl d16
         simp only [PEq, c0, cond_true, cond_false] at z16
         subst z16
         have z19 := F.at_ 19 _ _ rfl rfl d19
         simp only [PEq, c0, cond_true, cond_false] at z19
         subst z19
         refine wpOp_open rfl (fun K hK => ?_)
         go_simp
         exact hK.out _ _ ⟨_, _, _, _, _, _, _, _, _, _, _, _, _, _, _, _, _, _, _, _, _, _, _, _, _, _, _, _, _, _, _, _, _, _, _, _, _, _, _, _, _, _, _, _, _, _, _, _, _, _, _, _, _, _, _, _, _, _, _, _, _, rfl, F.step HST.out 20 HS.out (Kept.refl _ _) _ rfl _ (by simp only [PEq, c0, cond_true, cond_false])⟩)
    · have d20 : l.getD 20 false = true := by simp [Region.binds] at hd; simp [hd]
      rcases bool_cases b2 with c0 | c0 <;>
      rcases bool_cases e4 with c1 | c1 <;>
        (have z20 := F.at_ 20 _ _ rfl rfl d20
         simp only [PEq, c0, c1, cond_true, cond_false] at z20
         subst z20
         refine wpOp_open rfl (fun K hK => ?_)
         go_simp
         exact hK.out _ _ ⟨_, _, _, _, _, _, _, _, _, _, _, _, _, _, _, _, _, _, _, _, _, _, _, _, _, _, _, _, _, _, _, _, _, _, _, _, _, _, _, _, _, _, _, _, _, _, _, _, _, _, _, _, _, _, _, _, _, _, _, _, _, rfl, F.step HST.out 21 HS.out (Kept.refl _ _) _ rfl _ (by simp only [PEq, c0, c1, cond_true, cond_false])⟩)
    · have d20 : l.getD 20 false = true := by simp [Region.binds] at hd; simp [hd]
      have d21 : l.getD 21 false = true := by simp [Region.binds] at hd; simp [hd]
      rcases bool_cases b2 with c0 | c0 <;>
      rcases bool_cases e4 with c1 | c1 <;>
        (have z20 := F.at_ 20 _ _ rfl rfl d20
         simp only [PEq, c0, c1, cond_true, cond_false] at z20
         subst z20
         have z21 := F.at_ 21 _ _ rfl rfl d21
         simp only [PEq, c0, c1, cond_true, cond_false] at z21
         subst z21
         refine wpOp_open rfl (fun K hK => ?_)
         go_simp
         exact hK.out _ _ ⟨_, _, _, _, _, _, _, _, _, _, _, _, _, _, _, _, _, _, _, _, _, _, _, _, _, _, _, _, _, _, _, _, _, _, _, _, _, _, _, _, _, _, _, _, _, _, _, _, _, _, _, _, _, _, _, _, _, _, _, _, _, rfl, F.step HST.out 22 HS.out (Kept.refl _ _) _ rfl _ (by simp only [PEq, c0, c1, cond_true, cond_false])⟩)
    · have d20 : l.getD 20 false = true := by simp [Region.binds] at hd; simp [hd]
      have d22 : l.getD 22 false = true := by simp [Region.binds] at hd; simp [hd]
      rcases bool_cases b2 with c0 | c0 <;>
      rcases bool_cases e4 with c1 | c1 <;>
        (have z20 := F.at_ 20 _ _ rfl rfl d20
         simp only [PEq, c0, c1, cond_true, cond_false] at z20
         subst z20
         have z22 := F.at_ 22 _ _ rfl rfl d22
         simp only [PEq, c0, c1, cond_true, cond_false] at z22
         subst z22
         have ha := HE5.out
         refine wpOp_open rfl (fun K hK => ?_)
         go_simp
         exact hK.out _ _ ⟨_, _, _, _, _, _, _, _, _, _, _, _, _, _, _, _, _, _, _, _, _, _, _, _, _, _, _, _, _, _, _, _, _, _, _, _, _, _, _, _, _, _, _, _, _, _, _, _, _, _, _, _, _, _, _, _, _, _, _, _, _, rfl, F.step HST.out 23 HS.out (Kept.refl _ _) _ rfl _ (by simp only [PEq, c0, c1, cond_true, cond_false])⟩)
    · have d16 : l.getD 16 false = true := by simp [Region.binds] at hd; simp [hd]
      have d20 : l.getD 20 false = true := by simp [Region.binds] at hd; simp [hd]
      have d23 : l.getD 23 false = true := by simp [Region.binds] at hd; simp [hd]
      rcases bool_cases b2 with c0 | c0 <;>
      rcases bool_cases e4 with c1 | c1 <;>
        (have z16 := F.at_ 16 _ _ rfl rfl d16
         simp only [PEq, c0, c1, cond_true, cond_false] at z16
         subst z16
         have z20 := F.at_ 20 _ _ rfl rfl d20
         simp only [PEq, c0, c1, cond_true, cond_false] at z20
         subst z20
         have z23 := F.at_ 23 _ _ rfl rfl d23
         simp only [PEq, c0, c1, cond_true, cond_false] at z23
         subst z23
         refine wpOp_open rfl (fun K hK => ?_)
         go_simp
         exact hK.out _ _ ⟨_, _, _, _, _, _, _, _, _, _, _, _, _, _, _, _, _, _, _, _, _, _, _, _, _, _, _, _, _, _, _, _, _, _, _, _, _, _, _, _, _, _, _, _, _, _, _, _, _, _, _, _, _, _, _, _, _, _, _, _, _, rfl, F.step HST.out 24 HS.out (Kept.refl _ _) _ rfl _ (by simp only [PEq, c0, c1, cond_true, cond_false, HB3.out, Bool.true_or, Bool.false_or, Bool.true_and, Bool.false_and, Bool.not_true, Bool.not_false])⟩)
    · have d16 : l.getD 16 false = true := by simp [Region.binds] at hd; simp [hd]
      have d24 : l.getD 24 false = true := by simp [Region.binds] at hd; simp [hd]
      rcases bool_cases b2 with c0 | c0 <;>
        (have z16 := F.at_ 16 _ _ rfl rfl d16
         simp only [PEq, c0, cond_true, cond_false] at z16
         subst z16
         have z24 := F.at_ 24 _ _ rfl rfl d24
         simp only [PEq, c0, cond_true, cond_false] at z24
         subst z24
         refine wpOp_open rfl (fun K hK => ?_)
         go_simp
         exact hK.out _ _ ⟨_, _, _, _, _, _, _, _, _, _, _, _, _, _, _, _, _, _, _, _, _, _, _, _, _, _, _, _, _, _, _, _, _, _, _, _, _, _, _, _, _, _, _, _, _, _, _, _, _, _, _, _, _, _, _, _, _, _, _, _, _, rfl, F.step HST.out 25 HS.out (Kept.refl _ _) _ rfl _ (by simp only [PEq, c0, cond_true, cond_false])⟩)
    · have d25 : l.getD 25 false = true := by simp [Region.binds] at hd; simp [hd]
      rcases bool_cases b2 with c0 | c0 <;>
      rcases bool_cases b3 with c1 | c1 <;>
        (have z25 := F.at_ 25 _ _ rfl rfl d25
         simp only [PEq, c0, c1, cond_true, cond_false] at z25
         subst z25
         refine wpOp_open rfl (fun K hK => ?_)
         go_simp
         exact hK.out _ _ ⟨_, _, _, _, _, _, _, _, _, _, _, _, _, _, _, _, _, _, _, _, _, _, _, _, _, _, _, _, _, _, _, _, _, _, _, _, _, _, _, _, _, _, _, _, _, _, _, _, _, _, _, _, _, _, _, _, _, _, _, _, _, rfl, F.step HST.out 26 HS.out (Kept.refl _ _) _ rfl _ (by simp only [PEq, c0, c1, cond_true, cond_false])⟩)
    · have d25 : l.getD 25 false = true := by simp [Region.binds] at hd; simp [hd]
      have d26 : l.getD 26 false = true := by simp [Region.binds] at hd; simp [hd]
      rcases bool_cases b2 with c0 | c0 <;>
      rcases bool_cases b3 with c1 | c1 <;>
        (have z25 := F.at_ 25 _ _ rfl rfl d25
         simp only [PEq, c0, c1, cond_true, cond_false] at z25
         subst z25
         have z26 := F.at_ 26 _ _ rfl rfl d26
         simp only [PEq, c0, c1, cond_true, cond_false] at z26
         subst z26
         refine wpOp_open rfl (fun K hK => ?_)
         go_simp
         exact hK.out _ _ ⟨_, _, _, _, _, _, _, _, _, _, _, _, _, _, _, _, _, _, _, _, _, _, _, _, _, _, _, _, _, _, _, _, _, _, _, _, _, _, _, _, _, _, _, _, _, _, _, _, _, _, _, _, _, _, _, _, _, _, _, _, _, rfl, F.step HST.out 27 HS.out (Kept.refl _ _) _ rfl _ (by simp only [PEq, c0, c1, cond_true, cond_false])⟩)
    · have d25 : l.getD 25 false = true := by simp [Region.binds] at hd; simp [hd]
      have d27 : l.getD 27 false = true := by simp [Region.binds] at hd; simp [hd]
      rcases bool_cases b2 with c0 | c0 <;>
      rcases bool_cases b3 with c1 | c1 <;>
        (have z25 := F.at_ 25 _ _ rfl rfl d25
         simp only [PEq, c0, c1, cond_true, cond_false] at z25
         subst z25
         have z27 := F.at_ 27 _ _ rfl rfl d27
         simp only [PEq, c0, c1, cond_true, cond_false] at z27
         subst z27
         have ha := HE6.out
         refine wpOp_open rfl (fun K hK => ?_)
         go_simp
         exact hK.out _ _ ⟨_, _, _, _, _, _, _, _, _, _, _, _, _, _, _, _, _, _, _, _, _, _, _, _, _, _, _, _, _, _, _, _, _, _, _, _, _, _, _, _, _, _, _, _, _, _, _, _, _, _, _, _, _, _, _, _, _, _, _, _, _, rfl, F.step HST.out 28 HS.out (Kept.refl _ _) _ rfl _ (by simp only [PEq, c0, c1, cond_true, cond_false])⟩)
    · have d16 : l.getD 16 false = true := by simp [Region.binds] at hd; simp [hd]
      have d25 : l.getD 25 false = true := by simp [Region.binds] at hd; simp [hd]
      have d28 : l.getD 28 false = true := by simp [Region.binds] at hd; simp [hd]
      rcases bool_cases b2 with c0 | c0 <;>
      rcases bool_cases b3 with c1 | c1 <;>
        (have z16 := F.at_ 16 _ _ rfl rfl d16
         simp only [PEq, c0, c1, cond_true, cond_false] at z16
         subst z16
         have z25 := F.at_ 25 _ _ rfl rfl d25
         simp only [PEq, c0, c1, cond_true, cond_false] at z25
         subst z25
         have z28 := F.at_ 28 _ _ rfl rfl d28
         simp only [PEq, c0, c1, cond_true, cond_false] at z28
         subst z28
         refine wpOp_open rfl (fun K hK => ?_)
         go_simp
         exact hK.out _ _ ⟨_, _, _, _, _, _, _, _, _, _, _, _, _, _, _, _, _, _, _, _, _, _, _, _, _, _, _, _, _, _, _, _, _, _, _, _, _, _, _, _, _, _, _, _, _, _, _, _, _, _, _, _, _, _, _, _, _, _, _, _, _, rfl, F.step HST.out 29 HS.out (Kept.refl _ _) _ rfl _ (by simp only [PEq, c0, c1, cond_true, cond_false, HB4.out, Bool.true_or, Bool.false_or, Bool.true_and, Bool.false_and, Bool.not_true, Bool.not_false])⟩)
    · have d16 : l.getD 16 false = true := by simp [Region.binds] at hd; simp [hd]
      have d29 : l.getD 29 false = true := by simp [Region.binds] at hd; simp [hd]
      rcases bool_cases b2 with c0 | c0 <;>
        (have z16 := F.at_ 16 _ _ rfl rfl d16
         simp only [PEq, c0, cond_true, cond_false] at z16
         subst z16
         have z29 := F.at_ 29 _ _ rfl rfl d29
         simp only [PEq, c0, cond_true, cond_false] at z29
         subst z29
         refine wpOp_open rfl (fun K hK => ?_)
         go_simp
         exact hK.out _ _ ⟨_, _, _, _, _, _, _, _, _, _, _, _, _, _, _, _, _, _, _, _, _, _, _, _, _, _, _, _, _, _, _, _, _, _, _, _, _, _, _, _, _, _, _, _, _, _, _, _, _, _, _, _, _, _, _, _, _, _, _, _, _, rfl, F.step HST.out 30 HS.out (Kept.refl _ _) _ rfl _ (by simp only [PEq, c0, cond_true, cond_false])⟩)
    · have d30 : l.getD 30 false = true := by simp [Region.binds] at hd; simp [hd]
      rcases bool_cases b2 with c0 | c0 <;>
      rcases bool_cases b4 with c1 | c1 <;>
        (have z30 := F.at_ 30 _ _ rfl rfl d30
         simp only [PEq, c0, c1, cond_true, cond_false] at z30
         subst z30
         refine wpOp_open rfl (fun K hK => ?_)
         go_simp
         exact hK.out _ _ ⟨_, _, _, _, _, _, _, _, _, _, _, _, _, _, _, _, _, _, _, _, _, _, _, _, _, _, _, _, _, _, _, _, _, _, _, _, _, _, _, _, _, _, _, _, _, _, _, _, _, _, _, _, _, _, _, _, _, _, _, _, _, rfl, F.step HST.out 31 HS.out (Kept.refl _ _) _ rfl _ (by simp only [PEq, c0, c1, cond_true, cond_false])⟩)
    · have d30 : l.getD 30 false = true := by simp [Region.binds] at hd; simp [hd]
      have d31 : l.getD 31 false = true := by simp [Region.binds] at hd; simp [hd]
      rcases bool_cases b2 with c0 | c0 <;>
      rcases bool_cases b4 with c1 | c1 <;>
        (have z30 := F.at_ 30 _ _ rfl rfl d30
         simp only [PEq, c0, c1, cond_true, cond_false] at z30
         subst z30
         have z31 := F.at_ 31 _ _ rfl rfl d31
         simp only [PEq, c0, c1, cond_true, cond_false] at z31
         subst z31
         refine wpOp_open rfl (fun K hK => ?_)
         go_simp
         exact hK.out _ _ ⟨_, _, _, _, _, _, _, _, _, _, _, _, _, _, _, _, _, _, _, _, _, _, _, _, _, _, _, _, _, _, _, _, _, _, _, _, _, _, _, _, _, _, _, _, _, _, _, _, _, _, _, _, _, _, _, _, _, _, _, _, _, rfl, F.step HST.out 32 HS.out (Kept.refl _ _) _ rfl _ (by simp only [PEq, c0, c1, cond_true, cond_false])⟩)
    · have d30 : l.getD 30 false = true := by simp [Region.binds] at hd; simp [hd]
      have d32 : l.getD 32 false = true := by simp [Region.binds] at hd; simp [hd]
      rcases bool_cases b2 with c0 | c0 <;>
      rcases bool_cases b4 with c1 | c1 <;>
        (have z30 := F.at_ 30 _ _ rfl rfl d30
         simp only [PEq, c0, c1, cond_true, cond_false] at z30
         subst z30
         have z32 := F.at_ 32 _ _ rfl rfl d32
         simp only [PEq, c0, c1, cond_true, cond_false] at z32
         subst z32
         have ha := HZ0.out
         refine wpOp_open rfl (fun K hK => ?_)
         go_simp
         exact hK.out _ _ ⟨_, _, _, _, _, _, _, _, _, _, _, _, _, _, _, _, _, _, _, _, _, _, _, _, _, _, _, _, _, _, _, _, _, _, _, _, _, _, _, _, _, _, _, _, _, _, _, _, _, _, _, _, _, _, _, _, _, _, _, _, _, rfl, F.step HST.out 33 HS.out (Kept.refl _ _) _ rfl _ (by simp only [PEq, c0, c1, cond_true, cond_false])⟩)
    · have d16 : l.getD 16 false = true := by simp [Region.binds] at hd; simp [hd]
      have d30 : l.getD 30 false = true := by simp [Region.binds] at hd; simp [hd]
      have d33 : l.getD 33 false = true := by simp [Region.binds] at hd; simp [hd]
      rcases bool_cases b2 with c0 | c0 <;>
      rcases bool_cases b4 with c1 | c1 <;>
        (have z16 := F.at_ 16 _ _ rfl rfl d16
         simp only [PEq, c0, c1, cond_true, cond_false] at z16
         subst z16
         have z30 := F.at_ 30 _ _ rfl rfl d30
         simp only [PEq, c0, c1, cond_true, cond_false] at z30
         subst z30
         have z33 := F.at_ 33 _ _ rfl rfl d33
         simp only [PEq, c0, c1, cond_true, cond_false] at z33
         subst z33
         refine wpOp_open rfl (fun K hK => ?_)
         go_simp
         exact hK.out _ _ ⟨_, _, _, _, _, _, _, _, _, _, _, _, _, _, _, _, _, _, _, _, _, _, _, _, _, _, _, _, _, _, _, _, _, _, _, _, _, _, _, _, _, _, _, _, _, _, _, _, _, _, _, _, _, _, _, _, _, _, _, _, _, rfl, F.step HST.out 34 HS.out (Kept.refl _ _) _ rfl _ (by simp only [PEq, c0, c1, cond_true, cond_false, HB5.out, Bool.true_or, Bool.false_or, Bool.true_and, Bool.false_and, Bool.not_true, Bool.not_false])⟩)
    · have d16 : l.getD 16 false = true := by simp [Region.binds] at hd; simp [hd]
      have d34 : l.getD 34 false = true := by simp [Region.binds] at hd; simp [hd]
      rcases bool_cases b2 with c0 | c0 <;>
        (have z16 := F.at_ 16 _ _ rfl rfl d16
         simp only [PEq, c0, cond_true, cond_false] at z16
         subst z16
         have z34 := F.at_ 34 _ _ rfl rfl d34
         simp only [PEq, c0, cond_true, cond_false] at z34
         subst z34
         refine wpOp_open rfl (fun K hK => ?_)
         go_simp
         exact hK.out _ _ ⟨_, _, _, _, _, _, _, _, _, _, _, _, _, _, _, _, _, _, _, _, _, _, _, _, _, _, _, _, _, _, _, _, _, _, _, _, _, _, _, _, _, _, _, _, _, _, _, _, _, _, _, _, _, _, _, _, _, _, _, _, _, rfl, F.step HST.out 35 HS.out (Kept.refl _ _) _ rfl _ (by simp only [PEq, c0, cond_true, cond_false, HB6.out, Bool.true_or, Bool.false_or, Bool.true_and, Bool.false_and, Bool.not_true, Bool.not_false])⟩)
    · have d35 : l.getD 35 false = true := by simp [Region.binds] at hd; simp [hd]
      obtain rfl := F.at_ 35 _ _ rfl rfl d35
      refine wpOp_open rfl (fun K hK => ?_)
      go_simp
      exact hK.out _ _ ⟨_, _, _, _, _, _, _, _, _, _, _, _, _, _, _, _, _, _, _, _, _, _, _, _, _, _, _, _, _, _, _, _, _, _, _, _, _, _, _, _, _, _, _, _, _, _, _, _, _, _, _, _, _, _, _, _, _, _, _, _, _, rfl, F.step HST.out 36 HS.out (Kept.refl _ _) _ rfl _ rfl⟩
    · have d36 : l.getD 36 false = true := by simp [Region.binds] at hd; simp [hd]
      rcases bool_cases b6 with c0 | c0 <;>
        (have z36 := F.at_ 36 _ _ rfl rfl d36
         simp only [PEq, c0, cond_true, cond_false] at z36
         subst z36
         refine wpOp_open rfl (fun K hK => ?_)
         go_simp
         exact hK.out _ _ ⟨_, _, _, _, _, _, _, _, _, _, _, _, _, _, _, _, _, _, _, _, _, _, _, _, _, _, _, _, _, _, _, _, _, _, _, _, _, _, _, _, _, _, _, _, _, _, _, _, _, _, _, _, _, _, _, _, _, _, _, _, _, rfl, F.step HST.out 37 HS.out (Kept.refl _ _) _ rfl _ (by simp only [PEq, c0, cond_true, cond_false])⟩)
    · have d36 : l.getD 36 false = true := by simp [Region.binds] at hd; simp [hd]
      have d37 : l.getD 37 false = true := by simp [Region.binds] at hd; simp [hd]
      rcases bool_cases b6 with c0 | c0 <;>
        (have z36 := F.at_ 36 _ _ rfl rfl d36
         simp only [PEq, c0, cond_true, cond_false] at z36
         subst z36
         have z37 := F.at_ 37 _ _ rfl rfl d37
         simp only [PEq, c0, cond_true, cond_false] at z37
         subst z37
         refine wpOp_open rfl (fun K hK => ?_)
         go_simp
         exact hK.out _ _ ⟨_, _, _, _, _, _, _, _, _, _, _, _, _, _, _, _, _, _, _, _, _, _, _, _, _, _, _, _, _, _, _, _, _, _, _, _, _, _, _, _, _, _, _, _, _, _, _, _, _, _, _, _, _, _, _, _, _, _, _, _, _, rfl, F.step HST.out 38 HS.out (Kept.refl _ _) _ rfl _ (by simp only [PEq, c0, cond_true, cond_false])⟩)
    · have d36 : l.getD 36 false = true := by simp [Region.binds] at hd; simp [hd]
      have d38 : l.getD 38 false = true := by simp [Region.binds] at hd; simp [hd]
      rcases bool_cases b6 with c0 | c0 <;>
        (have z36 := F.at_ 36 _ _ rfl rfl d36
         simp only [PEq, c0, cond_true, cond_false] at z36
         subst z36
         have z38 := F.at_ 38 _ _ rfl rfl d38
         simp only [PEq, c0, cond_true, cond_false] at z38
         subst z38
         have ha : (xk != 4) = !e4 := congrArg (! ·) HE4.out
         refine wpOp_open rfl (fun K hK => ?_)
         go_simp
         exact hK.out _ _ ⟨_, _, _, _, _, _, _, _, _, _, _, _, _, _, _, _, _, _, _, _, _, _, _, _, _, _, _, _, _, _, _, _, _, _, _, _, _, _, _, _, _, _, _, _, _, _, _, _, _, _, _, _, _, _, _, _, _, _, _, _, _, rfl, F.step HST.out 39 HS.out (Kept.refl _ _) _ rfl _ (by simp only [PEq, c0, cond_true, cond_false])⟩)
    · have d36 : l.getD 36 false = true := by simp [Region.binds] at hd; simp [hd]
      have d39 : l.getD 39 false = true := by simp [Region.binds] at hd; simp [hd]
      rcases bool_cases b6 with c0 | c0 <;>
        (have z36 := F.at_ 36 _ _ rfl rfl d36
         simp only [PEq, c0, cond_true, cond_false] at z36
         subst z36
         have z39 := F.at_ 39 _ _ rfl rfl d39
         simp only [PEq, c0, cond_true, cond_false] at z39
         subst z39
         refine wpOp_open rfl (fun K hK => ?_)
         go_simp
         exact hK.out _ _ ⟨_, _, _, _, _, _, _, _, _, _, _, _, _, _, _, _, _, _, _, _, _, _, _, _, _, _, _, _, _, _, _, _, _, _, _, _, _, _, _, _, _, _, _, _, _, _, _, _, _, _, _, _, _, _, _, _, _, _, _, _, _, rfl, F.step HST.out 40 HS.out (Kept.refl _ _) _ rfl _ (by simp only [PEq, c0, cond_true, cond_false])⟩)
    · have d40 : l.getD 40 false = true := by simp [Region.binds] at hd; simp [hd]
      rcases bool_cases b6 with c0 | c0 <;>
      rcases bool_cases e4 with c1 | c1 <;>
        (have z40 := F.at_ 40 _ _ rfl rfl d40
         simp only [PEq, c0, c1, cond_true, cond_false] at z40
         subst z40
         refine wpOp_open rfl (fun K hK => ?_)
         go_simp
         exact hK.out _ _ ⟨_, _, _, _, _, _, _, _, _, _, _, _, _, _, _, _, _, _, _, _, _, _, _, _, _, _, _, _, _, _, _, _, _, _, _, _, _, _, _, _, _, _, _, _, _, _, _, _, _, _, _, _, _, _, _, _, _, _, _, _, _, rfl, F.step HST.out 41 HS.out (Kept.refl _ _) _ rfl _ (by simp only [PEq, c0, c1, cond_true, cond_false])⟩)
    · have d40 : l.getD 40 false = true := by simp [Region.binds] at hd; simp [hd]
      have d41 : l.getD 41 false = true := by simp [Region.binds] at hd; simp [hd]
      rcases bool_cases b6 with c0 | c0 <;>
      rcases bool_cases e4 with c1 | c1 <;>
        (have z40 := F.at_ 40 _ _ rfl rfl d40
         simp only [PEq, c0, c1, cond_true, cond_false] at z40
         subst z40
         have z41 := F.at_ 41 _ _ rfl rfl d41
         simp only [PEq, c0, c1, cond_true, cond_false] at z41
         subst z41
         refine wpOp_open rfl (fun K hK => ?_)
         go_simp
         exact hK.out _ _ ⟨_, _, _, _, _, _, _, _, _, _, _, _, _, _, _, _, _, _, _, _, _, _, _, _, _, _, _, _, _, _, _, _, _, _, _, _, _, _, _, _, _, _, _, _, _, _, _, _, _, _, _, _, _, _, _, _, _, _, _, _, _, rfl, F.step HST.out 42 HS.out (Kept.refl _ _) _ rfl _ (by simp only [PEq, c0, c1, cond_true, cond_false])⟩)
    · have d40 : l.getD 40 false = true := by simp [Region.binds] at hd; simp [hd]
      have d42 : l.getD 42 false = true := by simp [Region.binds] at hd; simp [hd]
      rcases bool_cases b6 with c0 | c0 <;>
      rcases bool_cases e4 with c1 | c1 <;>
        (have z40 := F.at_ 40 _ _ rfl rfl d40
         simp only [PEq, c0, c1, cond_true, cond_false] at z40
         subst z40
         have z42 := F.at_ 42 _ _ rfl rfl d42
         simp only [PEq, c0, c1, cond_true, cond_false] at z42
         subst z42
         have ha : (xk != 5) = !e5 := congrArg (! ·) HE5.out
         refine wpOp_open rfl (fun K hK => ?_)
         go_simp
         exact hK.out _ _ ⟨_, _, _, _, _, _, _, _, _, _, _, _, _, _, _, _, _, _, _, _, _, _, _, _, _, _, _, _, _, _, _, _, _, _, _, _, _, _, _, _, _, _, _, _, _, _, _, _, _, _, _, _, _, _, _, _, _, _, _, _, _, rfl, F.step HST.out 43 HS.out (Kept.refl _ _) _ rfl _ (by simp only [PEq, c0, c1, cond_true, cond_false])⟩)
    · have d36 : l.getD 36 false = true := by simp [Region.binds] at hd; simp [hd]
      have d40 : l.getD 40 false = true := by simp [Region.binds] at hd; simp [hd]
      have d43 : l.getD 43 false = true := by simp [Region.binds] at hd; simp [hd]
      rcases bool_cases b6 with c0 | c0 <;>
      rcases bool_cases e4 with c1 | c1 <;>
        (have z36 := F.at_ 36 _ _ rfl rfl d36
         simp only [PEq, c0, c1, cond_true, cond_false] at z36
         subst z36
         have z40 := F.at_ 40 _ _ rfl rfl d40
         simp only [PEq, c0, c1, cond_true, cond_false] at z40
         subst z40
         have z43 := F.at_ 43 _ _ rfl rfl d43
         simp only [PEq, c0, c1, cond_true, cond_false] at z43
         subst z43
         refine wpOp_open rfl (fun K hK => ?_)
         go_simp
         exact hK.out _ _ ⟨_, _, _, _, _, _, _, _, _, _, _, _, _, _, _, _, _, _, _, _, _, _, _, _, _, _, _, _, _, _, _, _, _, _, _, _, _, _, _, _, _, _, _, _, _, _, _, _, _, _, _, _, _, _, _, _, _, _, _, _, _, rfl, F.step HST.out 44 HS.out (Kept.refl _ _) _ rfl _ (by simp only [PEq, c0, c1, cond_true, cond_false, HB7.out, Bool.true_or, Bool.false_or, Bool.true_and, Bool.false_and, Bool.not_true, Bool.not_false])⟩)
    · have d36 : l.getD 36 false = true := by simp [Region.binds] at hd; simp [hd]
      have d44 : l.getD 44 false = true := by simp [Region.binds] at hd; simp [hd]
      rcases bool_cases b6 with c0 | c0 <;>
        (have z36 := F.at_ 36 _ _ rfl rfl d36
         simp only [PEq, c0, cond_true, cond_false] at z36
         subst z36
         have z44 := F.at_ 44 _ _ rfl rfl d44
         simp only [PEq, c0, cond_true, cond_false] at z44
         subst z44
         refine wpOp_open rfl (fun K hK => ?_)
         go_simp
         exact hK.out _ _ ⟨_, _, _, _, _, _, _, _, _, _, _, _, _, _, _, _, _, _, _, _, _, _, _, _, _, _, _, _, _, _, _, _, _, _, _, _, _, _, _, _, _, _, _, _, _, _, _, _, _, _, _, _, _, _, _, _, _, _, _, _, _, rfl, F.step HST.out 45 HS.out (Kept.refl _ _) _ rfl _ (by simp only [PEq, c0, cond_true, cond_false])⟩)
    · have d45 : l.getD 45 false = true := by simp [Region.binds] at hd; simp [hd]
      rcases bool_cases b6 with c0 | c0 <;>
      rcases bool_cases b7 with c1 | c1 <;>
        (have z45 := F.at_ 45 _ _ rfl rfl d45
         simp only [PEq, c0, c1, cond_true, cond_false] at z45
         subst z45
         refine wpOp_open rfl (fun K hK => ?_)
         go_simp
         exact hK.out _ _ ⟨_, _, _, _, _, _, _, _, _, _, _, _, _, _, _, _, _, _, _, _, _, _, _, _, _, _, _, _, _, _, _, _, _, _, _, _, _, _, _, _, _, _, _, _, _, _, _, _, _, _, _, _, _, _, _, _, _, _, _, _, _, rfl, F.step HST.out 46 HS.out (Kept.refl _ _) _ rfl _ (by simp only [PEq, c0, c1, cond_true, cond_false])⟩)
    · have d45 : l.getD 45 false = true := by simp [Region.binds] at hd; simp [hd]
      have d46 : l.getD 46 false = true := by simp [Region.binds] at hd; simp [hd]
      rcases bool_cases b6 with c0 | c0 <;>
      rcases bool_cases b7 with c1 | c1 <;>
        (have z45 := F.at_ 45 _ _ rfl rfl d45
         simp only [PEq, c0, c1, cond_true, cond_false] at z45
         subst z45
         have z46 := F.at_ 46 _ _ rfl rfl d46
         simp only [PEq, c0, c1, cond_true, cond_false] at z46
         subst z46
         refine wpOp_open rfl (fun K hK => ?_)
         go_simp
         exact hK.out _ _ ⟨_, _, _, _, _, _, _, _, _, _, _, _, _, _, _, _, _, _, _, _, _, _, _, _, _, _, _, _, _, _, _, _, _, _, _, _, _, _, _, _, _, _, _, _, _, _, _, _, _, _, _, _, _, _, _, _, _, _, _, _, _, rfl, F.step HST.out 47 HS.out (Kept.refl _ _) _ rfl _ (by simp only [PEq, c0, c1, cond_true, cond_false])⟩)
    · have d45 : l.getD 45 false = true := by simp [Region.binds] at hd; simp [hd]
      have d47 : l.getD 47 false = true := by simp [Region.binds] at hd; simp [hd]
      rcases bool_cases b6 with c0 | c0 <;>
      rcases bool_cases b7 with c1 | c1 <;>
        (have z45 := F.at_ 45 _ _ rfl rfl d45
         simp only [PEq, c0, c1, cond_true, cond_false] at z45
         subst z45
         have z47 := F.at_ 47 _ _ rfl rfl d47
         simp only [PEq, c0, c1, cond_true, cond_false] at z47
         subst z47
         have ha : (xk != 6) = !e6 := congrArg (! ·) HE6.out
         refine wpOp_open rfl (fun K hK => ?_)
         go_simp
         exact hK.out _ _ ⟨_, _, _, _, _, _, _, _, _, _, _, _, _, _, _, _, _, _, _, _, _, _, _, _, _, _, _, _, _, _, _, _, _, _, _, _, _, _, _, _, _, _, _, _, _, _, _, _, _, _, _, _, _, _, _, _, _, _, _, _, _, rfl, F.step HST.out 48 HS.out (Kept.refl _ _) _ rfl _ (by simp only [PEq, c0, c1, cond_true, cond_false])⟩)
    · have d36 : l.getD 36 false = true := by simp [Region.binds] at hd; simp [hd]
      have d45 : l.getD 45 false = true := by simp [Region.binds] at hd; simp [hd]
      have d48 : l.getD 48 false = true := by simp [Region.binds] at hd; simp [hd]
      rcases bool_cases b6 with c0 | c0 <;>
      rcases bool_cases b7 with c1 | c1 <;>
        (have z36 := F.at_ 36 _ _ rfl rfl d36
         simp only [PEq, c0, c1, cond_true, cond_false] at z36
         subst z36
         have z45 := F.at_ 45 _ _ rfl rfl d45
         simp only [PEq, c0, c1, cond_true, cond_false] at z45
         subst z45
         have z48 := F.at_ 48 _ _ rfl rfl d48
         simp only [PEq, c0, c1, cond_true, cond_false] at z48
         subst z48
         refine wpOp_open rfl (fun K hK => ?_)
         go_simp
         exact hK.out _ _ ⟨_, _, _, _, _, _, _, _, _, _, _, _, _, _, _, _, _, _, _, _, _, _, _, _, _, _, _, _, _, _, _, _, _, _, _, _, _, _, _, _, _, _, _, _, _, _, _, _, _, _, _, _, _, _, _, _, _, _, _, _, _, rfl, F.step HST.out 49 HS.out (Kept.refl _ _) _ rfl _ (by simp only [PEq, c0, c1, cond_true, cond_false, HB8.out, Bool.true_or, Bool.false_or, Bool.true_and, Bool.false_and, Bool.not_true, Bool.not_false])⟩)
    · have d36 : l.getD 36 false = true := by simp [Region.binds] at hd; simp [hd]
      have d49 : l.getD 49 false = true := by simp [Region.binds] at hd; simp [hd]
      rcases bool_cases b6 with c0 | c0 <;>
        (have z36 := F.at_ 36 _ _ rfl rfl d36
         simp only [PEq, c0, cond_true, cond_false] at z36
         subst z36
         have z49 := F.at_ 49 _ _ rfl rfl d49
         simp only [PEq, c0, cond_true, cond_false] at z49
         subst z49
         refine wpOp_open rfl (fun K hK => ?_)
         go_simp
         exact hK.out _ _ ⟨_, _, _, _, _, _, _, _, _, _, _, _, _, _, _, _, _, _, _, _, _, _, _, _, _, _, _, _, _, _, _, _, _, _, _, _, _, _, _, _, _, _, _, _, _, _, _, _, _, _, _, _, _, _, _, _, _, _, _, _, _, rfl, F.step HST.out 50 HS.out (Kept.refl _ _) _ rfl _ (by simp only [PEq, c0, cond_true, cond_false])⟩)
    · have d50 : l.getD 50 false = true := by simp [Region.binds] at hd; simp [hd]
      rcases bool_cases b6 with c0 | c0 <;>
      rcases bool_cases b8 with c1 | c1 <;>
        (have z50 := F.at_ 50 _ _ rfl rfl d50
         simp only [PEq, c0, c1, cond_true, cond_false] at z50
         subst z50
         refine wpOp_open rfl (fun K hK => ?_)
         go_simp
         exact hK.out _ _ ⟨_, _, _, _, _, _, _, _, _, _, _, _, _, _, _, _, _, _, _, _, _, _, _, _, _, _, _, _, _, _, _, _, _, _, _, _, _, _, _, _, _, _, _, _, _, _, _, _, _, _, _, _, _, _, _, _, _, _, _, _, _, rfl, F.step HST.out 51 HS.out (Kept.refl _ _) _ rfl _ (by simp only [PEq, c0, c1, cond_true, cond_false])⟩)
    · have d50 : l.getD 50 false = true := by simp [Region.binds] at hd; simp [hd]
      have d51 : l.getD 51 false = true := by simp [Region.binds] at hd; simp [hd]
      rcases bool_cases b6 with c0 | c0 <;>
      rcases bool_cases b8 with c1 | c1 <;>
        (have z50 := F.at_ 50 _ _ rfl rfl d50
         simp only [PEq, c0, c1, cond_true, cond_false] at z50
         subst z50
         have z51 := F.at_ 51 _ _ rfl rfl d51
         simp only [PEq, c0, c1, cond_true, cond_false] at z51
         subst z51
         refine wpOp_open rfl (fun K hK => ?_)
         go_simp
         exact hK.out _ _ ⟨_, _, _, _, _, _, _, _, _, _, _, _, _, _, _, _, _, _, _, _, _, _, _, _, _, _, _, _, _, _, _, _, _, _, _, _, _, _, _, _, _, _, _, _, _, _, _, _, _, _, _, _, _, _, _, _, _, _, _, _, _, rfl, F.step HST.out 52 HS.out (Kept.refl _ _) _ rfl _ (by simp only [PEq, c0, c1, cond_true, cond_false])⟩)
    · have d50 : l.getD 50 false = true := by simp [Region.binds] at hd; simp [hd]
      have d52 : l.getD 52 false = true := by simp [Region.binds] at hd; simp [hd]
      rcases bool_cases b6 with c0 | c0 <;>
      rcases bool_cases b8 with c1 | c1 <;>
        (have z50 := F.at_ 50 _ _ rfl rfl d50
         simp only [PEq, c0, c1, cond_true, cond_false] at z50
         subst z50
         have z52 := F.at_ 52 _ _ rfl rfl d52
         simp only [PEq, c0, c1, cond_true, cond_false] at z52
         subst z52
         have ha : (xk != 19) = !e19 := congrArg (! ·) HE19.out
         refine wpOp_open rfl (fun K hK => ?_)
         go_simp
         exact hK.out _ _ ⟨_, _, _, _, _, _, _, _, _, _, _, _, _, _, _, _, _, _, _, _, _, _, _, _, _, _, _, _, _, _, _, _, _, _, _, _, _, _, _, _, _, _, _, _, _, _, _, _, _, _, _, _, _, _, _, _, _, _, _, _, _, rfl, F.step HST.out 53 HS.out (Kept.refl _ _) _ rfl _ (by simp only [PEq, c0, c1, cond_true, cond_false])⟩)
    · have d36 : l.getD 36 false = true := by simp [Region.binds] at hd; simp [hd]
      have d50 : l.getD 50 false = true := by simp [Region.binds] at hd; simp [hd]
      have d53 : l.getD 53 false = true := by simp [Region.binds] at hd; simp [hd]
      rcases bool_cases b6 with c0 | c0 <;>
      rcases bool_cases b8 with c1 | c1 <;>
        (have z36 := F.at_ 36 _ _ rfl rfl d36
         simp only [PEq, c0, c1, cond_true, cond_false] at z36
         subst z36
         have z50 := F.at_ 50 _ _ rfl rfl d50
         simp only [PEq, c0, c1, cond_true, cond_false] at z50
         subst z50
         have z53 := F.at_ 53 _ _ rfl rfl d53
         simp only [PEq, c0, c1, cond_true, cond_false] at z53
         subst z53
         refine wpOp_open rfl (fun K hK => ?_)
         go_simp
         exact hK.out _ _ ⟨_, _, _, _, _, _, _, _, _, _, _, _, _, _, _, _, _, _, _, _, _, _, _, _, _, _, _, _, _, _, _, _, _, _, _, _, _, _, _, _, _, _, _, _, _, _, _, _, _, _, _, _, _, _, _, _, _, _, _, _, _, rfl, F.step HST.out 54 HS.out (Kept.refl _ _) _ rfl _ (by simp only [PEq, c0, c1, cond_true, cond_false, HB9.out, Bool.true_or, Bool.false_or, Bool.true_and, Bool.false_and, Bool.not_true, Bool.not_false])⟩)
    · have d36 : l.getD 36 false = true := by simp [Region.binds] at hd; simp [hd]
      have d54 : l.getD 54 false = true := by simp [Region.binds] at hd; simp [hd]
      rcases bool_cases b6 with c0 | c0 <;>
        (have z36 := F.at_ 36 _ _ rfl rfl d36
         simp only [PEq, c0, cond_true, cond_false] at z36
         subst z36
         have z54 := F.at_ 54 _ _ rfl rfl d54
         simp only [PEq, c0, cond_true, cond_false] at z54
         subst z54
         refine wpOp_open rfl (fun K hK => ?_)
         go_simp
         exact hK.out _ _ ⟨_, _, _, _, _, _, _, _, _, _, _, _, _, _, _, _, _, _, _, _, _, _, _, _, _, _, _, _, _, _, _, _, _, _, _, _, _, _, _, _, _, _, _, _, _, _, _, _, _, _, _, _, _, _, _, _, _, _, _, _, _, rfl, F.step HST.out 55 HS.out (Kept.refl _ _) _ rfl _ (by simp only [PEq, c0, cond_true, cond_false])⟩)
    · have d55 : l.getD 55 false = true := by simp [Region.binds] at hd; simp [hd]
      rcases bool_cases b6 with c0 | c0 <;>
      rcases bool_cases b9 with c1 | c1 <;>
        (have z55 := F.at_ 55 _ _ rfl rfl d55
         simp only [PEq, c0, c1, cond_true, cond_false] at z55
         subst z55
         refine wpOp_open rfl (fun K hK => ?_)
         go_simp
         exact hK.out _ _ ⟨_, _, _, _, _, _, _, _, _, _, _, _, _, _, _, _, _, _, _, _, _, _, _, _, _, _, _, _, _, _, _, _, _, _, _, _, _, _, _, _, _, _, _, _, _, _, _, _, _, _, _, _, _, _, _, _, _, _, _, _, _, rfl, F.step HST.out 56 HS.out (Kept.refl _ _) _ rfl _ (by simp only [PEq, c0, c1, cond_true, cond_false])⟩)
    · have d55 : l.getD 55 false = true := by simp [Region.binds] at hd; simp [hd]
      have d56 : l.getD 56 false = true := by simp [Region.binds] at hd; simp [hd]
      rcases bool_cases b6 with c0 | c0 <;>
      rcases bool_cases b9 with c1 | c1 <;>
        (have z55 := F.at_ 55 _ _ rfl rfl d55
         simp only [PEq, c0, c1, cond_true, cond_false] at z55
         subst z55
         have z56 := F.at_ 56 _ _ rfl rfl d56
         simp only [PEq, c0, c1, cond_true, cond_false] at z56
         subst z56
         refine wpOp_open rfl (fun K hK => ?_)
         go_simp
         exact hK.out _ _ ⟨_, _, _, _, _, _, _, _, _, _, _, _, _, _, _, _, _, _, _, _, _, _, _, _, _, _, _, _, _, _, _, _, _, _, _, _, _, _, _, _, _, _, _, _, _, _, _, _, _, _, _, _, _, _, _, _, _, _, _, _, _, rfl, F.step HST.out 57 HS.out (Kept.refl _ _) _ rfl _ (by simp only [PEq, c0, c1, cond_true, cond_false])⟩)
    · have d55 : l.getD 55 false = true := by simp [Region.binds] at hd; simp [hd]
      have d57 : l.getD 57 false = true := by simp [Region.binds] at hd; simp [hd]
      rcases bool_cases b6 with c0 | c0 <;>
      rcases bool_cases b9 with c1 | c1 <;>
        (have z55 := F.at_ 55 _ _ rfl rfl d55
         simp only [PEq, c0, c1, cond_true, cond_false] at z55
         subst z55
         have z57 := F.at_ 57 _ _ rfl rfl d57
         simp only [PEq, c0, c1, cond_true, cond_false] at z57
         subst z57
         have ha : (xn != 0) = !z0 := congrArg (! ·) HZ0.out
         refine wpOp_open rfl (fun K hK => ?_)
         go_simp
         exact hK.out _ _ ⟨_, _, _, _, _, _, _, _, _, _, _, _, _, _, _, _, _, _, _, _, _, _, _, _, _, _, _, _, _, _, _, _, _, _, _, _, _, _, _, _, _, _, _, _, _, _, _, _, _, _, _, _, _, _, _, _, _, _, _, _, _, rfl, F.step HST.out 58 HS.out (Kept.refl _ _) _ rfl _ (by simp only [PEq, c0, c1, cond_true, cond_false])⟩)
    · have d36 : l.getD 36 false = true := by simp [Region.binds] at hd; simp [hd]
      have d55 : l.getD 55 false = true := by simp [Region.binds] at hd; simp [hd]
      have d58 : l.getD 58 false = true := by simp [Region.binds] at hd; simp [hd]
      rcases bool_cases b6 with c0 | c0 <;>
      rcases bool_cases b9 with c1 | c1 <;>
        (have z36 := F.at_ 36 _ _ rfl rfl d36
         simp only [PEq, c0, c1, cond_true, cond_false] at z36
         subst z36
         have z55 := F.at_ 55 _ _ rfl rfl d55
         simp only [PEq, c0, c1, cond_true, cond_false] at z55
         subst z55
         have z58 := F.at_ 58 _ _ rfl rfl d58
         simp only [PEq, c0, c1, cond_true, cond_false] at z58
         subst z58
         refine wpOp_open rfl (fun K hK => ?_)
         go_simp
         exact hK.out _ _ ⟨_, _, _, _, _, _, _, _, _, _, _, _, _, _, _, _, _, _, _, _, _, _, _, _, _, _, _, _, _, _, _, _, _, _, _, _, _, _, _, _, _, _, _, _, _, _, _, _, _, _, _, _, _, _, _, _, _, _, _, _, _, rfl, F.step HST.out 59 HS.out (Kept.refl _ _) _ rfl _ (by simp only [PEq, c0, c1, cond_true, cond_false, HB10.out, Bool.true_or, Bool.false_or, Bool.true_and, Bool.false_and, Bool.not_true, Bool.not_false])⟩)
    · have d36 : l.getD 36 false = true := by simp [Region.binds] at hd; simp [hd]
      have d59 : l.getD 59 false = true := by simp [Region.binds] at hd; simp [hd]
      rcases bool_cases b6 with c0 | c0 <;>
        (have z36 := F.at_ 36 _ _ rfl rfl d36
         simp only [PEq, c0, cond_true, cond_false] at z36
         subst z36
         have z59 := F.at_ 59 _ _ rfl rfl d59
         simp only [PEq, c0, cond_true, cond_false] at z59
         subst z59
         refine wpOp_open rfl (fun K hK => ?_)
         go_simp
         exact hK.out _ _ ⟨_, _, _, _, _, _, _, _, _, _, _, _, _, _, _, _, _, _, _, _, _, _, _, _, _, _, _, _, _, _, _, _, _, _, _, _, _, _, _, _, _, _, _, _, _, _, _, _, _, _, _, _, _, _, _, _, _, _, _, _, _, rfl, F.step HST.out 60 HS.out (Kept.refl _ _) _ rfl _ (by simp only [PEq, c0, cond_true, cond_false, HB11.out, Bool.true_or, Bool.false_or, Bool.true_and, Bool.false_and, Bool.not_true, Bool.not_false])⟩)
  case hend =>
    intro l a wr hs hI hr
    have hs' : l.size = 61 := hs
    obtain ⟨v0, hI⟩ := hI
    obtain ⟨v1, hI⟩ := hI
    obtain ⟨v2, hI⟩ := hI
    obtain ⟨v3, hI⟩ := hI
    obtain ⟨v4, hI⟩ := hI
    obtain ⟨v5, hI⟩ := hI
    obtain ⟨v6, hI⟩ := hI
    obtain ⟨v7, hI⟩ := hI
    obtain ⟨v8, hI⟩ := hI
    obtain ⟨v9, hI⟩ := hI
    obtain ⟨v10, hI⟩ := hI
    obtain ⟨v11, hI⟩ := hI
    obtain ⟨v12, hI⟩ := hI
    obtain ⟨v13, hI⟩ := hI
    obtain ⟨v14, hI⟩ := hI
    obtain ⟨v15, hI⟩ := hI
    obtain ⟨v16, hI⟩ := hI
    obtain ⟨v17, hI⟩ := hI
    obtain ⟨v18, hI⟩ := hI
    obtain ⟨v19, hI⟩ := hI
    obtain ⟨v20, hI⟩ := hI
    obtain ⟨v21, hI⟩ := hI
    obtain ⟨v22, hI⟩ := hI
    obtain ⟨v23, hI⟩ := hI
    obtain ⟨v24, hI⟩ := hI
    obtain ⟨v25, hI⟩ := hI
    obtain ⟨v26, hI⟩ := hI
    obtain ⟨v27, hI⟩ := hI
    obtain ⟨v28, hI⟩ := hI
    obtain ⟨v29, hI⟩ := hI
    obtain ⟨v30, hI⟩ := hI
    obtain ⟨v31, hI⟩ := hI
    obtain ⟨v32, hI⟩ := hI
    obtain ⟨v33, hI⟩ := hI
    obtain ⟨v34, hI⟩ := hI
    obtain ⟨v35, hI⟩ := hI
    obtain ⟨v36, hI⟩ := hI
    obtain ⟨v37, hI⟩ := hI
    obtain ⟨v38, hI⟩ := hI
    obtain ⟨v39, hI⟩ := hI
    obtain ⟨v40, hI⟩ := hI
    obtain ⟨v41, hI⟩ := hI
    obtain ⟨v42, hI⟩ := hI
    obtain ⟨v43, hI⟩ := hI
    obtain ⟨v44, hI⟩ := hI
    obtain ⟨v45, hI⟩ := hI
    obtain ⟨v46, hI⟩ := hI
    obtain ⟨v47, hI⟩ := hI
    obtain ⟨v48, hI⟩ := hI
    obtain ⟨v49, hI⟩ := hI
    obtain ⟨v50, hI⟩ := hI
    obtain ⟨v51, hI⟩ := hI
    obtain ⟨v52, hI⟩ := hI
    obtain ⟨v53, hI⟩ := hI
    obtain ⟨v54, hI⟩ := hI
    obtain ⟨v55, hI⟩ := hI
    obtain ⟨v56, hI⟩ := hI
    obtain ⟨v57, hI⟩ := hI
    obtain ⟨v58, hI⟩ := hI
    obtain ⟨v59, hI⟩ := hI
    obtain ⟨v60, hI⟩ := hI
    obtain ⟨ha, F⟩ := hI
    subst ha
    have HAR := all_ready2 hs (by kernel_rfl) hr
    obtain rfl := F.at_ 60 _ _ rfl rfl (HAR 60 (by decide))
    have hK := F.kept
    clear F hr HST HAR
    exact hnext.out b11 v0 v1 v2 v3 v4 v5 v6 v7 v8 v9 v10 v11 v12 v13 v14 v15 v16 v17 v18 v19 v20 v21 v22 v23 v24 v25 v26 v27 v28 v29 v30 v31 v32 v33 v34 v35 v36 v37 v38 v39 v40 v41 v42 v43 v44 v45 v46 v47 v48 v49 v50 v51 v52 v53 v54 v55 v56 v57 v58 v59 wr (by rw [HB11.out, HB10.out, HB9.out, HB8.out, HB7.out, HB6.out, HB5.out, HB4.out, HB3.out, HB2.out, HB1.out]) hK

end Go.Proofs.Ytofnomkedpagfaa
