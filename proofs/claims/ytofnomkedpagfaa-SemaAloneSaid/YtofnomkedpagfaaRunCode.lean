/-
  The code of layer 14's texts, its entries, and what each of a Sema's calls comes to there, alone.
  Conditions: 0 to 1000 permits; calls as a script has them; nobody waits.
-/
import Derived.Test.YtofnomkedpagfaaAsmLines
import Derived.Test.YtofnomkedpagfaaAsmMem
import Derived.Test.YtofnomkedpagfaaLineMem
import Derived.Test.YtofnomkedpagfaaDown
import Derived.Test.YtofnomkedpagfaaMachS
import Derived.Test.YtofnomkedpagfaaRunAlone
import Derived.Test.YtofnomkedpagfaaRunLay
import Derived.Test.YtofnomkedpagfaaRunExpS
namespace Go.Proofs.Ytofnomkedpagfaa
open Go.RowKit
set_option linter.unusedVariables false
set_option maxRecDepth 100000

/-! ### The texts -/
def opsOf : Code → List Oper
  | .region _ ops _ => ops.toList
  | .seq a b => opsOf a ++ opsOf b
  | _ => []
/-- The text that a function tells. -/
noncomputable def litOf (c : Code) : ByteArray := match ((opsOf c).filterMap (fun o => match o.op with | .assign (.const (.string t)) => some t | _ => none)) with
  | _ :: t :: _ => t
  | _ => ByteArray.empty
noncomputable def qB : ByteArray := litOf (Try.f19.body.getD .skip)
noncomputable def sB : ByteArray := litOf (Try.f20.body.getD .skip)
def oT : List UInt8 := ("lock.try:\nlock.tryfair:\nlatch.try:\nrw.trywrite:\nrw.trywritefair:\nrw.tryread:\nrw.tryreadfair:\nmov r0 r15\nmov r1 r15\nret\n".toUTF8).data.toList
noncomputable def textsS : List Str := [bytesS qB, bytesS sB, oT]
/-- The code, 254 instructions. -/
def semaCode : List Ix := [
  ⟨2, 3, 1, 0, 0⟩, ⟨5, 2, 0, 0, 1⟩, ⟨6, 2, 1, 0, 1⟩, ⟨7, 2, 0, 0, 1⟩, ⟨10, 4, 14, 0, 1⟩, ⟨6, 1, 2, 0, 2⟩, ⟨2, 0, 2, 0, 0⟩, ⟨13, 0, 0, 0, 0⟩,
  ⟨5, 2, 0, 0, 0⟩, ⟨5, 3, 0, 0, 1⟩, ⟨2, 0, 15, 0, 0⟩, ⟨9, 3, 1, 0, 19⟩, ⟨9, 3, 2, 0, 19⟩, ⟨9, 3, 15, 0, 19⟩, ⟨5, 4, 3, 0, 0⟩, ⟨9, 4, 14, 0, 17⟩,
  ⟨2, 0, 3, 0, 0⟩, ⟨5, 3, 3, 0, 1⟩, ⟨8, 0, 0, 0, 11⟩, ⟨13, 0, 0, 0, 0⟩, ⟨2, 1, 15, 0, 0⟩, ⟨12, 0, 0, 0, 8⟩, ⟨9, 0, 15, 0, 29⟩, ⟨5, 1, 0, 0, 3⟩,
  ⟨17, 2, 0, 0, 0⟩, ⟨4, 2, 2, 0, 1⟩, ⟨2, 0, 15, 0, 0⟩, ⟨9, 1, 2, 0, 29⟩, ⟨2, 0, 14, 0, 0⟩, ⟨13, 0, 0, 0, 0⟩, ⟨6, 15, 1, 0, 3⟩, ⟨6, 14, 1, 0, 0⟩,
  ⟨2, 5, 0, 0, 0⟩, ⟨5, 3, 1, 0, 1⟩, ⟨2, 0, 3, 0, 0⟩, ⟨12, 0, 0, 0, 44⟩, ⟨10, 0, 14, 0, 33⟩, ⟨2, 0, 5, 0, 0⟩, ⟨2, 2, 1, 0, 0⟩, ⟨7, 2, 0, 0, 1⟩,
  ⟨9, 4, 14, 0, 43⟩, ⟨5, 4, 0, 0, 0⟩, ⟨9, 3, 4, 0, 63⟩, ⟨13, 0, 0, 0, 0⟩, ⟨5, 2, 0, 0, 0⟩, ⟨4, 3, 15, 0, -1⟩, ⟨9, 2, 3, 0, 58⟩, ⟨9, 2, 14, 0, 51⟩,
  ⟨7, 2, 0, 0, 0⟩, ⟨2, 0, 15, 0, 0⟩, ⟨13, 0, 0, 0, 0⟩, ⟨5, 0, 0, 0, 1⟩, ⟨5, 2, 0, 0, 0⟩, ⟨9, 2, 14, 0, 51⟩, ⟨6, 0, 1, 0, 1⟩, ⟨6, 1, 0, 0, 2⟩,
  ⟨2, 0, 15, 0, 0⟩, ⟨13, 0, 0, 0, 0⟩, ⟨2, 0, 14, 0, 0⟩, ⟨13, 0, 0, 0, 0⟩, ⟨5, 1, 0, 0, 0⟩, ⟨5, 2, 1, 0, 0⟩, ⟨9, 2, 15, 0, 69⟩, ⟨12, 0, 0, 0, 8⟩,
  ⟨9, 0, 15, 0, 69⟩, ⟨5, 1, 0, 0, 3⟩, ⟨9, 1, 15, 0, 69⟩, ⟨4, 1, 1, 0, -1⟩, ⟨15, 1, 0, 0, 0⟩, ⟨13, 0, 0, 0, 0⟩, ⟨12, 0, 0, 0, 8⟩, ⟨9, 0, 15, 0, 69⟩,
  ⟨5, 1, 0, 0, 4⟩, ⟨9, 1, 14, 0, 64⟩, ⟨13, 0, 0, 0, 0⟩, ⟨5, 2, 0, 0, 4⟩, ⟨5, 3, 0, 0, 5⟩, ⟨4, 4, 14, 0, 1⟩, ⟨4, 5, 4, 0, 1⟩, ⟨9, 2, 14, 0, 87⟩,
  ⟨9, 2, 4, 0, 89⟩, ⟨9, 2, 5, 0, 251⟩, ⟨11, 1, 15, 0, 85⟩, ⟨9, 3, 15, 0, 251⟩, ⟨8, 0, 0, 0, 251⟩, ⟨9, 3, 15, 0, 251⟩, ⟨8, 0, 0, 0, 251⟩, ⟨9, 3, 15, 0, 251⟩,
  ⟨8, 0, 0, 0, 251⟩, ⟨9, 3, 15, 0, 190⟩, ⟨8, 0, 0, 0, 184⟩, ⟨9, 1, 15, 0, 96⟩, ⟨19, 1, 0, 0, 0⟩, ⟨9, 1, 15, 0, 96⟩, ⟨1, 0, 0, 0, 2⟩, ⟨13, 0, 0, 0, 0⟩,
  ⟨11, 0, 15, 0, 101⟩, ⟨18, 1, 0, 0, 0⟩, ⟨11, 1, 0, 0, 101⟩, ⟨1, 0, 0, 0, 3⟩, ⟨13, 0, 0, 0, 0⟩, ⟨2, 0, 15, 0, 0⟩, ⟨13, 0, 0, 0, 0⟩, ⟨2, 6, 0, 0, 0⟩,
  ⟨2, 7, 1, 0, 0⟩, ⟨12, 0, 0, 0, 75⟩, ⟨9, 0, 14, 0, 123⟩, ⟨10, 0, 15, 0, 125⟩, ⟨2, 0, 2, 0, 0⟩, ⟨2, 1, 3, 0, 0⟩, ⟨12, 0, 0, 0, 91⟩, ⟨10, 0, 15, 0, 127⟩,
  ⟨16, 5, 0, 0, 6⟩, ⟨9, 5, 15, 0, 129⟩, ⟨17, 8, 0, 0, 0⟩, ⟨4, 8, 8, 0, 1⟩, ⟨6, 8, 5, 0, 3⟩, ⟨6, 4, 5, 0, 4⟩, ⟨2, 8, 15, 0, 0⟩, ⟨2, 0, 6, 0, 0⟩,
  ⟨2, 1, 5, 0, 0⟩, ⟨12, 0, 0, 0, 0⟩, ⟨8, 0, 0, 0, 139⟩, ⟨2, 0, 15, 0, 0⟩, ⟨13, 0, 0, 0, 0⟩, ⟨1, 0, 0, 0, 5⟩, ⟨13, 0, 0, 0, 0⟩, ⟨21, 15, 0, 0, 17⟩,
  ⟨13, 0, 0, 0, 0⟩, ⟨1, 0, 0, 0, 6⟩, ⟨13, 0, 0, 0, 0⟩, ⟨2, 5, 2, 0, 0⟩, ⟨2, 6, 0, 0, 0⟩, ⟨2, 7, 1, 0, 0⟩, ⟨4, 2, 15, 0, -1⟩, ⟨2, 3, 15, 0, 0⟩,
  ⟨2, 4, 15, 0, 0⟩, ⟨2, 8, 15, 0, 0⟩, ⟨8, 0, 0, 0, 139⟩, ⟨5, 9, 5, 0, 1⟩, ⟨5, 10, 6, 0, 0⟩, ⟨10, 9, 10, 0, 147⟩, ⟨2, 0, 6, 0, 0⟩, ⟨2, 1, 7, 0, 0⟩,
  ⟨12, 0, 0, 0, 75⟩, ⟨9, 0, 14, 0, 161⟩, ⟨10, 0, 15, 0, 170⟩, ⟨2, 0, 9, 0, 0⟩, ⟨2, 1, 5, 0, 0⟩, ⟨12, 0, 0, 0, 44⟩, ⟨9, 0, 15, 0, 139⟩, ⟨2, 0, 2, 0, 0⟩,
  ⟨2, 1, 3, 0, 0⟩, ⟨12, 0, 0, 0, 91⟩, ⟨10, 0, 15, 0, 175⟩, ⟨14, 2, 0, 0, 0⟩, ⟨9, 3, 14, 0, 139⟩, ⟨19, 9, 0, 0, 0⟩, ⟨9, 9, 15, 0, 139⟩, ⟨2, 8, 14, 0, 0⟩,
  ⟨8, 0, 0, 0, 139⟩, ⟨6, 5, 6, 0, 0⟩, ⟨6, 15, 5, 0, 1⟩, ⟨6, 15, 5, 0, 3⟩, ⟨2, 9, 15, 0, 0⟩, ⟨10, 4, 14, 0, 180⟩, ⟨2, 0, 6, 0, 0⟩, ⟨2, 1, 5, 0, 0⟩,
  ⟨12, 0, 0, 0, 70⟩, ⟨8, 0, 0, 0, 180⟩, ⟨2, 0, 6, 0, 0⟩, ⟨2, 1, 5, 0, 0⟩, ⟨12, 0, 0, 0, 30⟩, ⟨1, 9, 0, 0, 5⟩, ⟨8, 0, 0, 0, 180⟩, ⟨2, 9, 0, 0, 0⟩,
  ⟨2, 0, 6, 0, 0⟩, ⟨2, 1, 5, 0, 0⟩, ⟨12, 0, 0, 0, 30⟩, ⟨21, 15, 0, 0, 17⟩, ⟨9, 8, 15, 0, 182⟩, ⟨20, 0, 0, 0, 0⟩, ⟨2, 0, 9, 0, 0⟩, ⟨13, 0, 0, 0, 0⟩,
  ⟨2, 2, 0, 0, 0⟩, ⟨2, 3, 1, 0, 0⟩, ⟨12, 0, 0, 0, 20⟩, ⟨10, 0, 15, 0, 199⟩, ⟨2, 0, 2, 0, 0⟩, ⟨2, 1, 3, 0, 0⟩, ⟨5, 2, 0, 0, 2⟩, ⟨3, 3, 2, 1, 0⟩,
  ⟨11, 3, 15, 0, 199⟩, ⟨7, 2, 0, 0, 2⟩, ⟨10, 4, 14, 0, 190⟩, ⟨21, 1, 0, 0, 1⟩, ⟨2, 0, 14, 0, 0⟩, ⟨2, 1, 3, 0, 0⟩, ⟨13, 0, 0, 0, 0⟩, ⟨2, 0, 15, 0, 0⟩,
  ⟨13, 0, 0, 0, 0⟩, ⟨5, 2, 0, 0, 2⟩, ⟨3, 3, 2, 1, 0⟩, ⟨1, 5, 0, 0, 1000⟩, ⟨11, 5, 3, 0, 210⟩, ⟨7, 2, 0, 0, 2⟩, ⟨10, 4, 14, 0, 201⟩, ⟨21, 1, 0, 0, 3⟩,
  ⟨2, 0, 14, 0, 0⟩, ⟨13, 0, 0, 0, 0⟩, ⟨21, 1, 0, 0, 7⟩, ⟨1, 0, 0, 0, 2⟩, ⟨13, 0, 0, 0, 0⟩, ⟨5, 2, 0, 0, 2⟩, ⟨2, 3, 15, 0, 0⟩, ⟨7, 2, 0, 0, 2⟩,
  ⟨10, 4, 14, 0, 213⟩, ⟨21, 2, 0, 0, 9⟩, ⟨2, 0, 2, 0, 0⟩, ⟨13, 0, 0, 0, 0⟩, ⟨1, 14, 0, 0, 1⟩, ⟨1, 15, 0, 0, 0⟩, ⟨2, 4, 14, 0, 0⟩, ⟨12, 0, 0, 0, 103⟩,
  ⟨22, 0, 0, 0, 0⟩, ⟨1, 14, 0, 0, 1⟩, ⟨1, 15, 0, 0, 0⟩, ⟨2, 6, 1, 0, 0⟩, ⟨12, 0, 0, 0, 190⟩, ⟨9, 0, 14, 0, 232⟩, ⟨21, 6, 0, 0, 5⟩, ⟨22, 14, 0, 0, 0⟩,
  ⟨22, 15, 0, 0, 0⟩, ⟨1, 14, 0, 0, 1⟩, ⟨1, 15, 0, 0, 0⟩, ⟨2, 6, 0, 0, 0⟩, ⟨12, 0, 0, 0, 201⟩, ⟨10, 0, 14, 0, 241⟩, ⟨2, 0, 6, 0, 0⟩, ⟨12, 0, 0, 0, 60⟩,
  ⟨22, 15, 0, 0, 0⟩, ⟨1, 0, 0, 0, 5⟩, ⟨22, 0, 0, 0, 0⟩, ⟨1, 14, 0, 0, 1⟩, ⟨1, 15, 0, 0, 0⟩, ⟨12, 0, 0, 0, 213⟩, ⟨3, 0, 0, 0, 0⟩, ⟨3, 0, 0, 0, 0⟩,
  ⟨3, 0, 0, 0, 0⟩, ⟨3, 0, 0, 0, 0⟩, ⟨22, 0, 0, 0, 0⟩, ⟨2, 0, 15, 0, 0⟩, ⟨2, 1, 15, 0, 0⟩, ⟨13, 0, 0, 0, 0⟩]
def toIx (x : Ln) : Ix := ⟨x.op, x.a, x.b, x.c, x.n⟩
/-- Where a call begins. -/
def entS (k : Int) : ByteArray := if k = 4 then ⟨#[111, 112, 46, 97, 99, 113, 117, 105, 114, 101]⟩ else if k = 5 then ⟨#[111, 112, 46, 116, 114, 121, 115, 111, 109, 101]⟩ else if k = 6 then ⟨#[111, 112, 46, 114, 101, 108, 101, 97, 115, 101]⟩ else ⟨#[111, 112, 46, 100, 114, 97, 105, 110]⟩
def entP (k : Int) : Nat := if k = 4 then 220 else if k = 5 then 225 else if k = 6 then 233 else 243
def semaOk : Except (Nat × Nat) (List Ln × Labs) → Bool
  | .ok (c, l) => decide (c.map toIx = semaCode) && [4, 5, 6, 7].all (fun k => decide (findA l (bytesS (entS k)) = some (entP k))) && decide (l.length ≤ 1000)
  | _ => false
theorem sema_ok : semaOk (asmA (textsL textsS)) = true := by kernel_rfl
theorem sema_asm : ∃ c l, asmA (textsL textsS) = .ok (c, l) ∧ c.map toIx = semaCode ∧ l.length ≤ 1000 ∧ ∀ k, k = 4 ∨ k = 5 ∨ k = 6 ∨ k = 7 → placeA l (bytesS (entS k)) = entP k := by
  have h := sema_ok
  generalize asmA (textsL textsS) = r at h
  match r with
  | .error _ => cases h
  | .ok (c, l) =>
    unfold semaOk at h
    rw [Bool.and_eq_true, Bool.and_eq_true] at h
    refine ⟨c, l, rfl, of_decide_eq_true h.1.1, of_decide_eq_true h.2, fun k hk => ?_⟩
    have h2 := List.all_eq_true.1 h.1.2 k (by rcases hk with rfl | rfl | rfl | rfl <;> simp)
    unfold placeA
    rw [of_decide_eq_true h2]

/-! ### The runs -/
def regsS (l : List Lin) : List Lin := l ++ List.replicate (16 - l.length) Lin.zero
def pks8 : List Pk := List.replicate 8 Pk.zero
def semaZ (f : Int) (n : Lin) : List Lin := [Lin.num 17, Lin.num 17, n, Lin.zero, Lin.num 2, Lin.num f] ++ List.replicate 16 Lin.zero
def semaS (f : Int) (n : Lin) (pc : Int) (asked : Lin) : SS := ⟨semaZ f n, pks8, [], ⟨pc, regsS [Lin.num 1, asked]⟩, []⟩
def outS (p : Lin × List (Int × Lin) × SS) := (p.1, p.2.1, p.2.2.zs, p.2.2.ps)
def KS (fs : List (Lin × Nat)) : Known := ⟨[(0, 1000), (1, 1000)], fs⟩
def runsTo (fs : List (Lin × Nat)) (pc : Int) (asked v : Lin) (ns : List (Int × Lin)) (n' : Lin) : Bool :=
  (List.range 8).all fun t => [0, 1].all fun f => decide ((aloneS (KS fs) semaCode 4096 0 t 500 [] (semaS f (Lin.at 0) pc asked)).map outS = some (v, ns, semaZ f n', pks8))
theorem acq_y : runsTo [(⟨0, [1, -1]⟩, 1)] 220 (Lin.at 1).neg (Lin.num 0) [(1, (Lin.at 1).neg)] ⟨0, [1, -1]⟩ = true := by kernel_rfl
theorem acq_n : runsTo [(⟨0, [1, -1]⟩, 0)] 220 (Lin.at 1).neg (Lin.num 3) [(17, Lin.num 0)] (Lin.at 0) = true := by kernel_rfl
theorem try_y : runsTo [(⟨0, [1, -1]⟩, 1)] 225 (Lin.at 1).neg (Lin.num 0) [(1, (Lin.at 1).neg)] ⟨0, [1, -1]⟩ = true := by kernel_rfl
theorem try_n : runsTo [(⟨0, [1, -1]⟩, 0)] 225 (Lin.at 1).neg (Lin.num 1) [(5, (Lin.at 1).neg)] (Lin.at 0) = true := by kernel_rfl
theorem rel_y : runsTo [(⟨1000, [-1, -1]⟩, 1)] 233 (Lin.at 1) (Lin.num 0) [(3, Lin.at 1)] ⟨0, [1, 1]⟩ = true := by kernel_rfl
theorem rel_n : runsTo [(⟨1000, [-1, -1]⟩, 0)] 233 (Lin.at 1) (Lin.num 5) [(7, Lin.at 1)] (Lin.at 0) = true := by kernel_rfl
theorem drain_y : runsTo [] 243 (Lin.num 0) ⟨0, [16]⟩ [(9, Lin.at 0)] (Lin.num 0) = true := by kernel_rfl
theorem sema_may : ∀ x : Ix, x ∈ semaCode → mayL x.op x.a x.b x.c x.n = true := List.all_eq_true.1 (show semaCode.all (fun x => mayL x.op x.a x.b x.c x.n) = true by kernel_rfl)

/-- What a call asks for: register 1. -/
def askI (k n : Int) : Int := if k = 4 ∨ k = 5 then -n else n
/-- Where a run begins. -/
def atS (N : Int) (fair : Bool) (pc a : Int) : Ms := ⟨laidZ 2 N fair, pks8, [], startFr pc [1, a, 0, 0] 4, []⟩
theorem semaS_ev (e : List Int) (fair : Bool) (n asked : Lin) (pc : Int) : (semaS (bitI fair) n pc asked).ev e = atS (n.ev e) fair pc (asked.ev e) := by
  unfold semaS atS SS.ev semaZ laidZ SF.ev startFr regsS
  simp only [Ms.mk.injEq, Fr.mk.injEq, true_and, and_true, List.map_nil]
  refine ⟨?_, ?_⟩
  · simp only [List.map_append, List.map_cons, List.map_nil, ev_num, ev_zero, List.map_replicate]
  · funext k
    match k with
    | 0 => simp [ev_num]
    | 1 => simp
    | 2 => simp [ev_zero]
    | 3 => simp [ev_zero]
    | k + 4 =>
      rw [if_neg (by omega)]
      have : ([Lin.num 1, asked] ++ List.replicate (16 - [Lin.num 1, asked].length) Lin.zero).getD (k + 4) Lin.zero = Lin.zero := by
        by_cases hk : k + 4 < 16
        · rw [List.getD_eq_getElem?_getD, List.getElem?_append_right (by simp), List.getElem?_replicate]
          split <;> rfl
        · rw [List.getD_eq_getElem?_getD, List.getElem?_eq_none (by simp; omega)]
          rfl
      rw [this, ev_zero]
/-- What a run comes to. -/
def RunTo (t : Nat) (N : Int) (fair : Bool) (pc a v : Int) (x : Nt) (N' : Int) : Prop :=
  ∃ u : Ms, aloneR semaCode 4096 0 t 500 [] (atS N fair pc a) = some (v, [x], u) ∧ u.zs = laidZ 2 N' fair ∧ u.ps = pks8
theorem runs_ok {fs : List (Lin × Nat)} {pc : Int} {asked v n' : Lin} {k : Int} {m : Lin} (h : runsTo fs pc asked v [(k, m)] n' = true) {t : Nat} (ht : t < 8) (fair : Bool) {e : List Int} (hK : (KS fs).ok e) :
    RunTo t ((Lin.at 0).ev e) fair pc (asked.ev e) (v.ev e) ⟨k, m.ev e⟩ (n'.ev e) := by
  have h1 := List.all_eq_true.1 (List.all_eq_true.1 h t (List.mem_range.2 ht)) (bitI fair) (by cases fair <;> simp [bitI])
  have h2 := of_decide_eq_true h1
  cases hp : aloneS (KS fs) semaCode 4096 0 t 500 [] (semaS (bitI fair) (Lin.at 0) pc asked) with
  | none => rw [hp] at h2; cases h2
  | some p =>
    rw [hp] at h2
    have h3 := Option.some.inj h2
    unfold outS at h3
    simp only [Prod.mk.injEq] at h3
    obtain ⟨e1, e2, e3, e4⟩ := h3
    have h4 := alone_ok (most := 4096) (now := 0) (self := t) hK semaCode 500 [] _ p hp
    rw [semaS_ev, List.map_nil] at h4
    refine ⟨p.2.2.ev e, ?_, ?_, ?_⟩
    · rw [h4, e1, e2]; rfl
    · show p.2.2.zs.map (Lin.ev e) = _
      rw [e3]
      have := congrArg Ms.zs (semaS_ev e fair n' asked pc)
      exact this
    · exact e4
theorem ks_ok {N n : Int} {fs : List (Lin × Nat)} (h0 : 0 ≤ N) (h1 : N ≤ 1000) (h2 : 1 ≤ n) (h3 : n ≤ 1000) (hf : ∀ f ∈ fs, factOk [N, n] f) : (KS fs).ok [N, n] :=
  ⟨rfl, ⟨h0, h1, h2, h3, trivial⟩, hf⟩
theorem ev_l0 (N n : Int) : (Lin.at 0).ev [N, n] = N := by simp [Lin.ev, Lin.at, dotL]
theorem ev_l1 (N n : Int) : (Lin.at 1).ev [N, n] = n := by simp [Lin.ev, Lin.at, dotL]
theorem ev_two (k a b N n : Int) : (⟨k, [a, b]⟩ : Lin).ev [N, n] = k + (a * N + b * n) := by simp [Lin.ev, dotL]
theorem ev_one1 (k a N n : Int) : (⟨k, [a]⟩ : Lin).ev [N, n] = k + a * N := by simp [Lin.ev, dotL]

/-- Each call of a Sema, alone. -/
theorem sema_run (k n N : Int) (t : Nat) (ht : t < 8) (fair : Bool) (hk : k = 4 ∨ k = 5 ∨ k = 6 ∨ k = 7) (hn : k = 7 ∧ n = 0 ∨ k ≠ 7 ∧ 1 ≤ n) (hn1 : n ≤ 1000) (h0 : 0 ≤ N) (h1 : N ≤ 1000) :
    ∃ x : Nt, RunTo t N fair (entP k) (askI k n) (semaX k n N).2.2 x (semaX k n N).1 ∧ x.kind = (semaX k n N).2.1.kind ∧ (if x.value < 0 then -x.value else x.value) = (semaX k n N).2.1.value ∧ -1000 ≤ x.value ∧ x.value ≤ 1000 := by
  have hno : ∀ (l : Lin) (j : Nat), factOk [N, n] (l, j) → ∀ f ∈ [(l, j)], factOk [N, n] f := fun l j h f hf => by
    rw [List.mem_singleton.1 hf]; exact h
  have f0 : ∀ l : Lin, l.ev [N, n] < 0 → factOk [N, n] (l, 0) := fun l h => by unfold factOk; simp [h]
  have f1 : ∀ l : Lin, 0 ≤ l.ev [N, n] → factOk [N, n] (l, 1) := fun l h => by unfold factOk; simp [h]
  rcases hk with rfl | rfl | rfl | rfl
  · have h2 : 1 ≤ n := by omega
    by_cases hc : n ≤ N
    · have e : semaX 4 n N = (N - n, ⟨1, n⟩, 0) := by simp [semaX, hc]
      have h := runs_ok acq_y ht fair (ks_ok h0 h1 h2 hn1 (hno _ _ (f1 _ (by rw [ev_two]; omega))))
      rw [ev_l0, ev_num, ev_neg, ev_l1, ev_two, show 0 + (1 * N + -1 * n) = N - n by omega] at h
      rw [e]
      exact ⟨_, h, rfl, by dsimp only; omega, by dsimp only; omega, by dsimp only; omega⟩
    · have e : semaX 4 n N = (N, ⟨17, 0⟩, 3) := by simp [semaX, hc]
      have h := runs_ok acq_n ht fair (ks_ok h0 h1 h2 hn1 (hno _ _ (f0 _ (by rw [ev_two]; omega))))
      rw [ev_l0, ev_num, ev_neg, ev_l1, ev_num] at h
      rw [e]
      exact ⟨_, h, rfl, by dsimp only; omega, by dsimp only; omega, by dsimp only; omega⟩
  · have h2 : 1 ≤ n := by omega
    by_cases hc : n ≤ N
    · have e : semaX 5 n N = (N - n, ⟨1, n⟩, 0) := by simp [semaX, hc]
      have h := runs_ok try_y ht fair (ks_ok h0 h1 h2 hn1 (hno _ _ (f1 _ (by rw [ev_two]; omega))))
      rw [ev_l0, ev_num, ev_neg, ev_l1, ev_two, show 0 + (1 * N + -1 * n) = N - n by omega] at h
      rw [e]
      exact ⟨_, h, rfl, by dsimp only; omega, by dsimp only; omega, by dsimp only; omega⟩
    · have e : semaX 5 n N = (N, ⟨5, n⟩, 1) := by simp [semaX, hc]
      have h := runs_ok try_n ht fair (ks_ok h0 h1 h2 hn1 (hno _ _ (f0 _ (by rw [ev_two]; omega))))
      rw [ev_l0, ev_num, ev_neg, ev_l1] at h
      rw [e]
      exact ⟨_, h, rfl, by dsimp only; omega, by dsimp only; omega, by dsimp only; omega⟩
  · have h2 : 1 ≤ n := by omega
    by_cases hc : n ≤ 1000 - N
    · have e : semaX 6 n N = (N + n, ⟨3, n⟩, 0) := by simp [semaX, hc]
      have h := runs_ok rel_y ht fair (ks_ok h0 h1 h2 hn1 (hno _ _ (f1 _ (by rw [ev_two]; omega))))
      rw [ev_l0, ev_num, ev_l1, ev_two, show 0 + (1 * N + 1 * n) = N + n by omega] at h
      rw [e]
      exact ⟨_, h, rfl, by dsimp only; omega, by dsimp only; omega, by dsimp only; omega⟩
    · have e : semaX 6 n N = (N, ⟨7, n⟩, 5) := by simp [semaX, hc]
      have h := runs_ok rel_n ht fair (ks_ok h0 h1 h2 hn1 (hno _ _ (f0 _ (by rw [ev_two]; omega))))
      rw [ev_l0, ev_num, ev_l1] at h
      rw [e]
      exact ⟨_, h, rfl, by dsimp only; omega, by dsimp only; omega, by dsimp only; omega⟩
  · have hn0 : n = 0 := by omega
    subst hn0
    have e : semaX 7 0 N = (0, ⟨9, N⟩, 16 * N) := by simp [semaX]
    have h := runs_ok drain_y ht fair (ks_ok (n := 1) h0 h1 (by omega) (by omega) (fun f hf => by cases hf))
    rw [ev_l0, ev_num, ev_one1, show 0 + 16 * N = 16 * N by omega] at h
    rw [e]
    exact ⟨_, h, rfl, by dsimp only; omega, by dsimp only; omega, by dsimp only; omega⟩

end Go.Proofs.Ytofnomkedpagfaa
