/-
  My own texts, without what this claim does not need. My own text.
-/
import Derived.Tactics
import Derived.IntWalk
import Derived.Test.YtbcecodakfejaaaGreatProg
import Derived.ProofKit
import Derived.Laws.StructEq
import Derived.Test.YtbcecodakfejaaaGreatSKeepsK2
set_option maxRecDepth 100000
set_option maxHeartbeats 64000000
set_option linter.unusedVariables false
set_option linter.unusedSimpArgs false
set_option linter.unusedSectionVars false
open Go.Proofs.Tryz renaming prog → ag
namespace Go.Proofs.YtbcecodakfejaaaGreat
open Go.RowKit
abbrev aQ (v : Value) : ah := .w (.one (.c v))
abbrev ax (n : Int) : ah := aQ (.int .i64 n)
abbrev a7 (b : Bool) : ah := aQ (.bool b)
abbrev fQ (k off : Nat) : ah := .w (.one (.own k off))
def kX (P : Program) (ty : TypeId) : Option (Bool × Nat) :=
 match P.underlying ty, P.info? ty with
 | some (.struct _), some i | some (.array _ _), some i => some (true, i.size)
 | some _, some i => some (false, i.size)
 | _, _ => none
class fq (P : Program) (ty : TypeId) (agg : outParam Bool) (n : outParam Nat) : Prop where
 h : kX P ty = some (agg, n)
def zeroOf (P : Program) (ty : TypeId) : Option (List Value) := ((P.info? ty).bind (·.zero)).map fun z => z.cells.toList
class Ci (P : Program) (ty : TypeId) (vs : outParam (List Value)) : Prop where
 h : zeroOf P ty = some vs
def ud (P : Program) (ty : TypeId) (i : Nat) : Option Nat :=
 match P.underlying ty with
 | some (.struct bi) => (bi[i]?).bind fun f => (P.info? f.type).bind fun t => if t.size = 0 then none else some f.offset
 | _ => none
class nx (P : Program) (ty : TypeId) (i : Nat) (off : outParam Nat) : Prop where
 h : ud P ty i = some off
def Cr (P : Program) (ty : TypeId) : Option (Nat × Nat) :=
 match P.underlying ty with
 | some (.array n e) => (P.info? e).map fun t => (n, t.size)
 | _ => none
class K2 (P : Program) (ty : TypeId) (n size : outParam Nat) : Prop where
 h : Cr P ty = some (n, size)
def tB (P : Program) (ty : TypeId) : Option Nat :=
 match P.underlying ty with
 | some (.slice e) => (P.info? e).map fun t => t.size
 | _ => none
class ib (P : Program) (ty : TypeId) (size : outParam Nat) : Prop where
 h : tB P ty = some size
def E5 (P : Program) (ty : TypeId) : Option (List (Nat × Nat)) :=
 match P.underlying ty with
 | some (.struct bi) => bi.toList.mapM fun f => (P.info? f.type).map fun t => (f.offset, t.size)
 | some (.array n e) => bif Nat.ble n 32 then (P.info? e).map fun t => (List.range n).map fun i => (i * t.size, t.size) else none
 | _ => none
class Ll (P : Program) (ty : TypeId) (ps : outParam (List (Nat × Nat))) : Prop where
 h : E5 P ty = some ps
class Gb (P : Program) (ty : TypeId) (k : outParam IntKind) : Prop where
 h : P.underlying ty = some (.int k)
class Enters (P : Program) (f : FuncId) : Prop where
 h : enters P f = true
def takeN : List AC → Nat → Nat → Option (List AC)
 | _, 0, 0 => some []
 | [], _, _ => none
 | c :: cs, 0, n + 1 => match takeN cs 0 n with
  | some r => some (c :: r)
  | none => none
 | _ :: cs, off + 1, n => takeN cs off n
def pI : List AC → Nat → List AC → Option (List AC)
 | cs, 0, [] => some cs
 | [], _, _ => none
 | _ :: cs, 0, d :: ds => match pI cs 0 ds with
  | some r => some (d :: r)
  | none => none
 | c :: cs, off + 1, ds => match pI cs off ds with
  | some r => some (c :: r)
  | none => none
theorem FK : ∀ (cs : List AC) (off n : Nat) (r : List AC), takeN cs off n = some r → off + n ≤ cs.length ∧ (cs.drop off).take n = r
 | cs, 0, 0, r, h => by
  cases cs <;> (simp only [takeN, iT] at h; subst h; simp)
 | [], 0, n + 1, r, h => by simp [takeN] at h
 | [], off + 1, n, r, h => by cases n <;> simp [takeN] at h
 | c :: cs, 0, n + 1, r, h => by
  simp only [takeN] at h
  split at h
  ·rename_i aV al;cases h;have := FK cs 0 n aV al;simp at this ⊢;exact this
  ·cases h
 | c :: cs, off + 1, n, r, h => by
  have aM : takeN cs off n = some r := by cases n <;> simpa [takeN] using h
  have := FK cs off n r aM;exact ⟨by have := this.1; simp; omega, by simpa using this.2⟩
theorem A7 : ∀ (cs : List AC) (off : Nat) (ds : List AC) (r : List AC), pI cs off ds = some r → off + ds.length ≤ cs.length ∧ eI cs off ds = r
 | cs, 0, [], r, h => by
  cases cs <;> (simp only [pI, iT] at h; subst h; simp [eI])
 | [], 0, d :: ds, r, h => by simp [pI] at h
 | [], off + 1, ds, r, h => by cases ds <;> simp [pI] at h
 | c :: cs, 0, d :: ds, r, h => by
  simp only [pI] at h
  split at h
  ·rename_i aV al;cases h;have := A7 cs 0 ds aV al;simp [eI] at this ⊢;exact this
  ·cases h
 | c :: cs, off + 1, ds, r, h => by
  simp only [pI] at h
  split at h
  ·rename_i aV al;cases h;have := A7 cs off ds aV al;simp [eI, Nat.add_right_comm] at this ⊢;exact this
  ·cases h
section
variable {P : Program} {s s' : aC} {o : Oper} {ops : Array Oper} {rest : List Oper} {K : aC → Prop}
theorem fC (h : K s) : bg P ops K [] s := h
theorem LY {iB : List (Nat × Nat)} (hs : iB.all (mN s) = true) (h : K s) : bg P ops (fun s => iB.all (mN s) = true ∧ K s) [] s := ⟨hs, h⟩
theorem rr {e : cu} (hw : want ops o s = some true) (he : eZ P s.n s.look s.mem o true e) (hd : ∀ d, o.dst = some d → d < s.n) (h : bg P ops K rest (e.on o.dst s)) : bg P ops K (o :: rest) s := ⟨true, hw, e, he, hd, h⟩
section
variable {d ty : Nat} {op : Op} {pos : String} {after : Array Edge} {guard : Option (Nat × Bool)}
theorem kF {d : Nat} (hd : Nat.blt d s.n = true) : ∀ d', some d = some d' → d' < s.n := fun d' e => by cases e; simpa [Nat.blt_eq] using hd
theorem LZ {dst : Option Nat} (hw : want ops ⟨dst, op, ty, pos, after, guard⟩ s = some false) (hd : ∀ d, dst = some d → Nat.blt d s.n = true) (h : bg P ops K rest (s.put dst (.cz []))) : bg P ops K (⟨dst, op, ty, pos, after, guard⟩ :: rest) s :=
 ⟨false, hw, _, .skip, fun d e => by have := hd d e; simpa [Nat.blt_eq] using this, h⟩
theorem gi {av : ah} (hw : want ops ⟨some d, op, ty, pos, after, guard⟩ s = some true) (ak : w9 P s.look ⟨some d, op, ty, pos, after, guard⟩ av) (hd : Nat.blt d s.n = true) (h : bg P ops K rest (s.put (some d) av)) : bg P ops K (⟨some d, op, ty, pos, after, guard⟩ :: rest) s :=
 rr hw (.quiet av ak) (kF hd) h
theorem Wo {x : Operand} {av : ah} (hw : want ops ⟨some d, .move x, ty, pos, after, guard⟩ s = some true) (aa : s.look x = some av) (hd : Nat.blt d s.n = true) (h : bg P ops K rest (s.put (some d) av)) : bg P ops K (⟨some d, .move x, ty, pos, after, guard⟩ :: rest) s := by
 refine gi hw ⟨fun _ _ h => (by cases h), fun y ai => ?_, fun U ad W env he => ⟨env x, rfl, he x (by simp [Op.operands]) av aa⟩, fun j ae => ⟨x, by simp [Op.operands], av, aa, ae⟩⟩ hd h;simp [Op.operands] at ai;subst ai;exact ⟨av, aa⟩
theorem VR {x : Operand} {av : ah} (hw : want ops ⟨some d, .assign x, ty, pos, after, guard⟩ s = some true) (aa : s.look x = some av) (hd : Nat.blt d s.n = true) (h : bg P ops K rest (s.put (some d) av)) : bg P ops K (⟨some d, .assign x, ty, pos, after, guard⟩ :: rest) s := by
 refine gi hw ⟨fun _ _ h => (by cases h), fun y ai => ?_, fun U ad W env he => ⟨env x, rfl, he x (by simp [Op.operands]) av aa⟩, fun j ae => ⟨x, by simp [Op.operands], av, aa, ae⟩⟩ hd h;simp [Op.operands] at ai;subst ai;exact ⟨av, aa⟩
theorem V3 {x : Operand} {i : Nat} {xs : List bA} {y : bA} (hw : want ops ⟨some d, .extract x i, ty, pos, after, guard⟩ s = some true) (aa : s.look x = some (.cz xs)) (hi : xs[i]? = some y) (hd : Nat.blt d s.n = true) (h : bg P ops K rest (s.put (some d) (.w y))) : bg P ops K (⟨some d, .extract x i, ty, pos, after, guard⟩ :: rest) s := by
 refine gi (av := .w y) hw ⟨fun _ _ h => (by cases h), fun y ai => ?_, fun U ad W env he => ?_, fun j ae => ⟨x, by simp [Op.operands], _, aa, ⟨y, dc hi, ae⟩⟩⟩ hd h
 ·simp [Op.operands] at ai;subst ai;exact ⟨_, aa⟩
 ·obtain ⟨vs, e, hl, hv⟩ := he x (by simp [Op.operands]) _ aa;have bb : i < vs.length := by rw [← hl]; exact (bL.1 hi).1
  refine ⟨vs[i], ?_, hv i y _ hi (bN bb)⟩;simp only [execOp, Instr.extract, e];simp [bb]
theorem V6 {x : Operand} {qY i k off iK : Nat} [F : nx P qY i iK] (hw : want ops ⟨some d, .fieldAddr qY x i, ty, pos, after, guard⟩ s = some true) (aa : s.look x = some (fQ k off)) (hd : Nat.blt d s.n = true) (h : bg P ops K rest (s.put (some d) (fQ k (off + iK)))) : bg P ops K (⟨some d, .fieldAddr qY x i, ty, pos, after, guard⟩ :: rest) s := by
 refine gi hw ⟨fun _ _ h => (by cases h), fun y ai => ?_, fun U ad W env he => ?_, fun j ae => ⟨x, by simp [Op.operands], _, aa, ?_⟩⟩ hd h
 ·simp [Op.operands] at ai;subst ai;exact ⟨_, aa⟩
 ·have hp : env x = .pointer (some ⟨ad k, off, none⟩) := he x (by simp [Op.operands]) _ aa;have hF := F.h;unfold ud at hF
  split at hF
  ·rename_i bi hu;cases ap : bi[i]? with
   | none => rw [ap] at hF; cases hF
   | some f =>
    rw [ap] at hF;simp only [kU] at hF;cases hi : P.info? f.type with
    | none => rw [hi] at hF; cases hF
    | some t =>
     rw [hi] at hF;simp only [kU] at hF
     split at hF
     ·cases hF
     ·rename_i b7;cases hF;refine ⟨.pointer (some ⟨ad k, off + f.offset, none⟩), ?_, rfl⟩;have k6 : (⟨ad k, off, none⟩ : Addr).add f.offset = ⟨ad k, off + f.offset, none⟩ := by unfold Addr.add; split <;> simp_all
      simp only [execOp, Instr.fieldAt, hp, Instr.sureAddr, Sem.run_bind, Sem.run_pure, Result.andThen_ok, run_underlying hu, ap, fieldPlace, h5 hi, if_neg b7, k6]
  ·cases hF
 ·obtain ⟨y, ai, mB⟩ := ae;exact ⟨.own k off, by simp [bA.cells], by simp [bA.cells] at ai; subst ai; exact mB⟩
theorem LW {x y : Operand} {GP k off n size : Nat} {hn : IntKind} {i : Int} [A : K2 P GP n size] (hw : want ops ⟨some d, .indexAddr GP x y, ty, pos, after, guard⟩ s = some true) (aa : s.look x = some (fQ k off)) (ai : s.look y = some (aQ (.int hn i))) (aA : 0 ≤ i) (h1 : i < n) (hd : Nat.blt d s.n = true) (h : bg P ops K rest (s.put (some d) (fQ k (off + i.toNat * size)))) : bg P ops K (⟨some d, .indexAddr GP x y, ty, pos, after, guard⟩ :: rest) s := by
 refine gi hw ⟨fun _ _ h => (by cases h), fun z aN => ?_, fun U ad W env he => ?_, fun j ae => ⟨x, by simp [Op.operands], _, aa, ?_⟩⟩ hd h
 ·simp [Op.operands] at aN;rcases aN with rfl | rfl
  ·exact ⟨_, aa⟩
  ·exact ⟨_, ai⟩
 ·have hp : env x = .pointer (some ⟨ad k, off, none⟩) := he x (by simp [Op.operands]) _ aa;have hi : env y = .int hn i := (he y (by simp [Op.operands]) _ ai).1;have dn := A.h;unfold Cr at dn
  split at dn
  ·rename_i n' e hu;cases da : P.info? e with
   | none => rw [da] at dn; cases dn
   | some t =>
    rw [da] at dn;cases dn;refine ⟨.pointer (some ⟨ad k, off + i.toNat * t.size, none⟩), ?_, rfl⟩;have k6 : (⟨ad k, off, none⟩ : Addr).add (i.toNat * t.size) = ⟨ad k, off + i.toNat * t.size, none⟩ := by unfold Addr.add; split <;> simp_all
    simp only [execOp, Instr.indexAt, hp, hi, asIntOf, Instr.sureAddr, Sem.run_bind, Sem.run_pure, Result.andThen_ok, run_underlying hu, h5 da, if_pos (And.intro aA h1), k6]
  ·cases dn
 ·obtain ⟨y, ai, mB⟩ := ae;exact ⟨.own k off, by simp [bA.cells], by simp [bA.cells] at ai; subst ai; exact mB⟩
theorem ai2 {ty n : Nat} (h : kX P ty = some (false, n)) {cs : List AC} {off : Nat} {y : AC} (aj : cs[off]? = some y) : pick P ty cs off = some (.one y) := by
 unfold kX at h;unfold pick;cases hu : P.underlying ty with
 | none => rw [hu] at h; cases h
 | some D =>
  cases hi : P.info? ty with
  | none => rw [hu, hi] at h; cases D <;> cases h
  | some i =>
   rw [hu, hi] at h;cases D <;> first | (simp only [aj, hr]; done) | (exfalso; cases h)
theorem TN {ty n : Nat} (h : kX P ty = some (true, n)) {cs aU : List AC} {off : Nat} (aj : takeN cs off n = some aU) : pick P ty cs off = some (.agg aU) := by
 obtain ⟨h1, h2⟩ := FK _ _ _ _ aj;unfold kX at h;unfold pick
 split at h
 ·rename_i i hu hi; cases h; simp only [hu, hi, kU, if_pos h1, h2]
 ·rename_i i hu hi; cases h; simp only [hu, hi, kU, if_pos h1, h2]
 ·cases h
 ·cases h
theorem ai1 {ty n : Nat} {b : Bool} (h : kX P ty = some (b, n)) : ∃ i, P.info? ty = some i ∧ i.size = n := by
 unfold kX at h
 split at h
 ·rename_i i hu hi; cases h; exact ⟨i, hi, rfl⟩
 ·rename_i i hu hi; cases h; exact ⟨i, hi, rfl⟩
 ·rename_i i _ _ hu hi; cases h; exact ⟨_, hi, rfl⟩
 ·cases h
theorem Wf {x : Operand} {lt k off n : Nat} {cs : List AC} {y : AC} [T : fq P lt false n] (hw : want ops ⟨some d, .load lt x, ty, pos, after, guard⟩ s = some true) (aa : s.look x = some (fQ k off)) (hm : s.mem k = some cs) (aj : cs[off]? = some y) (hd : Nat.blt d s.n = true) (h : bg P ops K rest (s.put (some d) (.w (.one y)))) : bg P ops K (⟨some d, .load lt x, ty, pos, after, guard⟩ :: rest) s :=
 rr hw (.load lt x k off cs _ rfl aa hm (ai2 T.h aj)) (kF hd) h
theorem Wg {x : Operand} {lt k off n : Nat} {cs aU : List AC} [T : fq P lt true n] (hw : want ops ⟨some d, .load lt x, ty, pos, after, guard⟩ s = some true) (aa : s.look x = some (fQ k off)) (hm : s.mem k = some cs) (aj : takeN cs off n = some aU) (hd : Nat.blt d s.n = true) (h : bg P ops K rest (s.put (some d) (.w (.agg aU)))) : bg P ops K (⟨some d, .load lt x, ty, pos, after, guard⟩ :: rest) s :=
 rr hw (.load lt x k off cs _ rfl aa hm (TN T.h aj)) (kF hd) h
theorem WE {x y : Operand} {st k off n : Nat} {b : Bool} {cs ds : List AC} {z : bA} [T : fq P st b n] (hw : want ops ⟨none, .store st x y, ty, pos, after, guard⟩ s = some true) (aa : s.look x = some (fQ k off)) (ai : s.look y = some (.w z)) (hm : s.mem k = some cs) (aw : Nat.beq n z.cells.length = true) (hp : pI cs off z.cells = some ds) (h : bg P ops K rest (s.ej k ds)) : bg P ops K (⟨none, .store st x y, ty, pos, after, guard⟩ :: rest) s := by
 obtain ⟨i, hi, hs⟩ := ai1 T.h;obtain ⟨h1, h2⟩ := A7 _ _ _ _ hp;refine rr hw (.store st x y k off cs z i rfl aa ai hm hi (by rw [hs]; exact gL aw) h1) (fun d e => by cases e) ?_;simp only [cu.on, h2];exact h
theorem VP {ie : Nat} {vs : List Value} [Z : Ci P ie vs] (hw : want ops ⟨some d, .alloc ie, ty, pos, after, guard⟩ s = some true) (hm : s.mem d = none) (h1 : (vs.all fun v => v.oneCell') = true) (hd : Nat.blt d s.n = true) (h : bg P ops K rest ((s.ej d (vs.map .c)).put (some d) (fQ d 0))) : bg P ops K (⟨some d, .alloc ie, ty, pos, after, guard⟩ :: rest) s := by
 have aN := Z.h;unfold zeroOf at aN;cases hi : P.info? ie with
 | none => rw [hi] at aN; cases aN
 | some i =>
  rw [hi] at aN;simp only [kU] at aN;cases hT : i.zero with
  | none => rw [hT] at aN; cases aN
  | some z =>
   rw [hT] at aN;cases aN;exact rr hw (.new _ d rfl hm (.alloc ie i z _ rfl hi hT rfl h1)) (kF hd) h
theorem VS {GV : Nat} {x : Operand} {z : bA} (hw : want ops ⟨some d, .box GV x, ty, pos, after, guard⟩ s = some true) (aa : s.look x = some (.w z)) (hm : s.mem d = none) (hd : Nat.blt d s.n = true) (h : bg P ops K rest ((s.ej d z.cells).put (some d) (fQ d 0))) : bg P ops K (⟨some d, .box GV x, ty, pos, after, guard⟩ :: rest) s :=
 rr hw (.new _ d rfl hm (.box GV x z rfl aa)) (kF hd) h
def uc : List AC → Option (List Value)
 | [] => some []
 | .c v :: xs => match uc xs with
  | some r => some (v :: r)
  | none => none
 | _ :: _ => none
def mZ : bA → Option Value
 | .one (.c v) => some v
 | .one _ => none
 | .agg xs => match uc xs with
  | some r => some (.agg r.toArray)
  | none => none
theorem ND {U : Nat → Prop} {ad : Nat → Nat} {W : World} : ∀ (xs : List AC) (vs r : List Value), bM U ad W xs vs → uc xs = some r → vs = r
 | [], vs, r, h, he => by cases he; have := h.1; exact ks this.symm
 | .c v :: xs, vs, r, h, he => by
  simp only [uc] at he
  split at he
  ·rename_i aV al;cases he;cases vs with
   | nil => have := h.1; cases this
   | cons u us =>
    have aA : u = v := (h.2 0 _ _ rfl rfl).1;have := ND xs us aV ⟨by have := h.1; simpa using this, fun i x w aa hw => h.2 (i + 1) x w (by simpa using aa) (by simpa using hw)⟩ al;rw [aA, this]
  ·cases he
 | .own _ _ :: _, _, _, _, he => by cases he
 | .p _ :: _, _, _, _, he => by cases he
theorem CW {U : Nat → Prop} {ad : Nat → Nat} {W : World} {x : bA} {v u : Value} (h : gh U ad W x v) (he : mZ x = some u) : v = u := by
 cases x with
 | one y => cases y with
  | c w => cases he; exact h.1
  | own => cases he
  | p => cases he
 | agg xs =>
  simp only [mZ] at he
  split at he
  ·rename_i r al;cases he;obtain ⟨vs, rfl, hl⟩ := h;rw [ND xs vs r hl al]
  ·cases he
theorem jf (v : Value) (j : Nat) : ¬ (aQ v).owns j := fun ⟨y, ai, h⟩ => by simp [bA.cells] at ai; subst ai; cases h
theorem vy {sE : BinOp} {dp ed : Nat} {x y : Operand} {a b : bA} {jq fw v : Value} (hw : want ops ⟨some d, .binOp sE dp x y ed, ty, pos, after, guard⟩ s = some true) (aa : s.look x = some (.w a)) (ai : s.look y = some (.w b)) (ih : mZ a = some jq) (lq : mZ b = some fw)
  (an : ∀ W, (eqGuard sE dp x y jq fw).run P W = .ok () W) (al : ∀ W, (binOp sE dp jq fw).run P W = .ok v W) (h1 : v.oneCell' = true) (hd : Nat.blt d s.n = true) (h : bg P ops K rest (s.put (some d) (aQ v))) : bg P ops K (⟨some d, .binOp sE dp x y ed, ty, pos, after, guard⟩ :: rest) s := by
 refine gi (av := aQ v) hw ⟨fun _ _ h => (by cases h), fun z aN => ?_, fun U ad W env he => ⟨v, ?_, ⟨rfl, h1⟩⟩, fun j ae => absurd ae (jf v j)⟩ hd h
 ·simp [Op.operands] at aN;rcases aN with rfl | rfl
  ·exact ⟨_, aa⟩
  ·exact ⟨_, ai⟩
 ·have aG : env x = jq := CW (he x (by simp [Op.operands]) _ aa) ih;have aO : env y = fw := CW (he y (by simp [Op.operands]) _ ai) lq;simp only [execOp, aG, aO, Sem.run_bind, an, Result.andThen_ok, al, Sem.run_pure]
theorem rq {sE : BinOp} {dp ed : Nat} {x y : Operand} {k : IntKind} {a b : Int} {v : Value} (hw : want ops ⟨some d, .binOp sE dp x y ed, ty, pos, after, guard⟩ s = some true) (aa : s.look x = some (aQ (.int k a))) (ai : s.look y = some (aQ (.int k b)))
  (al : ∀ W, (binOp sE dp (.int k a) (.int k b)).run P W = .ok v W) (h1 : v.oneCell' = true) (hd : Nat.blt d s.n = true) (h : bg P ops K rest (s.put (some d) (aQ v))) : bg P ops K (⟨some d, .binOp sE dp x y ed, ty, pos, after, guard⟩ :: rest) s :=
 vy hw aa ai rfl rfl (fun W => by unfold eqGuard; cases sE <;> rfl) al h1 hd h
theorem Wj {dp ed : Nat} {x y : Operand} {k : IntKind} {a b : Int} (hw : want ops ⟨some d, .binOp .lss dp x y ed, ty, pos, after, guard⟩ s = some true) (aa : s.look x = some (aQ (.int k a))) (ai : s.look y = some (aQ (.int k b))) (hd : Nat.blt d s.n = true) (h : bg P ops K rest (s.put (some d) (a7 (decide (a < b))))) : bg P ops K (⟨some d, .binOp .lss dp x y ed, ty, pos, after, guard⟩ :: rest) s :=
 rq hw aa ai (fun W => by cases k <;> rfl) rfl hd h
theorem We {dp ed : Nat} {x y : Operand} {k : IntKind} {a b : Int} (hw : want ops ⟨some d, .binOp .leq dp x y ed, ty, pos, after, guard⟩ s = some true) (aa : s.look x = some (aQ (.int k a))) (ai : s.look y = some (aQ (.int k b))) (hd : Nat.blt d s.n = true) (h : bg P ops K rest (s.put (some d) (a7 (decide (a ≤ b))))) : bg P ops K (⟨some d, .binOp .leq dp x y ed, ty, pos, after, guard⟩ :: rest) s :=
 rq hw aa ai (fun W => by cases k <;> rfl) rfl hd h
theorem Wa {dp ed : Nat} {x y : Operand} {k : IntKind} {a b : Int} (hw : want ops ⟨some d, .binOp .gtr dp x y ed, ty, pos, after, guard⟩ s = some true) (aa : s.look x = some (aQ (.int k a))) (ai : s.look y = some (aQ (.int k b))) (hd : Nat.blt d s.n = true) (h : bg P ops K rest (s.put (some d) (a7 (decide (b < a))))) : bg P ops K (⟨some d, .binOp .gtr dp x y ed, ty, pos, after, guard⟩ :: rest) s :=
 rq hw aa ai (fun W => by cases k <;> rfl) rfl hd h
theorem V9 {dp ed : Nat} {x y : Operand} {k : IntKind} {a b : Int} (hw : want ops ⟨some d, .binOp .geq dp x y ed, ty, pos, after, guard⟩ s = some true) (aa : s.look x = some (aQ (.int k a))) (ai : s.look y = some (aQ (.int k b))) (hd : Nat.blt d s.n = true) (h : bg P ops K rest (s.put (some d) (a7 (decide (b ≤ a))))) : bg P ops K (⟨some d, .binOp .geq dp x y ed, ty, pos, after, guard⟩ :: rest) s :=
 rq hw aa ai (fun W => by cases k <;> rfl) rfl hd h
theorem V0 {dp ed : Nat} {x y : Operand} {k : IntKind} {a b : Int} (hw : want ops ⟨some d, .binOp .eql dp x y ed, ty, pos, after, guard⟩ s = some true) (aa : s.look x = some (aQ (.int k a))) (ai : s.look y = some (aQ (.int k b))) (hd : Nat.blt d s.n = true) (h : bg P ops K rest (s.put (some d) (a7 (decide (a = b))))) : bg P ops K (⟨some d, .binOp .eql dp x y ed, ty, pos, after, guard⟩ :: rest) s :=
 rq hw aa ai (fun W => by cases k <;> rfl) rfl hd h
theorem Wr {dp ed : Nat} {x y : Operand} {k : IntKind} {a b : Int} (hw : want ops ⟨some d, .binOp .neq dp x y ed, ty, pos, after, guard⟩ s = some true) (aa : s.look x = some (aQ (.int k a))) (ai : s.look y = some (aQ (.int k b))) (hd : Nat.blt d s.n = true) (h : bg P ops K rest (s.put (some d) (a7 (!decide (a = b))))) : bg P ops K (⟨some d, .binOp .neq dp x y ed, ty, pos, after, guard⟩ :: rest) s :=
 rq hw aa ai (fun W => by cases k <;> rfl) rfl hd h
theorem VO {dp ed : Nat} {x y : Operand} {k : IntKind} {a b c : Int} (hw : want ops ⟨some d, .binOp .add dp x y ed, ty, pos, after, guard⟩ s = some true) (aa : s.look x = some (aQ (.int k a))) (ai : s.look y = some (aQ (.int k b))) (aj : k.wrap (a + b) = c) (hd : Nat.blt d s.n = true) (h : bg P ops K rest (s.put (some d) (aQ (.int k c)))) : bg P ops K (⟨some d, .binOp .add dp x y ed, ty, pos, after, guard⟩ :: rest) s :=
 rq hw aa ai (fun W => by rw [← aj]; cases k <;> rfl) rfl hd h
theorem WG {dp ed : Nat} {x y : Operand} {k : IntKind} {a b c : Int} (hw : want ops ⟨some d, .binOp .sub dp x y ed, ty, pos, after, guard⟩ s = some true) (aa : s.look x = some (aQ (.int k a))) (ai : s.look y = some (aQ (.int k b))) (aj : k.wrap (a - b) = c) (hd : Nat.blt d s.n = true) (h : bg P ops K rest (s.put (some d) (aQ (.int k c)))) : bg P ops K (⟨some d, .binOp .sub dp x y ed, ty, pos, after, guard⟩ :: rest) s :=
 rq hw aa ai (fun W => by rw [← aj]; cases k <;> rfl) rfl hd h
theorem Wp {dp ed : Nat} {x y : Operand} {k : IntKind} {a b c : Int} (hw : want ops ⟨some d, .binOp .mul dp x y ed, ty, pos, after, guard⟩ s = some true) (aa : s.look x = some (aQ (.int k a))) (ai : s.look y = some (aQ (.int k b))) (aj : k.wrap (a * b) = c) (hd : Nat.blt d s.n = true) (h : bg P ops K rest (s.put (some d) (aQ (.int k c)))) : bg P ops K (⟨some d, .binOp .mul dp x y ed, ty, pos, after, guard⟩ :: rest) s :=
 rq hw aa ai (fun W => by rw [← aj]; cases k <;> rfl) rfl hd h
theorem k9 {n : Int} (h : -9223372036854775808 ≤ n ∧ n < 9223372036854775808) : IntKind.i64.wrap n = n := IntWalk.i64_in n (by omega)
theorem Ww {dp : Nat} {x : Operand} {b : Bool} (hw : want ops ⟨some d, .unOp .not dp x, ty, pos, after, guard⟩ s = some true) (aa : s.look x = some (a7 b)) (hd : Nat.blt d s.n = true) (h : bg P ops K rest (s.put (some d) (a7 (!b)))) : bg P ops K (⟨some d, .unOp .not dp x, ty, pos, after, guard⟩ :: rest) s := by
 refine gi (av := a7 (!b)) hw ⟨fun _ _ h => (by cases h), fun z aN => ?_, fun U ad W env he => ⟨.bool (!b), ?_, ⟨rfl, rfl⟩⟩, fun j ae => absurd ae (jf _ j)⟩ hd h
 ·simp [Op.operands] at aN; subst aN; exact ⟨_, aa⟩
 ·have aG : env x = .bool b := (he x (by simp [Op.operands]) _ aa).1;simp only [execOp, aG, Sem.run_bind, Op.unary];rfl
theorem L0 {KK : UnOp} {dp : Nat} {x : Operand} {jq v : Value} (hw : want ops ⟨some d, .unOp KK dp x, ty, pos, after, guard⟩ s = some true) (aa : s.look x = some (aQ jq)) (al : ∀ W, (Op.unary KK jq).run P W = .ok v W) (h1 : v.oneCell' = true) (hd : Nat.blt d s.n = true) (h : bg P ops K rest (s.put (some d) (aQ v))) : bg P ops K (⟨some d, .unOp KK dp x, ty, pos, after, guard⟩ :: rest) s := by
 refine gi (av := aQ v) hw ⟨fun _ _ h => (by cases h), fun z aN => ?_, fun U ad W env he => ⟨v, ?_, ⟨rfl, h1⟩⟩, fun j ae => absurd ae (jf v j)⟩ hd h
 ·simp [Op.operands] at aN; subst aN; exact ⟨_, aa⟩
 ·have aG : env x = jq := (he x (by simp [Op.operands]) _ aa).1;simp only [execOp, aG, Sem.run_bind, al, Result.andThen_ok, Sem.run_pure]
theorem LU {src dst : Nat} {x : Operand} {jq v : Value} (hw : want ops ⟨some d, .convert src dst x, ty, pos, after, guard⟩ s = some true) (aa : s.look x = some (aQ jq)) (al : ∀ W, (convert src dst jq).run P W = .ok v W) (h1 : v.oneCell' = true) (hd : Nat.blt d s.n = true) (h : bg P ops K rest (s.put (some d) (aQ v))) : bg P ops K (⟨some d, .convert src dst x, ty, pos, after, guard⟩ :: rest) s := by
 refine gi (av := aQ v) hw ⟨fun _ _ h => (by cases h), fun z aN => ?_, fun U ad W env he => ⟨v, ?_, ⟨rfl, h1⟩⟩, fun j ae => absurd ae (jf v j)⟩ hd h
 ·simp [Op.operands] at aN; subst aN; exact ⟨_, aa⟩
 ·have aG : env x = jq := (he x (by simp [Op.operands]) _ aa).1;simp only [execOp, aG, Sem.run_bind, al, Result.andThen_ok, Sem.run_pure]
theorem VW {src dst n : Nat} {b : Bool} {k k' : IntKind} {x : Operand} {a c : Int} [S : fq P src b n] [I : Gb P dst k'] (hw : want ops ⟨some d, .convert src dst x, ty, pos, after, guard⟩ s = some true) (aa : s.look x = some (aQ (.int k a))) (aj : k'.wrap a = c) (hd : Nat.blt d s.n = true) (h : bg P ops K rest (s.put (some d) (aQ (.int k' c)))) : bg P ops K (⟨some d, .convert src dst x, ty, pos, after, guard⟩ :: rest) s := by
 refine LU hw aa (fun W => ?_) rfl hd h
 have hs : ∃ D, P.underlying src = some D := by
  have := S.h;unfold kX at this;cases hu : P.underlying src with
  | none => rw [hu] at this; cases this
  | some D => exact ⟨D, rfl⟩
 obtain ⟨D, hs⟩ := hs;unfold convert;simp only [Sem.run_bind, run_underlying hs, run_underlying I.h, Result.andThen_ok];rw [← aj];cases D <;> rfl
theorem Wy {c x y : Operand} {av : ah} (hw : want ops ⟨some d, .pick c x y, ty, pos, after, guard⟩ s = some true) (aj : s.look c = some (a7 true)) (aa : s.look x = some av) {bv : ah} (ai : s.look y = some bv) (hd : Nat.blt d s.n = true) (h : bg P ops K rest (s.put (some d) av)) : bg P ops K (⟨some d, .pick c x y, ty, pos, after, guard⟩ :: rest) s := by
 refine gi hw ⟨fun _ _ h => (by cases h), fun z aN => ?_, fun U ad W env he => ⟨env x, ?_, he x (by simp [Op.operands]) av aa⟩, fun j ae => ⟨x, by simp [Op.operands], av, aa, ae⟩⟩ hd h
 ·simp [Op.operands] at aN;rcases aN with rfl | rfl | rfl
  ·exact ⟨_, aj⟩
  ·exact ⟨_, aa⟩
  ·exact ⟨_, ai⟩
 ·have aG : env c = .bool true := (he c (by simp [Op.operands]) _ aj).1;simp [execOp, aG, asBool]
theorem Wx {c x y : Operand} {av : ah} (hw : want ops ⟨some d, .pick c x y, ty, pos, after, guard⟩ s = some true) (aj : s.look c = some (a7 false)) (aa : s.look y = some av) {bv : ah} (ai : s.look x = some bv) (hd : Nat.blt d s.n = true) (h : bg P ops K rest (s.put (some d) av)) : bg P ops K (⟨some d, .pick c x y, ty, pos, after, guard⟩ :: rest) s := by
 refine gi hw ⟨fun _ _ h => (by cases h), fun z aN => ?_, fun U ad W env he => ⟨env y, ?_, he y (by simp [Op.operands]) av aa⟩, fun j ae => ⟨y, by simp [Op.operands], av, aa, ae⟩⟩ hd h
 ·simp [Op.operands] at aN;rcases aN with rfl | rfl | rfl
  ·exact ⟨_, aj⟩
  ·exact ⟨_, ai⟩
  ·exact ⟨_, aa⟩
 ·have aG : env c = .bool false := (he c (by simp [Op.operands]) _ aj).1;simp [execOp, aG, asBool]
theorem xf {f : FuncId} {g : Operand} {aL : Array TypeId} {l : List Operand} {args : List ah} {r : ah} [E : Enters P f] (hw : want ops ⟨some d, .call ⟨.value g, l.toArray, aL⟩, ty, pos, after, guard⟩ s = some true) (an : s.look g = some (aQ (.func (.func f) #[] #[]))) (aF : l.map s.look = args.map some) (hp : au P f args r) (hd : Nat.blt d s.n = true) (h : bg P ops K rest (s.put (some d) r)) :
  bg P ops K (⟨some d, .call ⟨.value g, l.toArray, aL⟩, ty, pos, after, guard⟩ :: rest) s :=
 rr hw (.call f args r ⟨⟨_, g, rfl, rfl, .inl ⟨[], an, by simpa using aF, rfl⟩⟩, E.h⟩ hp) (kF hd) h
theorem tS {f : FuncId} {g : Operand} {aL : Array TypeId} {l : List Operand} {bs : List Value} {args : List ah} {r : ah} [E : Enters P f] (hw : want ops ⟨some d, .call ⟨.value g, l.toArray, aL⟩, ty, pos, after, guard⟩ s = some true) (an : s.look g = some (aQ (.func (.func f) bs.toArray #[]))) (ab : bs.all CB = true) (aF : l.map s.look = args.map some) (hp : au P f (bs.map yg ++ args) r) (hd : Nat.blt d s.n = true) (h : bg P ops K rest (s.put (some d) r)) :
  bg P ops K (⟨some d, .call ⟨.value g, l.toArray, aL⟩, ty, pos, after, guard⟩ :: rest) s :=
 rr hw (.call f _ r ⟨⟨_, g, rfl, rfl, .inl ⟨bs, an, by rw [List.toList_toArray, aF, qR, List.map_map]; rfl, ab⟩⟩, E.h⟩ hp) (kF hd) h
theorem tR {f : FuncId} {g : Operand} {aL : Array TypeId} {l : List Operand} {cs : List AC} {args : List ah} {r : ah} [E : Enters P f] (hw : want ops ⟨some d, .call ⟨.value g, l.toArray, aL⟩, ty, pos, after, guard⟩ s = some true) (an : s.look g = some (.w (.one (.p (pX (.func f) cs))))) (aF : l.map s.look = args.map some) (hp : au P f (args ++ cs.map fun x => .w (.one x)) r) (hd : Nat.blt d s.n = true) (h : bg P ops K rest (s.put (some d) r)) :
  bg P ops K (⟨some d, .call ⟨.value g, l.toArray, aL⟩, ty, pos, after, guard⟩ :: rest) s :=
 rr hw (.call f _ r ⟨⟨_, g, rfl, rfl, .inr ⟨cs, an, by rw [List.toList_toArray, aF, qR, List.map_map]; rfl⟩⟩, E.h⟩ hp) (kF hd) h
theorem Wn {fn : Fn} {x : Operand} {a : bA} {jq : Value} (hw : want ops ⟨some d, .makeFunc fn #[x] #[], ty, pos, after, guard⟩ s = some true) (aa : s.look x = some (.w a)) (ih : mZ a = some jq) (hd : Nat.blt d s.n = true) (h : bg P ops K rest (s.put (some d) (aQ (.func fn #[jq] #[])))) : bg P ops K (⟨some d, .makeFunc fn #[x] #[], ty, pos, after, guard⟩ :: rest) s := by
 refine gi (av := aQ (.func fn #[jq] #[])) hw ⟨fun _ _ h => (by cases h), fun z aN => ?_, fun U ad W env he => ⟨.func fn #[jq] #[], ?_, ⟨rfl, rfl⟩⟩, fun j ae => absurd ae (jf _ j)⟩ hd h
 ·simp [Op.operands] at aN; subst aN; exact ⟨_, aa⟩
 ·have aG : env x = jq := CW (he x (by simp [Op.operands]) _ aa) ih;have em : (#[x] : Array Operand).map env = #[jq] := by simp [aG]
  simp only [execOp, em, Array.map_empty, Instr.makeFunc, Sem.run_bind, Sem.run_pure, Result.andThen_ok]
theorem LQ {f : FuncId} {g : Operand} {aL : Array TypeId} {r : ah} [E : Enters P f] (hw : want ops ⟨some d, .call ⟨.value g, #[], aL⟩, ty, pos, after, guard⟩ s = some true) (an : s.look g = some (aQ (.func (.func f) #[] #[]))) (hp : au P f [] r) (hd : Nat.blt d s.n = true) (h : bg P ops K rest (s.put (some d) r)) : bg P ops K (⟨some d, .call ⟨.value g, #[], aL⟩, ty, pos, after, guard⟩ :: rest) s :=
 xf (l := []) hw an rfl hp hd h
theorem GG {f : FuncId} {g : Operand} {aL : Array TypeId} {b4 : Operand} {a1 : ah} {r : ah} [E : Enters P f] (hw : want ops ⟨some d, .call ⟨.value g, #[b4], aL⟩, ty, pos, after, guard⟩ s = some true) (an : s.look g = some (aQ (.func (.func f) #[] #[]))) (h1 : s.look b4 = some a1) (hp : au P f [a1] r) (hd : Nat.blt d s.n = true) (h : bg P ops K rest (s.put (some d) r)) : bg P ops K (⟨some d, .call ⟨.value g, #[b4], aL⟩, ty, pos, after, guard⟩ :: rest) s :=
 xf (l := [b4]) hw an (by simp [h1]) hp hd h
theorem GH {f : FuncId} {g : Operand} {aL : Array TypeId} {b4 ck : Operand} {a1 a2 : ah} {r : ah} [E : Enters P f] (hw : want ops ⟨some d, .call ⟨.value g, #[b4, ck], aL⟩, ty, pos, after, guard⟩ s = some true) (an : s.look g = some (aQ (.func (.func f) #[] #[]))) (h1 : s.look b4 = some a1) (h2 : s.look ck = some a2) (hp : au P f [a1, a2] r) (hd : Nat.blt d s.n = true) (h : bg P ops K rest (s.put (some d) r)) : bg P ops K (⟨some d, .call ⟨.value g, #[b4, ck], aL⟩, ty, pos, after, guard⟩ :: rest) s :=
 xf (l := [b4, ck]) hw an (by simp [h1, h2]) hp hd h
theorem GI {f : FuncId} {g : Operand} {aL : Array TypeId} {b4 ck hM : Operand} {a1 a2 a3 : ah} {r : ah} [E : Enters P f] (hw : want ops ⟨some d, .call ⟨.value g, #[b4, ck, hM], aL⟩, ty, pos, after, guard⟩ s = some true) (an : s.look g = some (aQ (.func (.func f) #[] #[]))) (h1 : s.look b4 = some a1) (h2 : s.look ck = some a2) (h3 : s.look hM = some a3) (hp : au P f [a1, a2, a3] r) (hd : Nat.blt d s.n = true) (h : bg P ops K rest (s.put (some d) r)) : bg P ops K (⟨some d, .call ⟨.value g, #[b4, ck, hM], aL⟩, ty, pos, after, guard⟩ :: rest) s :=
 xf (l := [b4, ck, hM]) hw an (by simp [h1, h2, h3]) hp hd h
theorem LR {f : FuncId} {g : Operand} {aL : Array TypeId} {b4 ck hM lO : Operand} {a1 a2 a3 a4 : ah} {r : ah} [E : Enters P f] (hw : want ops ⟨some d, .call ⟨.value g, #[b4, ck, hM, lO], aL⟩, ty, pos, after, guard⟩ s = some true) (an : s.look g = some (aQ (.func (.func f) #[] #[]))) (h1 : s.look b4 = some a1) (h2 : s.look ck = some a2) (h3 : s.look hM = some a3) (aD : s.look lO = some a4) (hp : au P f [a1, a2, a3, a4] r) (hd : Nat.blt d s.n = true) (h : bg P ops K rest (s.put (some d) r)) : bg P ops K (⟨some d, .call ⟨.value g, #[b4, ck, hM, lO], aL⟩, ty, pos, after, guard⟩ :: rest) s :=
 xf (l := [b4, ck, hM, lO]) hw an (by simp [h1, h2, h3, aD]) hp hd h
theorem LS {f : FuncId} {g : Operand} {aL : Array TypeId} {b4 ck hM lO oW : Operand} {a1 a2 a3 a4 a5 : ah} {r : ah} [E : Enters P f] (hw : want ops ⟨some d, .call ⟨.value g, #[b4, ck, hM, lO, oW], aL⟩, ty, pos, after, guard⟩ s = some true) (an : s.look g = some (aQ (.func (.func f) #[] #[]))) (h1 : s.look b4 = some a1) (h2 : s.look ck = some a2) (h3 : s.look hM = some a3) (aD : s.look lO = some a4) (cU : s.look oW = some a5) (hp : au P f [a1, a2, a3, a4, a5] r) (hd : Nat.blt d s.n = true) (h : bg P ops K rest (s.put (some d) r)) : bg P ops K (⟨some d, .call ⟨.value g, #[b4, ck, hM, lO, oW], aL⟩, ty, pos, after, guard⟩ :: rest) s :=
 xf (l := [b4, ck, hM, lO, oW]) hw an (by simp [h1, h2, h3, aD, cU]) hp hd h
def qf (ps : List (Nat × Nat)) : List AC → List (Nat × bA) → Option (List AC)
 | cs, [] => some cs
 | cs, (i, z) :: rest => match ps[i]? with
  | some (off, size) => bif Nat.beq size z.cells.length then match pI cs off z.cells with
    | some r => qf ps r rest
    | none => none
   else none
  | none => none
def nj (look : Operand → Option ah) : List (Nat × Operand) → Option (List (Nat × bA))
 | [] => some []
 | (i, x) :: rest => match look x, nj look rest with
  | some (.w z), some r => some ((i, z) :: r)
  | _, _ => none
theorem NY (off : Nat) : ∀ (zs : List Value) (k : Nat) (nD : Array Value), off + k + zs.length ≤ nD.size → ((zs.zipIdx k).foldl (fun cs (c, j) => cs.setIfInBounds (off + j) c) nD).toList = nD.toList.take (off + k) ++ zs ++ nD.toList.drop (off + k + zs.length)
 | [], k, nD, _ => by simp
 | z :: zs, k, nD, h => by
  simp only [List.zipIdx_cons, pN];rw [NY off zs (k + 1) _ (by simp at h ⊢; omega)];have e := list_seg_step nD.toList (off + k) z zs (by simp at h ⊢; omega);simpa [Array.toList_setIfInBounds, pM] using e
theorem zt {U : Nat → Prop} {ad : Nat → Nat} {W : World} {ps : List (Nat × Nat)} {place : Nat → Option (Nat × Nat)} (hp : ∀ i q, ps[i]? = some q → place i = some q) {look : Operand → Option ah} {env : Operand → Value} : ∀ (parts : List (Nat × Operand)) (cs : List AC) (vs : List Value) (zs : List (Nat × bA)) (r : List AC), bM U ad W cs vs → nj look parts = some zs → (∀ p ∈ parts, ∀ a, look p.2 = some a → de U ad W a (env p.2)) → qf ps cs zs = some r →
  ∃ us : List Value, Instr.fill place vs.toArray (parts.map fun p => (p.1, env p.2)) = some us.toArray ∧ bM U ad W r us
 | [], cs, vs, zs, r, hl, aN, _, ab => by cases aN; cases ab; exact ⟨vs, rfl, hl⟩
 | (i, x) :: parts, cs, vs, zs, r, hl, aN, he, ab => by
  simp only [nj] at aN
  split at aN
  ·rename_i z BM aa al;cases aN;simp only [qf] at ab
   split at ab
   ·rename_i off size xW;cases xH : Nat.beq size z.cells.length with
    | false => rw [xH] at ab; cases ab
    | true =>
     rw [xH] at ab;simp only [cond_true] at ab
     split at ab
     ·rename_i ar Iz;have aN : gh U ad W z (env x) := he (i, x) (by simp) _ aa;have pt := aN.cells;obtain ⟨q1, q2⟩ := A7 _ _ _ _ Iz;have hs := gL xH;have zV : (env x).cells.size = z.cells.length := by have := pt.1; simp at this; exact this.symm
      have OS := hl.1;have mz := hl.eI pt off q1;rw [q2] at mz;obtain ⟨us, g1, g2⟩ := zt hp parts ar _ BM r mz al (fun p nP => he p (by simp [nP])) ab;refine ⟨us, ?_, g2⟩;simp only [jJ, Instr.fill, hp i _ xW];rw [if_neg (by simp [zV, hs]; omega)];rw [← g1];congr 1;apply Array.ext';have := NY off (env x).cells.toList 0 vs.toArray (by simp [zV]; omega);rw [← Array.foldl_toList, Array.toList_zipIdx];simpa using this
     ·cases ab
   ·cases ab
  ·cases aN
theorem Jm {look : Operand → Option ah} : ∀ (parts : List (Nat × Operand)) (zs : List (Nat × bA)), nj look parts = some zs → ∀ p ∈ parts, ∃ z, look p.2 = some (.w z) ∧ (p.1, z) ∈ zs
 | [], _, _, p, hp => by cases hp
 | (i, x) :: parts, zs, h, p, hp => by
  simp only [nj] at h
  split at h
  ·rename_i z BM aa al;cases h;rcases fl.1 hp with rfl | hp
   ·exact ⟨z, aa, by simp⟩
   ·obtain ⟨ajo, h1, h2⟩ := Jm parts BM al p hp;exact ⟨ajo, h1, by simp [h2]⟩
  ·cases h
theorem Qb {look : Operand → Option ah} : ∀ (parts : List (Nat × Operand)) (zs : List (Nat × bA)), nj look parts = some zs → ∀ q ∈ zs, ∃ p ∈ parts, look p.2 = some (.w q.2)
 | [], _, h, q, ak => by cases h; cases ak
 | (i, x) :: parts, zs, h, q, ak => by
  simp only [nj] at h
  split at h
  ·rename_i z BM aa al;cases h;rcases fl.1 ak with rfl | ak
   ·exact ⟨(i, x), by simp, aa⟩
   ·obtain ⟨p, h1, h2⟩ := Qb parts BM al q ak;exact ⟨p, by simp [h1], h2⟩
  ·cases h
theorem agy {cs ds r : List AC} {off : Nat} (h : pI cs off ds = some r) : ∀ x ∈ r, x ∈ cs ∨ x ∈ ds := by
 obtain ⟨_, rfl⟩ := A7 _ _ _ _ h;intro x aa;unfold eI at aa;simp only [h0] at aa;rcases aa with (h1 | h1) | h1
 ·exact .inl (n2 h1)
 ·exact .inr h1
 ·exact .inl (nn h1)
theorem Mx {ps : List (Nat × Nat)} : ∀ (zs : List (Nat × bA)) (cs r : List AC), qf ps cs zs = some r → ∀ x ∈ r, x ∈ cs ∨ ∃ q ∈ zs, x ∈ q.2.cells
 | [], cs, r, h, x, aa => by cases h; exact .inl aa
 | (i, z) :: zs, cs, r, h, x, aa => by
  simp only [qf] at h
  split at h
  ·rename_i off size xW;cases xH : Nat.beq size z.cells.length with
   | false => rw [xH] at h; cases h
   | true =>
    rw [xH] at h;simp only [cond_true] at h
    split at h
    ·rename_i ar Iz;rcases Mx zs ar r h x aa with h1 | ⟨q, h1, h2⟩
     ·rcases agy Iz x h1 with h2 | h2
      ·exact .inl h2
      ·exact .inr ⟨(i, z), by simp, h2⟩
     ·exact .inr ⟨q, by simp [h1], h2⟩
    ·cases h
  ·cases h
theorem Te {α β : Type} {f : α → Sem β} {W : World} : ∀ (l : List α) (vs : List β), l.length = vs.length → (∀ (i : Nat) x v, l[i]? = some x → vs[i]? = some v → (f x).run P W = .ok v W) → (l.mapM f).run P W = .ok vs W
 | [], [], _, _ => rfl
 | [], _ :: _, h, _ => by cases h
 | _ :: _, [], h, _ => by cases h
 | x :: l, v :: vs, hl, h => by
  have aA := h 0 x v rfl rfl;have b9 := Te l vs (by simpa using hl) (fun i x v aa hv => h (i + 1) x v (by simpa using aa) (by simpa using hv));rw [List.mapM_cons];simp only [Sem.run_bind, aA, Result.andThen_ok, b9];rfl
theorem Qf {α β : Type} {f : α → Option β} : ∀ (l : List α) (vs : List β), l.mapM f = some vs → l.length = vs.length ∧ ∀ (i : Nat) x v, l[i]? = some x → vs[i]? = some v → f x = some v
 | [], vs, h => by cases h; exact ⟨rfl, fun i x v aa => by simp at aa⟩
 | a :: l, vs, h => by
  rw [List.mapM_cons] at h;cases aF : f a with
  | none => rw [aF] at h; cases h
  | some b =>
   rw [aF] at h;cases hl : l.mapM f with
   | none => rw [hl] at h; cases h
   | some bs =>
    rw [hl] at h;cases h;obtain ⟨h1, h2⟩ := Qf l bs hl;refine ⟨by simp [h1], fun i x v aa hv => ?_⟩;cases i with
    | zero => simp at aa hv; subst aa; subst hv; exact aF
    | succ i => exact h2 i x v (by simpa using aa) (by simpa using hv)
theorem VU {t : Nat} {parts : List (Nat × Operand)} {vs : List Value} {ps : List (Nat × Nat)} {zs : List (Nat × bA)} {r : List AC} [Z : Ci P t vs] [L : Ll P t ps] (hw : want ops ⟨some d, .build t parts.toArray, ty, pos, after, guard⟩ s = some true) (aN : nj s.look parts = some zs) (ab : qf ps (vs.map .c) zs = some r) (h1 : (vs.all fun v => v.oneCell') = true) (hd : Nat.blt d s.n = true) (h : bg P ops K rest (s.put (some d) (.w (.agg r)))) : bg P ops K (⟨some d, .build t parts.toArray, ty, pos, after, guard⟩ :: rest) s := by
 refine gi (av := .w (.agg r)) hw ⟨fun _ _ h => (by cases h), fun z uB => ?_, fun U ad W env he => ?_, fun j ae => ?_⟩ hd h
 ·simp only [Op.operands, List.mem_toArray, gV] at uB;obtain ⟨p, hp, rfl⟩ := uB;obtain ⟨z, h1, _⟩ := Jm parts zs aN p hp;exact ⟨_, h1⟩
 ·have dY := Z.h;have iq := L.h;unfold zeroOf at dY;unfold E5 at iq;cases hi : P.info? t with
  | none => rw [hi] at dY; cases dY
  | some i =>
   rw [hi] at dY;simp only [kU] at dY;cases hT : i.zero with
   | none => rw [hT] at dY; cases dY
   | some z =>
    rw [hT] at dY;cases dY
    split at iq
    ·rename_i bi hu;obtain ⟨m1, m2⟩ := Qf _ _ iq;have s7 : (zeroValue t).run P W = .ok z W := by simp [zeroValue, typeInfo, program, Sem.run_bind, Sem.run, hi, Result.andThen, hT]
     have rQ : (bi.mapM fun f => (do pure (f.offset, ← sizeOf f.type) : Sem (Nat × Nat))).run P W = .ok ps.toArray W := by
      rw [Array.mapM_eq_mapM_toList]
      have := Te (P := P) (W := W) (f := fun f : Field => (do pure (f.offset, ← sizeOf f.type) : Sem (Nat × Nat))) bi.toList ps m1 (fun j x v aa hv => by
       have := m2 j x v aa hv;cases Ia : P.info? x.type with
       | none => rw [Ia] at this; cases this
       | some eJ =>
        rw [Ia] at this;cases this;simp only [Sem.run_bind, h5 Ia, Result.andThen_ok, Sem.run_pure])
      simp only [map_eq_pure_bind, Sem.run_bind, this, Result.andThen_ok, Sem.run_pure]
     have ki : bM U ad W (z.cells.toList.map .c) z.cells.toList := ⟨by simp, fun j x v aa hv => by
      rw [dL, hv] at aa;cases aa;exact ⟨rfl, cB.1 h1 v (dc hv)⟩⟩
     obtain ⟨us, g1, g2⟩ := zt (U := U) (ad := ad) (W := W) (ps := ps) (place := fun i => ps.toArray[i]?) (fun i q h => by simpa using h) (look := s.look) (env := env) parts _ _ zs r ki aN (fun p hp a aF => he p.2 (by simp only [Op.operands, List.mem_toArray, gV]; exact ⟨p, hp, rfl⟩) a aF) ab;refine ⟨.agg us.toArray, ?_, us, rfl, g2⟩;have uv : (parts.toArray.map fun (i, x) => (i, env x)).toList = parts.map fun p => (p.1, env p.2) := by simp
     have kN : z.cells.toList.toArray = z.cells := by simp
     rw [kN] at g1;simp only [execOp, Instr.build, Sem.run_bind, s7, Result.andThen_ok, run_underlying hu, rQ, uv, g1, Sem.run_pure]
    ·rename_i n el hu;have s7 : (zeroValue t).run P W = .ok z W := by simp [zeroValue, typeInfo, program, Sem.run_bind, Sem.run, hi, Result.andThen, hT]
     have ki : bM U ad W (z.cells.toList.map .c) z.cells.toList := ⟨by simp, fun j x v aa hv => by
      rw [dL, hv] at aa;cases aa;exact ⟨rfl, cB.1 h1 v (dc hv)⟩⟩
     cases aw : Nat.ble n 32 with
     | false => rw [aw] at iq; cases iq
     | true =>
      rw [aw] at iq;simp only [cond_true] at iq;cases H9 : P.info? el with
      | none => rw [H9] at iq; cases iq
      | some eJ =>
       rw [H9] at iq;simp only [hr, iT] at iq
       obtain ⟨us, g1, g2⟩ := zt (U := U) (ad := ad) (W := W) (ps := ps) (place := fun i => some (i * eJ.size, eJ.size)) (fun i q h => by
        rw [← iq, dL] at h;rcases gK i n with bb | jR
        ·rw [bN (by simpa using bb)] at h;simpa using h
        ·rw [lJ (by simpa using jR)] at h;cases h) (look := s.look) (env := env) parts _ _ zs r ki aN (fun p hp a aF => he p.2 (by simp only [Op.operands, List.mem_toArray, gV]; exact ⟨p, hp, rfl⟩) a aF) ab
       refine ⟨.agg us.toArray, ?_, us, rfl, g2⟩;have uv : (parts.toArray.map fun (i, x) => (i, env x)).toList = parts.map fun p => (p.1, env p.2) := by simp
       have kN : z.cells.toList.toArray = z.cells := by simp
       rw [kN] at g1;simp only [execOp, Instr.build, Sem.run_bind, s7, Result.andThen_ok, run_underlying hu, h5 H9, uv, g1, Sem.run_pure]
    ·cases iq
 ·obtain ⟨y, ai, mB⟩ := ae;rcases Mx zs _ r ab y ai with h2 | ⟨q, h2, h3⟩
  ·obtain ⟨v, _, rfl⟩ := gV.1 h2; cases mB
  ·obtain ⟨p, hp, hl⟩ := Qb parts zs aN q h2;exact ⟨p.2, by simp only [Op.operands, List.mem_toArray, gV]; exact ⟨p, hp, rfl⟩, _, hl, ⟨y, h3, mB⟩⟩
theorem LP {GS : Builtin} {aL : Array TypeId} {x y : Operand} {jq fw v : Value} (hw : want ops ⟨some d, .call ⟨.builtin GS, #[x, y], aL⟩, ty, pos, after, guard⟩ s = some true) (aa : s.look x = some (aQ jq)) (ai : s.look y = some (aQ fw)) (al : ∀ cs W, (builtin GS aL ty cs #[jq, fw]).run P W = .ok (.value v) W) (h1 : v.oneCell' = true) (hd : Nat.blt d s.n = true) (h : bg P ops K rest (s.put (some d) (aQ v))) : bg P ops K (⟨some d, .call ⟨.builtin GS, #[x, y], aL⟩, ty, pos, after, guard⟩ :: rest) s := by
 refine gi (av := aQ v) hw ⟨fun _ _ h => (by cases h), fun z aN => ?_, fun U ad W env he => ⟨v, ?_, ⟨rfl, h1⟩⟩, fun j ae => absurd ae (jf v j)⟩ hd h
 ·simp [Op.operands, Call.operands] at aN;rcases aN with rfl | rfl
  ·exact ⟨_, aa⟩
  ·exact ⟨_, ai⟩
 ·have aG : env x = jq := (he x (by simp [Op.operands, Call.operands]) _ aa).1;have aO : env y = fw := (he y (by simp [Op.operands, Call.operands]) _ ai).1;have em : (#[x, y] : Array Operand).map env = #[jq, fw] := by simp [aG, aO]
  simp only [execOp, resolve, em, Sem.run_bind, Sem.run_pure, Result.andThen_ok, invoke, al]
theorem Wl {aL : Array TypeId} {x y : Operand} {k : IntKind} {a b : Int} (hw : want ops ⟨some d, .call ⟨.builtin .min, #[x, y], aL⟩, ty, pos, after, guard⟩ s = some true) (aa : s.look x = some (aQ (.int k a))) (ai : s.look y = some (aQ (.int k b))) (hd : Nat.blt d s.n = true) (h : bg P ops K rest (s.put (some d) (aQ (.int k (if b < a then b else a))))) : bg P ops K (⟨some d, .call ⟨.builtin .min, #[x, y], aL⟩, ty, pos, after, guard⟩ :: rest) s :=
 LP hw aa ai (fun cs W => by go_simp; all_goals (first | rfl | (split <;> omega))) rfl hd h
theorem Wk {aL : Array TypeId} {x y : Operand} {k : IntKind} {a b : Int} (hw : want ops ⟨some d, .call ⟨.builtin .max, #[x, y], aL⟩, ty, pos, after, guard⟩ s = some true) (aa : s.look x = some (aQ (.int k a))) (ai : s.look y = some (aQ (.int k b))) (hd : Nat.blt d s.n = true) (h : bg P ops K rest (s.put (some d) (aQ (.int k (if b > a then b else a))))) : bg P ops K (⟨some d, .call ⟨.builtin .max, #[x, y], aL⟩, ty, pos, after, guard⟩ :: rest) s :=
 LP hw aa ai (fun cs W => by go_simp; all_goals (first | rfl | (split <;> omega))) rfl hd h
theorem VV {t : Nat} {b : Bool} {l : List Oper} (hs : s.tmps t = some (a7 b)) (h1 : b = true → bg P ops K l (s.put (some t) (a7 true))) (aA : b = false → bg P ops K l (s.put (some t) (a7 false))) : bg P ops K l s := by
 have same : ∀ c, b = c → s.put (some t) (a7 c) = s := fun c e => by
  subst e;simp only [aC.put];congr 1;funext j
  by_cases ae : j = t
  ·subst ae; rw [cF, hs]
  ·rw [ct _ _ ae]
 cases b with
 | true => rw [← same true rfl]; exact h1 rfl
 | false => rw [← same false rfl]; exact aA rfl
end
theorem aJ : ([] : List ResultVar).map (jl P s) = ([] : List bA).map some := rfl
theorem aY {t : Nat} {x : bA} {l : List ResultVar} {xs : List bA} (h : s.tmps t = some (.w x)) (hl : l.map (jl P s) = xs.map some) : (ResultVar.tmp t :: l).map (jl P s) = (x :: xs).map some := by
 simp only [jJ, hl]; rw [show jl P s (.tmp t) = some x by simp only [jl, h]]
theorem cD {a ty k off n : Nat} [T : fq P ty true n] {cs aU : List AC} {l : List ResultVar} {xs : List bA} (h : s.tmps a = some (fQ k off)) (hm : s.mem k = some cs) (aj : takeN cs off n = some aU) (hl : l.map (jl P s) = xs.map some) : (ResultVar.cell a ty :: l).map (jl P s) = (.agg aU :: xs).map some := by
 simp only [jJ, hl]; rw [show jl P s (.cell a ty) = some (.agg aU) by simp only [jl, h, hm, kU, TN T.h aj]]
theorem aW {fn : Func} {l : List ResultVar} {xs : List bA} {r : ah} (al : fn.results = l.toArray) (h : l.map (jl P s) = xs.map some) (hle : (packed xs).aK r) : zd P fn r .ret s := ⟨xs, by rw [al]; exact h, hle⟩
theorem aga {f : FuncId} {args : List ah} {r : ah} {jM : List Value} (he : args.map (fun x => match x with | .w y => mZ y | _ => none) = jM.map some) (j9 : ∀ x ∈ args, x.closed) (bW : r.closed)
  (h : ∀ W, Calls P f jM.toArray W fun e bk => ∃ v, e = .returned v ∧ (∀ U, (∀ b, W.heap.size ≤ b → U b) → de U id bk r v) ∧ Below W.heap.size W bk) : au P f args r := by
 refine ⟨j9, bW, fun U W vs cW => ?_⟩
 have e : vs = jM := by
  apply List.ext_getElem?;intro i;have hl := cW.1;have nN : args.length = jM.length := by have := congrArg List.length he; simpa using this
  rcases gK i args.length with hi | hi
  ·have h1 : (args.map (fun x => match x with | .w y => mZ y | _ => none))[i]? = (jM.map some)[i]? := by rw [he]
   rw [dL, dL, bN hi, bN (by omega : i < jM.length)] at h1;simp only [hr, iT] at h1;rw [bN (by omega : i < vs.length), bN (by omega : i < jM.length)];have h2 := cW.2 i args[i] vs[i] (bN hi) (bN (by omega));cases aa : args[i] with
   | w y =>
    rw [aa] at h1 h2;rw [CW h2 h1]
   | cz xs => rw [aa] at h1; cases h1
  ·rw [lJ (by omega), lJ (by omega)]
 subst e;refine (h W).mono ?_;rintro e bk ⟨v, h1, h2, h3⟩;exact ⟨v, h1, h2 _ fun b ab => .inr ab, h3⟩
def AC.aZ : AC → Bool
 | .own _ _ => false
 | _ => true
def bA.aZ : bA → Bool
 | .one x => x.aZ
 | .agg xs => xs.all AC.aZ
def ah.aZ : ah → Bool
 | .w x => x.aZ
 | .cz xs => xs.all bA.aZ
theorem AC.dC {x : AC} (h : x.aZ = true) (j : Nat) : ¬ x.owns j := by cases x <;> simp_all [AC.aZ, AC.owns]
theorem bA.dC {x : bA} (h : x.aZ = true) (j : Nat) : ¬ x.owns j := by
 rintro ⟨y, ai, ae⟩;cases x with
 | one z => simp [bA.cells] at ai; subst ai; exact AC.dC h j ae
 | agg xs => exact AC.dC (cB.1 h y ai) j ae
theorem ah.dC {x : ah} (h : x.aZ = true) : x.closed := fun j => by
 cases x with
 | w y => exact bA.dC h j
 | cz xs => rintro ⟨y, ai, ae⟩; exact bA.dC (cB.1 h y ai) j ae
theorem bd {f : FuncId} {fn : Func} {c : Code} {args : List ah} {r : ah} (ap : P.funcs[f]? = some fn) (ab : fn.body = some c) (aw : Nat.ble args.length fn.ntmps = true) (j9 : args.all ah.aZ = true) (bW : r.aZ = true)
  (h : fg P c (zd P fn r) (start fn.ntmps args)) : au P f args r :=
 agc ap ab (by simpa [Nat.ble_eq] using aw) (fun x aa => ah.dC (cB.1 j9 x aa)) (ah.dC bW) h
theorem af9 {f : FuncId} {fn : Func} {c : Code} {args : List ah} {r : ah} (ap : P.funcs[f]? = some fn) (ab : fn.body = some c) (aw : Nat.ble args.length fn.ntmps = true) (j9 : args.all ah.aZ = true) (bW : r.aZ = true)
  (h : tG P c (zd P fn r) (start fn.ntmps args)) : au P f args r :=
 R7 ap ab (by simpa [Nat.ble_eq] using aw) (fun x aa => ah.dC (cB.1 j9 x aa)) (ah.dC bW) h
theorem J2 {f : FuncId} {args : List ah} {r : ah} (jM : List Value) (he : args.map (fun x => match x with | .w y => mZ y | _ => none) = jM.map some) (j9 : args.all ah.aZ = true) (bW : r.aZ = true)
  (h : ∀ W, Calls P f jM.toArray W fun e bk => ∃ v, e = .returned v ∧ (∀ U, (∀ b, W.heap.size ≤ b → U b) → de U id bk r v) ∧ Below W.heap.size W bk) : au P f args r :=
 aga he (fun x aa => ah.dC (cB.1 j9 x aa)) (ah.dC bW) h
theorem L7 {next : aC → Prop} {Q : Exit → aC → Prop} (h : next s) : sC next Q .normal s := h
theorem WQ {next : aC → Prop} {Q : Exit → aC → Prop} {id : Nat} (h : Q (.exit id) s) : sC next Q (.exit id) s := h
theorem WR {next : aC → Prop} {Q : Exit → aC → Prop} (h : Q .ret s) : sC next Q .ret s := h
theorem Vz {Q : Exit → aC → Prop} {id : Nat} (h : Q .normal s) : xe id Q .normal s := h
theorem VA {Q : Exit → aC → Prop} {id : Nat} (h : Q .ret s) : xe id Q .ret s := h
theorem VB {Q : Exit → aC → Prop} {id : Nat} (h : Q .normal s) : xe id Q (.exit id) s := by simp only [xe, Nat.beq_refl, cond_true]; exact h
theorem bP {dst : Option Nat} {op : Op} {ty : Nat} {pos : String} {after : Array Edge} {g t : Nat} {b Mn c : Bool} (hd : (ops[g]?).bind (·.dst) = some t) (hs : s.tmps t = some (a7 Mn)) (ab : Mn = c)
  (h1 : bg P ops K (⟨dst, op, ty, pos, after, some (g, b)⟩ :: rest) (s.put (some t) (a7 c))) : bg P ops K (⟨dst, op, ty, pos, after, some (g, b)⟩ :: rest) s := by
 subst ab;exact VV hs (fun e => by subst e; exact h1) (fun e => by subst e; exact h1)
theorem Mb {c : Operand} {t u : Bool} {x y : Code} {Q : Exit → aC → Prop} (aj : s.look c = some (a7 t)) (aB : t = u) (h : fg P (bif u then x else y) Q s) : fg P (.cond c x y) Q s := by
 subst aB;cases t with
 | true => exact Md aj h
 | false => exact Mc aj h
theorem WU {c : Operand} {t : Bool} {x y : Code} {Q : Exit → aC → Prop} (aj : s.look c = some (a7 t)) (aB : t = true) (h : fg P x Q s) : fg P (.cond c x y) Q s := Mb aj aB h
theorem Ma {c : Operand} {t : Bool} {x y : Code} {Q : Exit → aC → Prop} (aj : s.look c = some (a7 t)) (aB : t = false) (h : fg P y Q s) : fg P (.cond c x y) Q s := Mb aj aB h
end
abbrev aE (x y : Int) : ah := .w (.agg [.c (.int .i64 x), .c (.int .i64 y)])
def Hp (w : World) : AC → Value → Nat → Prop
 | .p R, x, b => R.lu w x b
 | _, _, _ => False
theorem y7 (a : Addr) (m j : Nat) : (a.add m).add j = a.add (m + j) := by
 unfold Addr.add
 by_cases h1 : m = 0 <;> by_cases h2 : j = 0 <;> simp [h1, h2, pM]
theorem block_add (a : Addr) (m : Nat) : (a.add m).block = a.block := by unfold Addr.add; split <;> rfl
structure lh (w : World) (a : Addr) (xs : List AC) (vs : List Value) : Prop where
 lt : a.block < w.heap.size
 lL : bM (fun _ => True) id w xs vs
 at_ : ∀ (j : Nat) v, vs[j]? = some v → w.cell? (a.add j) = some v
 qh : ∀ y ∈ xs, y.aZ = true
def nF (w : World) (a : Addr) (xs : List AC) (b : Nat) : Prop := a.block = b ∨ ∃ (j : Nat) (y : AC) (v : Value), xs[j]? = some y ∧ w.cell? (a.add j) = some v ∧ Hp w y v b
theorem lh.frame {w w' : World} {a : Addr} {xs : List AC} {vs : List Value} (h : lh w a xs vs) (ap : ∀ b, nF w a xs b → w'.heap[b]? = w.heap[b]?) : lh w' a xs vs ∧ ∀ b, nF w' a xs b → nF w a xs b := by
 have ab : w'.heap[a.block]? = w.heap[a.block]? := ap _ (.inl rfl);have aj : ∀ j, w'.cell? (a.add j) = w.cell? (a.add j) := fun j => World.cell?_of_block (w := w) (by rw [block_add]; exact ab)
 have key : ∀ (j : Nat) (y : AC) (v : Value), xs[j]? = some y → w.cell? (a.add j) = some v → gx (fun _ => True) id w y v → gx (fun _ => True) id w' y v ∧ ∀ b, Hp w' y v b → Hp w y v b := by
  intro j y v ai hv al;cases y with
  | c u => exact ⟨al, fun b h => h⟩
  | own k o => exact ⟨al, fun b h => h⟩
  | p R =>
   have := R.frame w w' v al.1 fun b ab => ap b (.inr ⟨j, _, v, ai, hv, ab⟩);exact ⟨⟨this.1, fun _ _ => trivial⟩, this.2⟩
 refine ⟨⟨?_, ⟨h.lL.1, fun i y v ai hv => (key i y v ai (h.at_ i v hv) (h.lL.2 i y v ai hv)).1⟩, fun j v hv => by rw [aj]; exact h.at_ j v hv, h.qh⟩, ?_⟩
 ·have cU := Array.getElem?_eq_getElem h.lt;exact (j2.1 (ab.trans cU)).1
 ·rintro b (h1 | ⟨j, y, v, ai, hv, gl⟩)
  ·exact .inl h1
  ·rw [aj] at hv;have bb : j < vs.length := by rw [← h.lL.1]; exact (bL.1 ai).1
   have h2 := h.at_ j _ (bN bb);rw [hv] at h2;cases h2;exact .inr ⟨j, y, _, ai, hv, (key j y _ ai hv (h.lL.2 j y _ ai (bN bb))).2 b gl⟩
theorem lh.iR {w : World} {a : Addr} {xs : List AC} {vs : List Value} {b : Nat} (h : lh w a xs vs) (ap : nF w a xs b) : b < w.heap.size := by
 rcases ap with rfl | ⟨j, y, v, ai, hv, gl⟩
 ·exact h.lt
 ·have bb : j < vs.length := by rw [← h.lL.1]; exact (bL.1 ai).1
  have h2 := h.at_ j _ (bN bb);rw [hv] at h2;cases h2;have := h.lL.2 j y _ ai (bN bb);cases y with
  | c u => cases gl
  | own k o => cases gl
  | p R => exact R.iR _ _ _ this.1 gl
theorem lh.sub {w : World} {a : Addr} {xs : List AC} {vs : List Value} (h : lh w a xs vs) (off n : Nat) : lh w (a.add off) ((xs.drop off).take n) ((vs.drop off).take n) := by
 refine ⟨by rw [block_add]; exact h.lt, h.lL.sub off n, fun j v hv => ?_, fun y ai => h.qh y (nn (n2 ai))⟩;rw [y7]
 have ae : j < n := by
  have := (bL.1 hv).1;simp at this; omega
 rw [fJ ae, fY] at hv;exact h.at_ _ v hv
theorem nF.sub {w : World} {a : Addr} {xs : List AC} {off n b : Nat} (h : nF w (a.add off) ((xs.drop off).take n) b) : nF w a xs b := by
 rcases h with h | ⟨j, y, v, ai, hv, gl⟩
 ·rw [block_add] at h; exact .inl h
 ·rw [y7] at hv
  have ae : j < n := by
   have := (bL.1 ai).1;simp at this; omega
  rw [fJ ae, fY] at ai;exact .inr ⟨_, y, v, ai, hv, gl⟩
theorem lh.Ki {w : World} {a : Addr} {xs : List AC} {vs : List Value} {U : Nat → Prop} {ad : Nat → Nat} (h : lh w a xs vs) (dx : ∀ b, nF w a xs b → U b) : bM U ad w xs vs := by
 refine ⟨h.lL.1, fun i y v ai hv => ?_⟩;have h1 := h.lL.2 i y v ai hv;have h2 := h.qh y (dc ai);cases y with
 | c u => exact h1
 | own k o => cases h2
 | p R => exact ⟨h1.1, fun b ab => dx b (.inr ⟨i, _, v, ai, h.at_ i v hv, ab⟩)⟩
def Gj (xs : List AC) : e4 where
 holds w v := ∃ a vs, v = .pointer (some a) ∧ lh w a xs vs
 lu w v b := ∃ a, v = .pointer (some a) ∧ nF w a xs b
 frame w w' v := by
  rintro ⟨a, vs, rfl, h⟩ ap;obtain ⟨h1, h2⟩ := h.frame fun b ab => ap b ⟨a, rfl, ab⟩;exact ⟨⟨a, vs, rfl, h1⟩, fun b ⟨a', e, ab⟩ => by cases e; exact ⟨a, rfl, h2 b ab⟩⟩
 iR w v b := by
  rintro ⟨a, vs, rfl, h⟩ ⟨a', e, ab⟩;cases e;exact h.iR ab
 cell w v := by rintro ⟨a, vs, rfl, h⟩; rfl
def cM (sz n : Nat) (xs : List AC) : e4 where
 holds w v := ∃ A c, v = .slice A n c ∧ n ≤ c ∧ xs.length = n * sz ∧ (0 < n → ∃ a vs, A = some a ∧ lh w a xs vs)
 lu w v b := ∃ c a, v = .slice (some a) n c ∧ 0 < n ∧ nF w a xs b
 frame w w' v := by
  rintro ⟨A, c, rfl, aj, hl, h⟩ ap;refine ⟨⟨A, c, rfl, aj, hl, fun aw => ?_⟩, ?_⟩
  ·obtain ⟨a, vs, rfl, aM⟩ := h aw;exact ⟨a, vs, rfl, (aM.frame fun b ab => ap b ⟨c, a, rfl, aw, ab⟩).1⟩
  ·rintro b ⟨c', a', e, aw, ab⟩;cases e;obtain ⟨a, vs, e, aM⟩ := h aw;cases e;exact ⟨c, a', rfl, aw, (aM.frame fun b ab => ap b ⟨c, a', rfl, aw, ab⟩).2 b ab⟩
 iR w v b := by
  rintro ⟨A, c, rfl, aj, hl, h⟩ ⟨c', a', e, aw, ab⟩;cases e;obtain ⟨a, vs, e, aM⟩ := h aw;cases e;exact aM.iR ab
 cell w v := by rintro ⟨A, c, rfl, _⟩; rfl
abbrev cK (sz n : Nat) (xs : List AC) : ah := .w (.one (.p (cM sz n xs)))
abbrev BF (xs : List AC) : ah := .w (.one (.p (Gj xs)))
theorem lF (R : e4) (j : Nat) : ¬ (ah.w (.one (.p R))).owns j := fun ⟨y, ai, h⟩ => by simp [bA.cells] at ai; subst ai; cases h
section
variable {P : Program} {s : aC} {o : Oper} {ops : Array Oper} {K : aC → Prop} {rest : List Oper} {op : Op} {ty : Nat} {pos : String} {after : Array Edge} {guard : Option (Nat × Bool)} {d : Nat}
theorem GJ {av : ah} (hw : want ops ⟨some d, op, ty, pos, after, guard⟩ s = some true) (ak : w5 P s.look ⟨some d, op, ty, pos, after, guard⟩ av) (hd : Nat.blt d s.n = true) (h : bg P ops K rest (s.put (some d) av)) : bg P ops K (⟨some d, op, ty, pos, after, guard⟩ :: rest) s :=
 rr (e := ⟨av, none⟩) hw (.fresh av ak) (kF hd) h
theorem nu {t sz : Nat} (h : tB P t = some sz) : ∃ e i, P.underlying t = some (.slice e) ∧ P.info? e = some i ∧ i.size = sz := by
 unfold tB at h
 split at h
 ·rename_i e hu;cases hi : P.info? e with
  | none => rw [hi] at h; cases h
  | some i => rw [hi] at h; cases h; exact ⟨e, i, hu, hi, rfl⟩
 ·cases h
theorem k3 {t e : Nat} (h : P.underlying t = some (.slice e)) : P.elem t = e := by simp [Program.elem, h]
theorem LX {t sz aiE n : Nat} {xs : List AC} {x : Operand} [S : ib P t aiE] (hw : want ops ⟨some d, .call ⟨.builtin .len, #[x], #[t]⟩, ty, pos, after, guard⟩ s = some true) (aa : s.look x = some (cK sz n xs)) (hd : Nat.blt d s.n = true)
  (h : bg P ops K rest (s.put (some d) (ax n))) : bg P ops K (⟨some d, .call ⟨.builtin .len, #[x], #[t]⟩, ty, pos, after, guard⟩ :: rest) s := by
 refine gi (av := ax n) hw ⟨fun _ _ h => (by cases h), fun y ai => ?_, fun U ad W env he => ⟨.int .i64 n, ?_, rfl, rfl⟩, fun j ae => absurd ae (jf _ j)⟩ hd h
 ·simp [Op.operands, Call.operands] at ai;subst ai;exact ⟨_, aa⟩
 ·obtain ⟨⟨A, c, aG, _⟩, _⟩ := he x (by simp [Op.operands, Call.operands]) _ aa;obtain ⟨e, i, hu, hi, _⟩ := nu S.h;have fc : P.underlying t = some (.slice (P.elem t)) := by rw [k3 hu]; exact hu
  have em : (#[x] : Array Operand).map env = #[.slice A n c] := by simp [aG]
  simp only [execOp, resolve, em, Sem.run_bind, Sem.run_pure, Result.andThen_ok, invoke, builtin];rw [run_len_slice W t ty A n c fc];rfl
theorem Wb {x y : Operand} {t sz n : Nat} {hn : IntKind} {i : Int} {xs aU : List AC} [S : ib P t sz] (hw : want ops ⟨some d, .indexAddr t x y, ty, pos, after, guard⟩ s = some true) (aa : s.look x = some (cK sz n xs)) (ai : s.look y = some (aQ (.int hn i))) (aA : 0 ≤ i) (h1 : i < n)
  (he : (xs.drop (i.toNat * sz)).take sz = aU) (hd : Nat.blt d s.n = true) (h : bg P ops K rest (s.put (some d) (BF aU))) : bg P ops K (⟨some d, .indexAddr t x y, ty, pos, after, guard⟩ :: rest) s := by
 subst he;refine gi hw ⟨fun _ _ h => (by cases h), fun z aN => ?_, fun U ad W env he => ?_, fun j ae => absurd ae (lF _ j)⟩ hd h
 ·simp [Op.operands] at aN;rcases aN with rfl | rfl
  ·exact ⟨_, aa⟩
  ·exact ⟨_, ai⟩
 ·obtain ⟨⟨A, c, aG, aj, hl, dn⟩, dx⟩ := he x (by simp [Op.operands]) _ aa;have hi : env y = .int hn i := (he y (by simp [Op.operands]) _ ai).1;obtain ⟨e, eJ, hu, da, hs⟩ := nu S.h;obtain ⟨a, vs, rfl, eb⟩ := dn (by omega);refine ⟨.pointer (some (a.add (i.toNat * sz))), ?_, ⟨_, _, rfl, eb.sub _ _⟩, ?_⟩
  ·simp only [execOp, Instr.indexAt, aG, hi, asIntOf, Sem.run_bind, Sem.run_pure, Result.andThen_ok, run_underlying hu, h5 da, if_pos (And.intro aA h1), hs]
  ·rintro b ⟨a', e, ab⟩;cases e;exact dx b ⟨c, a, aG, by omega, ab.sub⟩
theorem V7 {x : Operand} {qY i iK : Nat} {xs : List AC} [F : nx P qY i iK] (hw : want ops ⟨some d, .fieldAddr qY x i, ty, pos, after, guard⟩ s = some true) (aa : s.look x = some (BF xs)) (hd : Nat.blt d s.n = true) (h : bg P ops K rest (s.put (some d) (BF (xs.drop iK)))) : bg P ops K (⟨some d, .fieldAddr qY x i, ty, pos, after, guard⟩ :: rest) s := by
 refine gi hw ⟨fun _ _ h => (by cases h), fun y ai => ?_, fun U ad W env he => ?_, fun j ae => absurd ae (lF _ j)⟩ hd h
 ·simp [Op.operands] at ai;subst ai;exact ⟨_, aa⟩
 ·obtain ⟨⟨a, vs, aG, eb⟩, dx⟩ := he x (by simp [Op.operands]) _ aa;have hF := F.h;unfold ud at hF
  split at hF
  ·rename_i bi hu;cases ap : bi[i]? with
   | none => rw [ap] at hF; cases hF
   | some f =>
    rw [ap] at hF;simp only [kU] at hF;cases hi : P.info? f.type with
    | none => rw [hi] at hF; cases hF
    | some t =>
     rw [hi] at hF;simp only [kU] at hF
     split at hF
     ·cases hF
     ·rename_i b7;cases hF;have Ao := eb.sub f.offset xs.length;rw [h4 (by simp), h4 (by have := eb.lL.1; simp; omega)] at Ao;refine ⟨.pointer (some (a.add f.offset)), ?_, ⟨_, _, rfl, Ao⟩, ?_⟩
      ·simp only [execOp, Instr.fieldAt, aG, Instr.sureAddr, Sem.run_bind, Sem.run_pure, Result.andThen_ok, run_underlying hu, ap, fieldPlace, h5 hi, if_neg b7]
      ·rintro b ⟨a', e, ab⟩;cases e;refine dx b ⟨a, aG, nF.sub (off := f.offset) (n := xs.length) ?_⟩;rw [h4 (by simp)];exact ab
  ·cases hF
theorem Wh {x : Operand} {lt n : Nat} {xs : List AC} {y : AC} [T : fq P lt false n] (hw : want ops ⟨some d, .load lt x, ty, pos, after, guard⟩ s = some true) (aa : s.look x = some (BF xs)) (aj : xs[0]? = some y) (c4 : y.aZ = true) (hd : Nat.blt d s.n = true) (h : bg P ops K rest (s.put (some d) (.w (.one y)))) : bg P ops K (⟨some d, .load lt x, ty, pos, after, guard⟩ :: rest) s := by
 refine gi hw ⟨fun _ _ h => (by cases h), fun y ai => ?_, fun U ad W env he => ?_, fun j ae => ?_⟩ hd h
 ·simp [Op.operands] at ai;subst ai;exact ⟨_, aa⟩
 ·obtain ⟨⟨a, vs, aG, eb⟩, dx⟩ := he x (by simp [Op.operands]) _ aa;have al := eb.Ki (U := U) (ad := ad) fun b ab => dx b ⟨a, aG, ab⟩;have bb : 0 < vs.length := by rw [← al.1]; exact (bL.1 aj).1
  have hv := bN bb;refine ⟨_, ?_, al.2 0 y _ aj hv⟩;have cH := T.h;have jQ : W.cell? a = some vs[0] := eb.at_ 0 _ hv;unfold kX at cH;cases hu : P.underlying lt with
  | none => rw [hu] at cH; cases cH
  | some D =>
   have key : (loadVar lt a).run P W = .ok vs[0] W := by
    refine Km hu (fun bi e => ?_) (fun m bm e => ?_) jQ
    ·subst e;cases hi : P.info? lt with
     | none => simp [hu, hi] at cH
     | some eJ => simp [hu, hi] at cH
    ·subst e;cases hi : P.info? lt with
     | none => simp [hu, hi] at cH
     | some eJ => simp [hu, hi] at cH
   simp only [execOp, Instr.loadAt, aG, Instr.sureAddr, Sem.run_bind, Sem.run_pure, Result.andThen_ok, key]
 ·exact absurd ae (ah.dC (x := .w (.one y)) c4 j)
theorem Wi {x : Operand} {lt n : Nat} {xs aU : List AC} [T : fq P lt true n] (hw : want ops ⟨some d, .load lt x, ty, pos, after, guard⟩ s = some true) (aa : s.look x = some (BF xs)) (aj : takeN xs 0 n = some aU) (c4 : (bA.agg aU).aZ = true) (hd : Nat.blt d s.n = true) (h : bg P ops K rest (s.put (some d) (.w (.agg aU)))) : bg P ops K (⟨some d, .load lt x, ty, pos, after, guard⟩ :: rest) s := by
 refine gi hw ⟨fun _ _ h => (by cases h), fun y ai => ?_, fun U ad W env he => ?_, fun j ae => ?_⟩ hd h
 ·simp [Op.operands] at ai;subst ai;exact ⟨_, aa⟩
 ·obtain ⟨⟨a, vs, aG, eb⟩, dx⟩ := he x (by simp [Op.operands]) _ aa;obtain ⟨q1, q2⟩ := FK _ _ _ _ aj;have Ao := eb.sub 0 n;have al := Ao.Ki (U := U) (ad := ad) fun b ab => dx b ⟨a, aG, nF.sub ab⟩;rw [q2] at al;have aF : a.add 0 = a := rfl;refine ⟨.agg ((vs.drop 0).take n).toArray, ?_, _, rfl, al⟩;have cH := T.h;unfold kX at cH;have hlen : ((vs.drop 0).take n).length = n := by have := eb.lL.1; simp; omega
  have jQ := Ao.at_;rw [aF] at jQ;cases hu : P.underlying lt with
  | none => rw [hu] at cH; cases cH
  | some D =>
   cases hi : P.info? lt with
   | none => rw [hu, hi] at cH; cases D <;> cases cH
   | some eJ =>
    rw [hu, hi] at cH;have key : ((∃ bi, D = .struct bi) ∨ ∃ n e, D = .array n e) ∧ eJ.size = n := by cases D <;> simp at cH <;> simp [cH]
    have := Kl (P := P) (w := W) (A := a) hu key.1 hi (by rw [hlen, key.2]) jQ;simp only [execOp, Instr.loadAt, aG, Instr.sureAddr, Sem.run_bind, Sem.run_pure, Result.andThen_ok, this]
 ·exact absurd ae (ah.dC (x := .w (.agg aU)) c4 j)
def yv (P : Program) (t : TypeId) : Option (List Value) :=
 match P.underlying t with
 | some (.slice e) => zeroOf P e
 | _ => none
class nC (P : Program) (t : TypeId) (vs : outParam (List Value)) : Prop where
 h : yv P t = some vs
def h8 (n sz : Nat) (vs : List Value) : List AC := (List.range (n * sz)).map fun j => .c (vs.toArray[j % vs.length]!)
def wM (n sz : Nat) : List (Nat × Nat) := (List.range n).map fun i => (i * sz, sz)
theorem WK {w : World} {tx : List AC} {us : List Value} {ty : TypeId} {U : Nat → Prop} {ad : Nat → Nat} (h : bM U ad w tx us) (c4 : ∀ y ∈ tx, y.aZ = true) : lh (w.alloc (.cells us.toArray ty)) ⟨w.heap.size, 0, none⟩ tx us := by
 refine ⟨by show w.heap.size < (w.heap.push _).size; simp, ⟨h.1, fun i y v ai hv => ?_⟩, fun j v hv => ?_, c4⟩
 ·refine (h.2 i y v ai hv).map (fun b ab hl => ⟨trivial, Below.heap_alloc _ _ _ hl⟩) fun j ae => ?_;exact absurd ae (AC.dC (c4 y (dc ai)) j)
 ·have k6 : (⟨w.heap.size, 0, none⟩ : Addr).add j = ⟨w.heap.size, j, none⟩ := by unfold Addr.add; split <;> simp_all
  rw [k6];have : (w.alloc (.cells us.toArray ty)).heap[w.heap.size]? = some (.cells us.toArray ty (0, 0)) := by show (w.heap.push _)[w.heap.size]? = _; simp
  simp only [World.cell?, this];simpa using hv
theorem WL {w : World} {tx : List AC} {us : List Value} {ty : TypeId} {U : Nat → Prop} {ad : Nat → Nat} {b : Nat} (h : bM U ad w tx us) (ap : nF (w.alloc (.cells us.toArray ty)) ⟨w.heap.size, 0, none⟩ tx b) : U b ∨ w.heap.size ≤ b := by
 rcases ap with rfl | ⟨j, y, v, ai, hv, gl⟩
 ·exact .inr (dI _)
 ·have k6 : (⟨w.heap.size, 0, none⟩ : Addr).add j = ⟨w.heap.size, j, none⟩ := by unfold Addr.add; split <;> simp_all
  rw [k6] at hv;have : (w.alloc (.cells us.toArray ty)).heap[w.heap.size]? = some (.cells us.toArray ty (0, 0)) := by show (w.heap.push _)[w.heap.size]? = _; simp
  simp only [World.cell?, this] at hv;have b8 : us[j]? = some v := by simpa using hv
  have al := h.2 j y v ai b8;cases y with
  | c u => cases gl
  | own k o => cases gl
  | p R =>
   refine .inl (al.2 b ?_);exact (R.frame w _ v al.1 fun bE cL => Below.heap_alloc _ _ _ (R.iR _ _ _ al.1 cL)).2 b gl
theorem VT {t n sz : Nat} {parts : List (Nat × Operand)} {vs : List Value} {zs : List (Nat × bA)} {r : List AC} [S : ib P t sz] [Z : nC P t vs] (hw : want ops ⟨some d, .buildSlice t n parts.toArray, ty, pos, after, guard⟩ s = some true) (aN : nj s.look parts = some zs) (ab : qf (wM n sz) (h8 n sz vs) zs = some r)
  (h1 : (vs.all fun v => v.oneCell') = true) (hs : Nat.beq vs.length sz = true) (aA : Nat.blt 0 (n * sz) = true) (h2 : Nat.ble (n * sz) 16777216 = true) (al : Nat.beq r.length (n * sz) = true) (c4 : r.all AC.aZ = true) (hd : Nat.blt d s.n = true) (h : bg P ops K rest (s.put (some d) (cK sz n r))) : bg P ops K (⟨some d, .buildSlice t n parts.toArray, ty, pos, after, guard⟩ :: rest) s := by
 refine GJ (av := cK sz n r) hw ⟨fun z uB => ?_, fun j ae => lF _ j ae, fun U ad W env he => ?_⟩ hd h
 ·simp only [Op.operands, List.mem_toArray, gV] at uB;obtain ⟨p, hp, rfl⟩ := uB;obtain ⟨z, h1, _⟩ := Jm parts zs aN p hp;exact ⟨_, h1⟩
 ·obtain ⟨e, i, hu, hi, bH⟩ := nu S.h;have dY := Z.h;unfold yv at dY;rw [hu] at dY;simp only at dY;unfold zeroOf at dY;rw [hi] at dY;simp only [kU] at dY;cases hT : i.zero with
  | none => rw [hT] at dY; cases dY
  | some z =>
   rw [hT] at dY;cases dY;have hlen : z.cells.toList.length = sz := gL hs;have zx : 0 < n * sz := by simpa [Nat.blt_eq] using aA
   have sM : n * sz ≤ 16777216 := by simpa [Nat.ble_eq] using h2
   have Ad : r.length = n * sz := gL al;have sP : ∀ y ∈ r, y.aZ = true := cB.1 c4;have s7 : (zeroValue e).run P W = .ok z W := by simp [zeroValue, typeInfo, program, Sem.run_bind, Sem.run, hi, Result.andThen, hT]
   have ki : bM U ad W (h8 n sz z.cells.toList) ((List.range (n * sz)).map fun j => z.cells[j % z.cells.size]!) := by
    refine ⟨by simp [h8], fun j x v aa hv => ?_⟩;have ae : j < n * sz := by have := (bL.1 hv).1; simpa using this
    simp only [h8, dL, uX ae, hr, iT] at aa hv;subst aa; subst hv;have wh : z.cells.size = sz := by simpa using hlen
    have Iy : 0 < sz := Nat.pos_of_mul_pos_left zx |> fun h => by
     rcases tq sz with q | q
     ·rw [q] at zx; simp at zx
     ·exact q
    have bb : j % z.cells.size < z.cells.size := Nat.mod_lt _ (by omega);have aO : z.cells.toList.toArray[j % z.cells.toList.length]! = z.cells[j % z.cells.size]! := by simp
    refine ⟨aO.symm, ?_⟩;rw [aO, getElem!_pos z.cells _ bb];exact cB.1 h1 _ (by simp)
   obtain ⟨us, g1, g2⟩ := zt (U := U) (ad := ad) (W := W) (ps := wM n sz) (place := fun i => some (i * sz, sz)) (fun i q ak => by
     simp only [wM, dL] at ak;cases al : (List.range n)[i]? with
     | none => rw [al] at ak; cases ak
     | some m =>
      rw [al] at ak;cases ak;have := bL.1 al;obtain ⟨h3, aD⟩ := this;simp at aD;rw [aD]) (look := s.look) (env := env) parts _ _ zs r ki aN (fun p hp a aF => he p.2 (by simp only [Op.operands, List.mem_toArray, gV]; exact ⟨p, hp, rfl⟩) a aF) ab
   refine ⟨.slice (some ⟨W.heap.size, 0, none⟩) n n, W.alloc (.cells us.toArray e), ?_, ⟨⟨some ⟨W.heap.size, 0, none⟩, n, rfl, dI _, Ad, fun aw => ⟨_, us, rfl, WK g2 sP⟩⟩, ?_⟩, (Below.refl _ _).alloc (dI _) _⟩
   ·have uv : (parts.toArray.map fun (i, x) => (i, env x)).toList = parts.map fun p => (p.1, env p.2) := by simp
    have cl : (Array.range (n * sz)).map (fun j => z.cells[j % z.cells.size]!) = ((List.range (n * sz)).map fun j => z.cells[j % z.cells.size]!).toArray := by simp [← List.toArray_range]
    simp only [execOp, Instr.buildSlice, Sem.run_bind, run_underlying hu, Result.andThen_ok, h5 hi, bH];rw [if_neg (by omega), if_neg (by omega)];simp only [Sem.run_bind, Sem.run_pure, s7, Result.andThen_ok, cl, uv, g1, newRow, newObj, Sem.run];rfl
   ·rintro b ⟨c, a, e, aw, ab⟩;cases e;exact WL g2 ab
end
def kP {α : Type} : List (Nat × α) → Nat → Option α
 | [], _ => none
 | (k, v) :: r, t => bif Nat.beq t k then some v else kP r t
def rZ (n : Nat) (aL : List (Nat × ah)) (bh : List (Nat × List AC)) : aC := ⟨n, kP aL, kP bh⟩
def ms {α : Type} (f : Nat → Option α) : List (Nat × α) → Prop
 | [] => True
 | (k, v) :: r => f k = some v ∧ ms f r
theorem GN {α : Type} {f : Nat → Option α} : ∀ (l : List (Nat × α)), ms f l → ∀ t v, kP l t = some v → f t = some v
 | [], _, t, v, h => by cases h
 | (k, u) :: r, aF, t, v, h => by
  simp only [kP] at h;cases ab : Nat.beq t k with
  | true => rw [ab] at h; cases h; rw [gL ab]; exact aF.1
  | false => rw [ab] at h; exact GN r aF.2 t v h
theorem ya {s : aC} {n : Nat} {aL : List (Nat × ah)} {bh : List (Nat × List AC)} (aw : n = s.n) (aB : ms s.tmps aL) (hm : ms s.mem bh) : s.aK (rZ n aL bh) :=
 ⟨aw, GN aL aB, GN bh hm⟩
def D4 {α : Type} (bh : List (Nat × α)) (k : Nat) : Bool := bh.any fun p => Nat.beq k p.1
def Cj (bh : List (Nat × List AC)) : AC → Bool
 | .own k _ => D4 bh k
 | _ => true
def WS (bh : List (Nat × List AC)) : ah → Bool
 | .w x => x.cells.all (Cj bh)
 | .cz xs => xs.all fun x => x.cells.all (Cj bh)
def okB (aL : List (Nat × ah)) (bh : List (Nat × List AC)) : Bool := aL.all (fun p => WS bh p.2) && bh.all fun p => p.2.all (Cj bh)
theorem PY {α : Type} {k : Nat} : ∀ (bh : List (Nat × α)), D4 bh k = true → ∃ v, kP bh k = some v
 | [], h => by cases h
 | (j, u) :: r, h => by
  simp only [D4, List.any_cons, oJ] at h;simp only [kP];cases ab : Nat.beq k j with
  | true => exact ⟨u, rfl⟩
  | false => rw [ab] at h; exact PY r (by simpa [D4] using h)
theorem Jk {α : Type} {k : Nat} {v : α} : ∀ (bh : List (Nat × α)), kP bh k = some v → (k, v) ∈ bh
 | [], h => by cases h
 | (j, u) :: r, h => by
  simp only [kP] at h;cases ab : Nat.beq k j with
  | true => rw [ab] at h; cases h; rw [gL ab]; simp
  | false => rw [ab] at h; exact pJ _ (Jk r h)
theorem GC {bh : List (Nat × List AC)} {x : AC} {j : Nat} (h : Cj bh x = true) (ae : x.owns j) : ∃ cs, kP bh j = some cs := by
 cases x with
 | c v => cases ae
 | p R => cases ae
 | own k o => cases ae; exact PY bh h
theorem Ej {n : Nat} {aL : List (Nat × ah)} {bh : List (Nat × List AC)} (h : okB aL bh = true) : (rZ n aL bh).cQ := by
 unfold okB at h;rw [c6] at h;refine ⟨fun t av j aB ae => ?_, fun k cs x j af aa ae => ?_⟩
 ·have h1 := cB.1 h.1 _ (Jk aL aB);cases av with
  | w x =>
   obtain ⟨y, ai, mB⟩ := ae;exact GC (cB.1 h1 y ai) mB
  | cz xs =>
   obtain ⟨z, aN, y, ai, mB⟩ := ae;exact GC (cB.1 (cB.1 h1 z aN) y ai) mB
 ·have h1 := cB.1 h.2 _ (Jk bh af);exact GC (cB.1 h1 x aa) ae
section
variable {P : Program} {s : aC} {x : Code}
theorem sD {Q : Exit → aC → Prop} (N : Nat) (I : Nat → List (Nat × ah) → List (Nat × List AC) → Prop) (k : Nat) (aL : List (Nat × ah)) (bh : List (Nat × List AC)) (bl : I k aL bh) (aw : N = s.n) (aB : ms s.tmps aL) (hm : ms s.mem bh) (ok : okB aL bh = true)
  (round : ∀ k aL bh, I k aL bh → okB aL bh = true → fg P x (sC (fun s' => ∃ k' lN lE, k' < k ∧ I k' lN lE ∧ N = s'.n ∧ ms s'.tmps lN ∧ ms s'.mem lE ∧ okB lN lE = true) Q) (rZ N aL bh)) : fg P (.loop x) Q s := by
 refine Me (fun k s => ∃ aL bh, I k aL bh ∧ okB aL bh = true ∧ s = rZ N aL bh) k (rZ N aL bh) (ya aw aB hm) (Ej ok) ⟨aL, bh, bl, ok, rfl⟩ ?_;rintro k s ⟨aL, bh, bl, ok, rfl⟩;intro cX B A ad a w aq;refine nw (round k aL bh bl ok cX B A ad a w aq) ?_;rintro e a' w' ⟨s', aX, wF, b6, ak⟩;refine ⟨s', aX, wF, b6, ?_⟩;cases e with
 | normal =>
  obtain ⟨k', lN, lE, h1, h2, h3, aD, cU, fs⟩ := ak;exact ⟨k', h1, rZ N lN lE, ya h3 aD cU, Ej fs, lN, lE, h2, fs, rfl⟩
 | _ => exact ak
def Bg (P : Program) (x : Code) (Q : Exit → aC → Prop) : Nat → aC → Prop
 | 0, _ => False
 | n + 1, s => fg P x (sC (Bg P x Q n) Q) s
theorem ahh {Q : Exit → aC → Prop} {n : Nat} (h : fg P x (sC (Bg P x Q n) Q) s) : Bg P x Q (n + 1) s := h
theorem WX (n : Nat) {Q : Exit → aC → Prop} (h : Bg P x Q n s) : fg P (.loop x) Q s := by
 intro ok;refine Me (fun k s => s.cQ ∧ Bg P x Q k s) n s ⟨rfl, fun _ _ h => h, fun _ _ h => h⟩ ok ⟨ok, h⟩ ?_ ok;rintro k s ⟨ok, h⟩;cases k with
 | zero => cases h
 | succ k =>
  intro cX B A ad a w aq;refine nw (h cX B A ad a w aq) ?_;rintro e a' w' ⟨s', aX, wF, b6, ak⟩;refine ⟨s', aX, wF, b6, ?_⟩;cases e with
  | normal => exact ⟨k, Nat.lt_succ_self k, s', ⟨rfl, fun _ _ h => h, fun _ _ h => h⟩, wF, wF, ak⟩
  | _ => exact ak
end
def okW (x : bA) : Bool := x.cells.all fun y => match y with | .c v => v.oneCell' | _ => true
def xx : List bA → Option (List Value)
 | [] => some []
 | x :: xs => match mZ x, xx xs with
  | some v, some r => some (v :: r)
  | _, _ => none
def rC : ah → Option Value
 | .w x => mZ x
 | .cz xs => match xx xs with
  | some r => some (.tuple r.toArray)
  | none => none
def JK : ah → Bool
 | .w x => okW x
 | .cz xs => xs.all okW
section
variable {U : Nat → Prop} {ad : Nat → Nat} {W : World}
theorem S2 : ∀ (xs : List AC) (r : List Value), uc xs = some r → (xs.all fun y => match y with | .c v => v.oneCell' | _ => true) = true → bM U ad W xs r
 | [], r, h, _ => by cases h; exact ⟨rfl, fun i x v h => by simp at h⟩
 | .c v :: xs, r, h, ok => by
  simp only [uc] at h
  split at h
  ·rename_i aV al;cases h;simp only [kt, c6] at ok;have b9 := S2 xs aV al ok.2;refine ⟨by simp [b9.1], fun i x u aa hu => ?_⟩;cases i with
   | zero => simp at aa hu; subst aa; subst hu; exact ⟨rfl, ok.1⟩
   | succ i => exact b9.2 i x u (by simpa using aa) (by simpa using hu)
  ·cases h
 | .own _ _ :: _, _, h, _ => by cases h
 | .p _ :: _, _, h, _ => by cases h
theorem S7 {x : bA} {u : Value} (h : mZ x = some u) (ok : okW x = true) : gh U ad W x u := by
 cases x with
 | one y => cases y with
  | c v => cases h; simp [okW, bA.cells] at ok; exact ⟨rfl, ok⟩
  | own => cases h
  | p => cases h
 | agg xs =>
  simp only [mZ] at h
  split at h
  ·rename_i r al; cases h; exact ⟨r, rfl, S2 xs r al ok⟩
  ·cases h
theorem S4 : ∀ (xs : List bA) (r : List Value), xx xs = some r → xs.all okW = true → xs.length = r.length ∧ ∀ (i : Nat) (x : bA) (v : Value), xs[i]? = some x → r[i]? = some v → gh U ad W x v
 | [], r, h, _ => by cases h; exact ⟨rfl, fun i x v h => by simp at h⟩
 | x :: xs, r, h, ok => by
  simp only [xx] at h
  split at h
  ·rename_i v aV hv al;cases h;simp only [kt, c6] at ok;obtain ⟨h1, h2⟩ := S4 xs aV al ok.2;refine ⟨by simp [h1], fun i y u ai hu => ?_⟩;cases i with
   | zero => simp at ai hu; subst ai; subst hu; exact S7 hv ok.1
   | succ i => exact h2 i y u (by simpa using ai) (by simpa using hu)
  ·cases h
theorem Kh {x : ah} {u : Value} (h : rC x = some u) (ok : JK x = true) : de U ad W x u := by
 cases x with
 | w y => exact S7 h ok
 | cz xs =>
  simp only [rC] at h
  split at h
  ·rename_i r al; cases h; exact ⟨r, rfl, S4 xs r al ok⟩
  ·cases h
end
theorem hZ {P : Program} {f : FuncId} {args : List ah} {r : ah} (jM : List Value) (cb : Value) (he : args.map (fun x => match x with | .w y => mZ y | _ => none) = jM.map some) (al : rC r = some cb) (j9 : args.all ah.aZ = true) (bW : r.aZ = true) (ok : JK r = true)
  (h : ∀ W, Calls P f jM.toArray W fun e bk => e = .returned cb ∧ Below W.heap.size W bk) : au P f args r :=
 J2 jM he j9 bW fun W => (h W).mono fun e w' ⟨h1, h2⟩ => ⟨cb, h1, fun _ _ => Kh al ok, h2⟩
structure y4 where
 ty : List (Nat × Bool × Nat)
 zero : List (Nat × List Value)
 ow : List (Nat × List (Nat × Nat))
 nD : List (Nat × Nat × Nat)
 iS : List (Nat × List (Nat × Nat))
def lX {α : Type} (R : α → Prop) : List α → Prop
 | [] => True
 | a :: l => R a ∧ lX R l
theorem rs {α : Type} {R : Nat × α → Prop} {k : Nat} {v : α} : ∀ (l : List (Nat × α)), lX R l → kP l k = some v → R (k, v)
 | [], _, h => by cases h
 | (j, u) :: l, hl, h => by
  simp only [kP] at h;cases ab : Nat.beq k j with
  | true => rw [ab] at h; cases h; obtain rfl := gL ab; exact hl.1
  | false => rw [ab] at h; exact rs l hl.2 h
class Gl (P : Program) (T : outParam y4) : Prop where
 ty : lX (fun p => kX P p.1 = some p.2) T.ty
 zero : lX (fun p => zeroOf P p.1 = some p.2) T.zero
 ow : lX (fun p => lX (fun q => ud P p.1 q.1 = some q.2) p.2) T.ow
 nD : lX (fun p => Cr P p.1 = some p.2) T.nD
 iS : lX (fun p => E5 P p.1 = some p.2) T.iS
def SG (b : BinOp) (m n : Int) : Option Bool :=
 match b with
 | .lss => some (decide (m < n))
 | .leq => some (decide (m ≤ n))
 | .gtr => some (decide (n < m))
 | .geq => some (decide (n ≤ m))
 | .eql => some (decide (m = n))
 | .neq => some (!decide (m = n))
 | _ => none
def nl (T : y4) (s : aC) (d : Nat) : Op → Option aC
 | .move x => match s.look x with
  | some av => some (s.put (some d) av)
  | none => none
 | .assign x => match s.look x with
  | some av => some (s.put (some d) av)
  | none => none
 | .pick c x y => match s.look c, s.look x, s.look y with
  | some (.w (.one (.c (.bool true)))), some av, some _ => some (s.put (some d) av)
  | some (.w (.one (.c (.bool false)))), some _, some bv => some (s.put (some d) bv)
  | _, _, _ => none
 | .alloc t => match kP T.zero t, s.mem d with
  | some vs, none => bif vs.all fun v => v.oneCell' then some ((s.ej d (vs.map .c)).put (some d) (fQ d 0)) else none
  | _, _ => none
 | .box _ x => match s.look x, s.mem d with
  | some (.w z), none => some ((s.ej d z.cells).put (some d) (fQ d 0))
  | _, _ => none
 | .load t x => match s.look x with
  | some (.w (.one (.own k off))) => match s.mem k with
   | some cs => match kP T.ty t with
    | some (false, _) => match cs[off]? with
     | some y => some (s.put (some d) (.w (.one y)))
     | none => none
    | some (true, n) => match takeN cs off n with
     | some aU => some (s.put (some d) (.w (.agg aU)))
     | none => none
    | none => none
   | none => none
  | _ => none
 | .fieldAddr t x i => match s.look x with
  | some (.w (.one (.own k off))) => match kP T.ow t with
   | some l => match kP l i with
    | some iK => some (s.put (some d) (fQ k (off + iK)))
    | none => none
   | none => none
  | _ => none
 | .indexAddr t x y => match s.look x, s.look y with
  | some (.w (.one (.own k off))), some (.w (.one (.c (.int _ i)))) => match kP T.nD t with
   | some (n, size) => bif decide (0 ≤ i) && decide (i < n) then some (s.put (some d) (fQ k (off + i.toNat * size))) else none
   | none => none
  | _, _ => none
 | .extract x i => match s.look x with
  | some (.cz xs) => match xs[i]? with
   | some y => some (s.put (some d) (.w y))
   | none => none
  | _ => none
 | .build t parts => match nj s.look parts.toList, kP T.zero t, kP T.iS t with
  | some zs, some vs, some ps => match qf ps (vs.map .c) zs with
   | some r => bif vs.all fun v => v.oneCell' then some (s.put (some d) (.w (.agg r))) else none
   | none => none
  | _, _, _ => none
 | .binOp b _ x y _ => match s.look x, s.look y with
  | some (.w (.one (.c (.int k m)))), some (.w (.one (.c (.int k' n)))) => match decEq k k' with
   | isTrue _ => match SG b m n with
    | some r => some (s.put (some d) (a7 r))
    | none => none
   | isFalse _ => none
  | _, _ => none
 | .unOp .not _ x => match s.look x with
  | some (.w (.one (.c (.bool b)))) => some (s.put (some d) (a7 (!b)))
  | _ => none
 | _ => none
def SI (T : y4) (ops : Array Oper) (s : aC) (o : Oper) : Option aC :=
 match want ops o s with
 | some true => match o.dst with
  | some d => bif Nat.blt d s.n then nl T s d o.op else none
  | none => match o.op with
   | .store t x y => match s.look x, s.look y with
    | some (.w (.one (.own k off))), some (.w z) => match s.mem k, kP T.ty t with
     | some cs, some (_, n) => bif Nat.beq n z.cells.length then (match pI cs off z.cells with
      | some ds => some (s.ej k ds)
      | none => none) else none
     | _, _ => none
    | _, _ => none
   | _ => none
 | some false => match o.dst with
  | some d => bif Nat.blt d s.n then some (s.put (some d) (.cz [])) else none
  | none => some s
 | none => none
section
variable {P : Program} {T : y4} {s s' : aC} {ops : Array Oper} {K : aC → Prop} {rest : List Oper}
theorem Wz [Q : Gl P T] {d ty : Nat} {op : Op} {pos : String} {after : Array Edge} {guard : Option (Nat × Bool)} (hw : want ops ⟨some d, op, ty, pos, after, guard⟩ s = some true) (hd : Nat.blt d s.n = true) (h : nl T s d op = some s') (k : bg P ops K rest s') :
  bg P ops K (⟨some d, op, ty, pos, after, guard⟩ :: rest) s := by
 cases op with
 | move x =>
  simp only [nl] at h
  split at h
  ·rename_i av aa; cases h; exact Wo hw aa hd k
  ·cases h
 | assign x =>
  simp only [nl] at h
  split at h
  ·rename_i av aa; cases h; exact VR hw aa hd k
  ·cases h
 | pick c x y =>
  simp only [nl] at h
  split at h
  ·rename_i av bv aj aa ai; cases h; exact Wy hw aj aa ai hd k
  ·rename_i av bv aj aa ai; cases h; exact Wx hw aj ai aa hd k
  ·cases h
 | alloc t =>
  simp only [nl] at h
  split at h
  ·rename_i vs aN hm;have dY := rs _ Q.zero aN;cases h1 : (vs.all fun v => v.oneCell') with
   | true =>
    rw [h1] at h;cases h;have : Ci P t vs := ⟨dY⟩;exact VP hw hm h1 hd k
   | false => rw [h1] at h; cases h
  ·cases h
 | box t x =>
  simp only [nl] at h
  split at h
  ·rename_i z aa hm; cases h; exact VS hw aa hm hd k
  ·cases h
 | load t x =>
  simp only [nl] at h
  split at h
  ·rename_i j off aa
   split at h
   ·rename_i cs hm
    split at h
    ·rename_i n cH;have zE := rs _ Q.ty cH
     split at h
     ·rename_i y aj; cases h; have : fq P t false n := ⟨zE⟩; exact Wf hw aa hm aj hd k
     ·cases h
    ·rename_i n cH;have zE := rs _ Q.ty cH
     split at h
     ·rename_i aU aj; cases h; have : fq P t true n := ⟨zE⟩; exact Wg hw aa hm aj hd k
     ·cases h
    ·cases h
   ·cases h
  ·cases h
 | fieldAddr t x i =>
  simp only [nl] at h
  split at h
  ·rename_i j off aa
   split at h
   ·rename_i l hl
    split at h
    ·rename_i iK ap;have hF := rs _ (rs _ Q.ow hl) ap;cases h;have : nx P t i iK := ⟨hF⟩;exact V6 hw aa hd k
    ·cases h
   ·cases h
  ·cases h
 | indexAddr t x y =>
  simp only [nl] at h
  split at h
  ·rename_i j off hn i aa ai
   split at h
   ·rename_i n size dn;have vL := rs _ Q.nD dn;cases h1 : (decide (0 ≤ i) && decide (i < (n : Int))) with
    | true =>
     rw [h1] at h;cases h;rw [c6, cg, cg] at h1;have : K2 P t n size := ⟨vL⟩;exact LW hw aa ai h1.1 h1.2 hd k
    | false => rw [h1] at h; cases h
   ·cases h
  ·cases h
 | extract x i =>
  simp only [nl] at h
  split at h
  ·rename_i xs aa
   split at h
   ·rename_i y ai; cases h; exact V3 hw aa ai hd k
   ·cases h
  ·cases h
 | build t parts =>
  simp only [nl] at h
  split at h
  ·rename_i zs vs ps aN hv hp;have dY := rs _ Q.zero hv;have iq := rs _ Q.iS hp
   split at h
   ·rename_i r al;cases h1 : (vs.all fun v => v.oneCell') with
    | true =>
     rw [h1] at h;cases h;have : Ci P t vs := ⟨dY⟩;have : Ll P t ps := ⟨iq⟩;have g : bg P ops K (⟨some d, .build t parts.toList.toArray, ty, pos, after, guard⟩ :: rest) s := VU (by rw [Array.toArray_toList]; exact hw) aN al h1 hd k;rwa [Array.toArray_toList] at g
    | false => rw [h1] at h; cases h
   ·cases h
  ·cases h
 | binOp b dp x y ed =>
  simp only [nl] at h
  split at h
  ·rename_i hn m ak7 n aa ai
   split at h
   ·rename_i e he;subst e;cases b <;> simp only [SG] at h <;> cases h
    ·exact V0 hw aa ai hd k
    ·exact Wr hw aa ai hd k
    ·exact Wj hw aa ai hd k
    ·exact We hw aa ai hd k
    ·exact Wa hw aa ai hd k
    ·exact V9 hw aa ai hd k
   ·cases h
  ·cases h
 | unOp u dp x =>
  cases u <;> simp only [nl] at h <;> try (cases h; done)
  split at h
  ·rename_i b aa; cases h; exact Ww hw aa hd k
  ·cases h
 | _ => simp only [nl] at h; cases h
theorem Cp [Q : Gl P T] {o : Oper} (h : SI T ops s o = some s') (k : bg P ops K rest s') : bg P ops K (o :: rest) s := by
 obtain ⟨dst, op, ty, pos, after, guard⟩ := o;unfold SI at h
 split at h
 ·rename_i hw;cases dst with
  | some d =>
   simp only at h;cases hd : Nat.blt d s.n with
   | true => rw [hd] at h; exact Wz hw hd h k
   | false => rw [hd] at h; cases h
  | none =>
   simp only at h
   split at h
   ·rename_i t x y
    split at h
    ·rename_i j off z aa ai
     split at h
     ·rename_i cs b n hm cH;have zE := rs _ Q.ty cH;cases aw : Nat.beq n z.cells.length with
      | true =>
       rw [aw] at h;simp only [cond_true] at h
       split at h
       ·rename_i ds hp;cases h;have : fq P t b n := ⟨zE⟩;exact WE hw aa ai hm aw hp k
       ·cases h
      | false => rw [aw] at h; cases h
     ·cases h
    ·cases h
   ·cases h
 ·rename_i hw;cases dst with
  | some d =>
   simp only at h;cases hd : Nat.blt d s.n with
   | true => rw [hd] at h; cases h; exact LZ hw (fun d' e => by cases e; exact hd) k
   | false => rw [hd] at h; cases h
  | none => cases h; exact LZ hw (fun d' e => by cases e) k
 ·cases h
end
end Go.Proofs.YtbcecodakfejaaaGreat
namespace Go.Proofs.YtbcecodakfejaaaGreat
instance : fq ag 3 false 1 := ⟨by kernel_rfl⟩
instance : Gb ag 3 .i64 := ⟨by kernel_rfl⟩
instance : fq ag 4 false 1 := ⟨by kernel_rfl⟩
instance : ib ag 22 5 := ⟨by kernel_rfl⟩
instance : fq ag 27 false 1 := ⟨by kernel_rfl⟩
instance : nC ag 27 [.int .i64 0, .int .i64 0] := ⟨by kernel_rfl⟩
instance : ib ag 27 2 := ⟨by kernel_rfl⟩
instance : nC ag 28 [.slice none 0 0, .slice none 0 0] := ⟨by kernel_rfl⟩
instance : ib ag 28 2 := ⟨by kernel_rfl⟩
instance : fq ag 30 true 10 := ⟨by kernel_rfl⟩
instance : nx ag 30 2 2 := ⟨by kernel_rfl⟩
instance : fq ag 32 false 1 := ⟨by kernel_rfl⟩
instance : nC ag 32 [.int .i64 0] := ⟨by kernel_rfl⟩
instance : ib ag 32 1 := ⟨by kernel_rfl⟩
instance : fq ag 34 true 2 := ⟨by kernel_rfl⟩
instance : nx ag 34 0 0 := ⟨by kernel_rfl⟩
instance : nx ag 34 1 1 := ⟨by kernel_rfl⟩
instance : fq ag 36 true 2 := ⟨by kernel_rfl⟩
instance : fq ag 38 true 2 := ⟨by kernel_rfl⟩
instance : nx ag 38 0 0 := ⟨by kernel_rfl⟩
instance : nx ag 38 1 1 := ⟨by kernel_rfl⟩
instance : fq ag 53 true 5 := ⟨by kernel_rfl⟩
instance : nx ag 53 0 0 := ⟨by kernel_rfl⟩
instance : nx ag 53 1 2 := ⟨by kernel_rfl⟩
instance : fq ag 68 true 5 := ⟨by kernel_rfl⟩
instance : nC ag 69 [.int .i64 0, .int .i64 0, .int .i64 0, .int .i64 0, .int .i64 0] := ⟨by kernel_rfl⟩
instance : ib ag 69 5 := ⟨by kernel_rfl⟩
instance : nC ag 76 [.int .i64 0, .int .i64 0, .int .i64 0, .int .i64 0] := ⟨by kernel_rfl⟩
instance : ib ag 76 4 := ⟨by kernel_rfl⟩
instance : nx ag 78 1 1 := ⟨by kernel_rfl⟩
instance : fq ag 85 true 2 := ⟨by kernel_rfl⟩
instance : fq ag 87 true 4 := ⟨by kernel_rfl⟩
instance : fq ag 95 true 13 := ⟨by kernel_rfl⟩
instance : fq ag 104 true 6 := ⟨by kernel_rfl⟩
instance : nC ag 115 [.bool false, .slice none 0 0, .bool false, .slice none 0 0] := ⟨by kernel_rfl⟩
instance : ib ag 115 4 := ⟨by kernel_rfl⟩
instance : nC ag 129 [.int .i64 0, .int .i64 0] := ⟨by kernel_rfl⟩
instance : ib ag 129 2 := ⟨by kernel_rfl⟩
instance : nC ag 134 [.int .i64 0, .int .i64 0, .int .i64 0] := ⟨by kernel_rfl⟩
instance : ib ag 134 3 := ⟨by kernel_rfl⟩
instance : fq ag 146 true 2 := ⟨by kernel_rfl⟩
instance : fq ag 148 true 4 := ⟨by kernel_rfl⟩
instance : fq ag 150 true 13 := ⟨by kernel_rfl⟩
instance : fq ag 155 true 4 := ⟨by kernel_rfl⟩
instance : fq ag 181 true 4 := ⟨by kernel_rfl⟩
instance : nC ag 193 [.slice none 0 0] := ⟨by kernel_rfl⟩
instance : ib ag 193 1 := ⟨by kernel_rfl⟩
instance : nC ag 194 [.slice none 0 0] := ⟨by kernel_rfl⟩
instance : ib ag 194 1 := ⟨by kernel_rfl⟩
instance : fq ag 209 false 1 := ⟨by kernel_rfl⟩
instance : Gb ag 209 .u64 := ⟨by kernel_rfl⟩
instance : fq ag 214 true 3 := ⟨by kernel_rfl⟩
instance : nx ag 214 1 2 := ⟨by kernel_rfl⟩
instance : fq ag 225 true 3 := ⟨by kernel_rfl⟩
instance : fq ag 227 true 10 := ⟨by kernel_rfl⟩
instance : fq ag 246 true 4 := ⟨by kernel_rfl⟩
instance : fq ag 250 true 2 := ⟨by kernel_rfl⟩
instance : Enters ag 7 := ⟨by kernel_rfl⟩
instance : Enters ag 8 := ⟨by kernel_rfl⟩
instance : Enters ag 9 := ⟨by kernel_rfl⟩
instance : Enters ag 10 := ⟨by kernel_rfl⟩
instance : Enters ag 11 := ⟨by kernel_rfl⟩
instance : Enters ag 12 := ⟨by kernel_rfl⟩
instance : Enters ag 13 := ⟨by kernel_rfl⟩
instance : Enters ag 14 := ⟨by kernel_rfl⟩
instance : Enters ag 18 := ⟨by kernel_rfl⟩
instance : Enters ag 24 := ⟨by kernel_rfl⟩
instance : Enters ag 25 := ⟨by kernel_rfl⟩
instance : Enters ag 26 := ⟨by kernel_rfl⟩
instance : Enters ag 27 := ⟨by kernel_rfl⟩
instance : Enters ag 28 := ⟨by kernel_rfl⟩
instance : Enters ag 29 := ⟨by kernel_rfl⟩
instance : Enters ag 30 := ⟨by kernel_rfl⟩
instance : Enters ag 31 := ⟨by kernel_rfl⟩
instance : Enters ag 32 := ⟨by kernel_rfl⟩
instance : Enters ag 33 := ⟨by kernel_rfl⟩
instance : Enters ag 34 := ⟨by kernel_rfl⟩
instance : Enters ag 35 := ⟨by kernel_rfl⟩
instance : Enters ag 36 := ⟨by kernel_rfl⟩
instance : Enters ag 37 := ⟨by kernel_rfl⟩
instance : Enters ag 38 := ⟨by kernel_rfl⟩
instance : Enters ag 39 := ⟨by kernel_rfl⟩
instance : Enters ag 40 := ⟨by kernel_rfl⟩
instance : Enters ag 41 := ⟨by kernel_rfl⟩
instance : Enters ag 44 := ⟨by kernel_rfl⟩
instance : Enters ag 46 := ⟨by kernel_rfl⟩
instance : Enters ag 47 := ⟨by kernel_rfl⟩
instance : Enters ag 48 := ⟨by kernel_rfl⟩
instance : Enters ag 49 := ⟨by kernel_rfl⟩
instance : Enters ag 50 := ⟨by kernel_rfl⟩
instance : Enters ag 51 := ⟨by kernel_rfl⟩
instance : Enters ag 52 := ⟨by kernel_rfl⟩
instance : Enters ag 53 := ⟨by kernel_rfl⟩
instance : Enters ag 54 := ⟨by kernel_rfl⟩
instance : Enters ag 55 := ⟨by kernel_rfl⟩
instance : Enters ag 56 := ⟨by kernel_rfl⟩
instance : Enters ag 57 := ⟨by kernel_rfl⟩
instance : Enters ag 58 := ⟨by kernel_rfl⟩
instance : Enters ag 59 := ⟨by kernel_rfl⟩
instance : Enters ag 60 := ⟨by kernel_rfl⟩
instance : Enters ag 61 := ⟨by kernel_rfl⟩
instance : Enters ag 62 := ⟨by kernel_rfl⟩
instance : Enters ag 63 := ⟨by kernel_rfl⟩
instance : Enters ag 64 := ⟨by kernel_rfl⟩
instance : Enters ag 65 := ⟨by kernel_rfl⟩
instance : Enters ag 66 := ⟨by kernel_rfl⟩
instance : Enters ag 67 := ⟨by kernel_rfl⟩
instance : Enters ag 68 := ⟨by kernel_rfl⟩
instance : Enters ag 69 := ⟨by kernel_rfl⟩
instance : Enters ag 70 := ⟨by kernel_rfl⟩
instance : Enters ag 71 := ⟨by kernel_rfl⟩
instance : Enters ag 72 := ⟨by kernel_rfl⟩
instance : Enters ag 73 := ⟨by kernel_rfl⟩
instance : Enters ag 76 := ⟨by kernel_rfl⟩
instance : Enters ag 77 := ⟨by kernel_rfl⟩
instance : Enters ag 78 := ⟨by kernel_rfl⟩
instance : Enters ag 79 := ⟨by kernel_rfl⟩
instance : Enters ag 80 := ⟨by kernel_rfl⟩
instance : Enters ag 81 := ⟨by kernel_rfl⟩
instance : Enters ag 82 := ⟨by kernel_rfl⟩
instance : Enters ag 83 := ⟨by kernel_rfl⟩
instance : Enters ag 84 := ⟨by kernel_rfl⟩
instance : Enters ag 85 := ⟨by kernel_rfl⟩
instance : Enters ag 86 := ⟨by kernel_rfl⟩
instance : Enters ag 87 := ⟨by kernel_rfl⟩
instance : Enters ag 88 := ⟨by kernel_rfl⟩
instance : Enters ag 89 := ⟨by kernel_rfl⟩
instance : Enters ag 90 := ⟨by kernel_rfl⟩
instance : Enters ag 91 := ⟨by kernel_rfl⟩
instance : Enters ag 92 := ⟨by kernel_rfl⟩
instance : Enters ag 93 := ⟨by kernel_rfl⟩
instance : Enters ag 94 := ⟨by kernel_rfl⟩
instance : Enters ag 95 := ⟨by kernel_rfl⟩
instance : Enters ag 96 := ⟨by kernel_rfl⟩
instance : Enters ag 97 := ⟨by kernel_rfl⟩
instance : Enters ag 98 := ⟨by kernel_rfl⟩
instance : Enters ag 99 := ⟨by kernel_rfl⟩
instance : Enters ag 100 := ⟨by kernel_rfl⟩
instance : Enters ag 101 := ⟨by kernel_rfl⟩
instance : Enters ag 102 := ⟨by kernel_rfl⟩
instance : Enters ag 103 := ⟨by kernel_rfl⟩
instance : Enters ag 104 := ⟨by kernel_rfl⟩
instance : Enters ag 105 := ⟨by kernel_rfl⟩
instance : Enters ag 106 := ⟨by kernel_rfl⟩
instance : Enters ag 107 := ⟨by kernel_rfl⟩
instance : Enters ag 108 := ⟨by kernel_rfl⟩
instance : Enters ag 109 := ⟨by kernel_rfl⟩
instance : Enters ag 117 := ⟨by kernel_rfl⟩
instance : Enters ag 118 := ⟨by kernel_rfl⟩
instance : Enters ag 119 := ⟨by kernel_rfl⟩
instance : Enters ag 120 := ⟨by kernel_rfl⟩
instance : Enters ag 121 := ⟨by kernel_rfl⟩
instance : Enters ag 122 := ⟨by kernel_rfl⟩
instance : Enters ag 123 := ⟨by kernel_rfl⟩
instance : Enters ag 124 := ⟨by kernel_rfl⟩
instance : Enters ag 125 := ⟨by kernel_rfl⟩
instance : Enters ag 126 := ⟨by kernel_rfl⟩
instance : Enters ag 127 := ⟨by kernel_rfl⟩
instance : Enters ag 128 := ⟨by kernel_rfl⟩
instance : Enters ag 129 := ⟨by kernel_rfl⟩
instance : Enters ag 130 := ⟨by kernel_rfl⟩
instance : Enters ag 131 := ⟨by kernel_rfl⟩
instance : Enters ag 132 := ⟨by kernel_rfl⟩
instance : Enters ag 133 := ⟨by kernel_rfl⟩
instance : Enters ag 134 := ⟨by kernel_rfl⟩
instance : Enters ag 135 := ⟨by kernel_rfl⟩
instance : Enters ag 136 := ⟨by kernel_rfl⟩
instance : Enters ag 137 := ⟨by kernel_rfl⟩
instance : Enters ag 138 := ⟨by kernel_rfl⟩
instance : Enters ag 139 := ⟨by kernel_rfl⟩
instance : Enters ag 140 := ⟨by kernel_rfl⟩
instance : Enters ag 141 := ⟨by kernel_rfl⟩
instance : Enters ag 142 := ⟨by kernel_rfl⟩
instance : Enters ag 143 := ⟨by kernel_rfl⟩
instance : Enters ag 144 := ⟨by kernel_rfl⟩
instance : Enters ag 145 := ⟨by kernel_rfl⟩
instance : Enters ag 146 := ⟨by kernel_rfl⟩
instance : Enters ag 147 := ⟨by kernel_rfl⟩
instance : Enters ag 148 := ⟨by kernel_rfl⟩
instance : Enters ag 149 := ⟨by kernel_rfl⟩
instance : Enters ag 150 := ⟨by kernel_rfl⟩
instance : Enters ag 151 := ⟨by kernel_rfl⟩
instance : Enters ag 152 := ⟨by kernel_rfl⟩
instance : Enters ag 153 := ⟨by kernel_rfl⟩
instance : Enters ag 154 := ⟨by kernel_rfl⟩
instance : Enters ag 155 := ⟨by kernel_rfl⟩
instance : Enters ag 156 := ⟨by kernel_rfl⟩
instance : Enters ag 157 := ⟨by kernel_rfl⟩
instance : Enters ag 158 := ⟨by kernel_rfl⟩
instance : Enters ag 159 := ⟨by kernel_rfl⟩
instance : Enters ag 160 := ⟨by kernel_rfl⟩
instance : Enters ag 163 := ⟨by kernel_rfl⟩
instance : Enters ag 164 := ⟨by kernel_rfl⟩
instance : Enters ag 165 := ⟨by kernel_rfl⟩
instance : Enters ag 166 := ⟨by kernel_rfl⟩
instance : Enters ag 167 := ⟨by kernel_rfl⟩
instance : Enters ag 168 := ⟨by kernel_rfl⟩
instance : Enters ag 169 := ⟨by kernel_rfl⟩
instance : Enters ag 170 := ⟨by kernel_rfl⟩
instance : Enters ag 171 := ⟨by kernel_rfl⟩
instance : Enters ag 172 := ⟨by kernel_rfl⟩
instance : Enters ag 173 := ⟨by kernel_rfl⟩
instance : Enters ag 174 := ⟨by kernel_rfl⟩
instance : Enters ag 175 := ⟨by kernel_rfl⟩
instance : Enters ag 176 := ⟨by kernel_rfl⟩
instance : Enters ag 177 := ⟨by kernel_rfl⟩
instance : Enters ag 179 := ⟨by kernel_rfl⟩
instance : Enters ag 180 := ⟨by kernel_rfl⟩
instance : Enters ag 181 := ⟨by kernel_rfl⟩
instance : Enters ag 182 := ⟨by kernel_rfl⟩
instance : Enters ag 185 := ⟨by kernel_rfl⟩
instance : Enters ag 186 := ⟨by kernel_rfl⟩
instance : Enters ag 187 := ⟨by kernel_rfl⟩
instance : Enters ag 188 := ⟨by kernel_rfl⟩
instance : Enters ag 189 := ⟨by kernel_rfl⟩
instance : Enters ag 190 := ⟨by kernel_rfl⟩
instance : Enters ag 191 := ⟨by kernel_rfl⟩
instance : Enters ag 192 := ⟨by kernel_rfl⟩
instance : Enters ag 194 := ⟨by kernel_rfl⟩
instance : Enters ag 195 := ⟨by kernel_rfl⟩
instance : Enters ag 196 := ⟨by kernel_rfl⟩
instance : Enters ag 197 := ⟨by kernel_rfl⟩
instance : Enters ag 198 := ⟨by kernel_rfl⟩
instance : Enters ag 199 := ⟨by kernel_rfl⟩
instance : Enters ag 200 := ⟨by kernel_rfl⟩
instance : Enters ag 201 := ⟨by kernel_rfl⟩
instance : Enters ag 203 := ⟨by kernel_rfl⟩
instance : Enters ag 204 := ⟨by kernel_rfl⟩
instance : Enters ag 205 := ⟨by kernel_rfl⟩
instance : Enters ag 206 := ⟨by kernel_rfl⟩
instance : Enters ag 208 := ⟨by kernel_rfl⟩
instance : Enters ag 209 := ⟨by kernel_rfl⟩
instance : Enters ag 212 := ⟨by kernel_rfl⟩
instance : Enters ag 213 := ⟨by kernel_rfl⟩
instance : Enters ag 215 := ⟨by kernel_rfl⟩
instance : Enters ag 216 := ⟨by kernel_rfl⟩
instance : Enters ag 217 := ⟨by kernel_rfl⟩
instance : Enters ag 218 := ⟨by kernel_rfl⟩
instance : Enters ag 219 := ⟨by kernel_rfl⟩
def tab : y4 where
 ty := [(0, false, 1), (1, false, 1), (2, false, 1), (3, false, 1), (4, false, 1), (9, false, 1), (20, false, 1), (22, false, 1), (25, false, 1), (27, false, 1), (28, false, 1), (30, true, 10), (32, false, 1), (34, true, 2), (36, true, 2), (38, true, 2), (40, true, 2), (53, true, 5), (68, true, 5), (69, false, 1), (75, false, 1), (76, false, 1), (78, true, 13), (85, true, 2), (87, true, 4), (95, true, 13), (103, true, 4), (104, true, 6), (108, false, 1), (115, false, 1), (124, false, 1), (129, false, 1), (133, false, 1), (134, false, 1), (136, true, 1), (138, true, 2), (140, false, 1), (144, false, 1), (146, true, 2), (148, true, 4), (150, true, 13), (153, false, 1), (155, true, 4), (157, false, 1), (160, false, 1), (162, false, 1), (175, false, 1), (176, false, 1), (178, false, 1), (181, true, 4), (193, false, 1), (194, false, 1), (196, false, 1), (201, false, 1), (204, false, 1), (209, false, 1), (210, false, 1), (212, false, 1), (214, true, 3), (223, true, 6), (225, true, 3), (227, true, 10), (229, false, 1), (230, true, 4), (231, false, 1), (232, false, 1), (234, false, 1), (238, false, 1), (246, true, 4), (250, true, 2), (251, false, 1), (258, false, 1), (264, false, 1)]
 zero := [(1, [.nilFunc]), (2, [.int .i64 0]), (3, [.int .i64 0]), (4, [.bool false]), (9, [.string ByteArray.empty]), (20, [.nilIface]), (22, [.slice none 0 0]), (25, [.pointer none]), (27, [.slice none 0 0]), (28, [.slice none 0 0]), (30, [.int .i64 0, .int .i64 0, .int .i64 0, .int .i64 0, .int .i64 0, .int .i64 0, .bool false, .slice none 0 0, .slice none 0 0, .slice none 0 0]), (32, [.slice none 0 0]), (34, [.slice none 0 0, .slice none 0 0]), (36, [.int .i64 0, .int .i64 0]), (38, [.int .i64 0, .int .i64 0]), (40, [.int .i64 0, .int .i64 0]), (53, [.int .i64 0, .int .i64 0, .int .i64 0, .int .i64 0, .int .i64 0]), (68, [.int .i64 0, .int .i64 0, .int .i64 0, .int .i64 0, .int .i64 0]), (69, [.slice none 0 0]), (75, [.pointer none]), (76, [.slice none 0 0]), (78, [.slice none 0 0, .int .i64 0, .int .i64 0, .int .i64 0, .int .i64 0, .int .i64 0, .int .i64 0, .bool false, .slice none 0 0, .slice none 0 0, .slice none 0 0, .pointer none, .slice none 0 0]), (85, [.bool false, .slice none 0 0]), (87, [.bool false, .slice none 0 0, .bool false, .slice none 0 0]), (95, [.int .i64 0, .bool false, .slice none 0 0, .bool false, .slice none 0 0, .bool false, .slice none 0 0, .bool false, .slice none 0 0, .int .i64 0, .int .i64 0, .int .i64 0, .int .i64 0]), (103, [.nilFunc, .nilFunc, .nilFunc, .nilFunc]), (104, [.int .i64 0, .int .i64 0, .int .i64 0, .int .i64 0, .int .i64 0, .int .i64 0]), (108, [.nilFunc]), (115, [.slice none 0 0]), (129, [.slice none 0 0]), (133, [.nilFunc]), (134, [.slice none 0 0]), (136, [.slice none 0 0]), (138, [.slice none 0 0, .int .i64 0]), (144, [.int .u64 0]), (146, [.int .i64 0, .int .u64 0]), (148, [.int .i64 0, .int .u64 0, .int .i64 0, .int .u64 0]), (150, [.int .i64 0, .int .i64 0, .int .u64 0, .int .i64 0, .int .u64 0, .int .i64 0, .int .u64 0, .int .i64 0, .int .u64 0, .int .i64 0, .int .i64 0, .int .i64 0, .int .i64 0]), (153, [.pointer none]), (155, [.int .i64 0, .int .i64 0, .int .i64 0, .int .i64 0]), (160, [.nilFunc]), (175, [.int .i64 0]), (181, [.int .i64 0, .int .i64 0, .int .i64 0, .int .i64 0]), (193, [.slice none 0 0]), (194, [.slice none 0 0]), (209, [.int .u64 0]), (212, [.pointer none]), (214, [.int .i64 0, .int .i64 0, .int .i64 0]), (223, [.int .i64 0, .int .i64 0, .int .i64 0, .int .i64 0, .bool false, .bool false]), (225, [.int .i64 0, .int .i64 0, .bool false]), (227, [.int .i64 0, .int .i64 0, .int .i64 0, .int .i64 0, .int .i64 0, .int .i64 0, .bool false, .int .i64 0, .int .i64 0, .bool false]), (229, [.nilFunc]), (230, [.nilFunc, .nilFunc, .nilFunc, .nilFunc]), (231, [.int .u32 0]), (238, [.nilFunc]), (246, [.int .i64 0, .int .i64 0, .int .i64 0, .int .i64 0]), (250, [.int .u64 0, .int .u64 0])]
 ow := [(30, [(0, 0), (1, 1), (2, 2), (3, 3), (4, 4), (5, 5), (6, 6), (7, 7), (8, 8), (9, 9)]), (34, [(0, 0), (1, 1)]), (36, [(0, 0), (1, 1)]), (38, [(0, 0), (1, 1)]), (40, [(0, 0), (1, 1)]), (53, [(0, 0), (1, 2), (2, 4)]), (68, [(0, 0), (1, 2), (2, 4)]), (78, [(0, 0), (1, 1), (2, 11), (3, 12)]), (85, [(0, 0), (1, 1)]), (87, [(0, 0), (1, 2)]), (95, [(0, 0), (1, 1), (2, 5), (3, 9), (4, 11)]), (136, [(0, 0)]), (138, [(0, 0), (1, 1)]), (146, [(0, 0), (1, 1)]), (148, [(0, 0), (1, 2)]), (150, [(0, 0), (1, 1), (2, 5), (3, 9), (4, 11)]), (155, [(0, 0), (1, 2)]), (181, [(0, 0), (1, 2)]), (214, [(0, 0), (1, 2)]), (223, [(0, 0), (1, 2), (2, 4), (3, 5)]), (225, [(0, 0), (1, 1), (2, 2)]), (227, [(0, 0), (1, 2), (2, 4), (3, 7)]), (246, [(0, 0), (1, 2)]), (250, [(0, 0), (1, 1)])]
 nD := [(103, 4, 1), (104, 6, 1), (230, 4, 1)]
 iS := [(30, [(0, 1), (1, 1), (2, 1), (3, 1), (4, 1), (5, 1), (6, 1), (7, 1), (8, 1), (9, 1)]), (34, [(0, 1), (1, 1)]), (36, [(0, 1), (1, 1)]), (38, [(0, 1), (1, 1)]), (40, [(0, 1), (1, 1)]), (53, [(0, 2), (2, 2), (4, 1)]), (68, [(0, 2), (2, 2), (4, 1)]), (78, [(0, 1), (1, 10), (11, 1), (12, 1)]), (85, [(0, 1), (1, 1)]), (87, [(0, 2), (2, 2)]), (95, [(0, 1), (1, 4), (5, 4), (9, 2), (11, 2)]), (103, [(0, 1), (1, 1), (2, 1), (3, 1)]), (104, [(0, 1), (1, 1), (2, 1), (3, 1), (4, 1), (5, 1)]), (136, [(0, 1)]), (138, [(0, 1), (1, 1)]), (146, [(0, 1), (1, 1)]), (148, [(0, 2), (2, 2)]), (150, [(0, 1), (1, 4), (5, 4), (9, 2), (11, 2)]), (155, [(0, 2), (2, 2)]), (181, [(0, 2), (2, 2)]), (214, [(0, 2), (2, 1)]), (223, [(0, 2), (2, 2), (4, 1), (5, 1)]), (225, [(0, 1), (1, 1), (2, 1)]), (227, [(0, 2), (2, 2), (4, 3), (7, 3)]), (230, [(0, 1), (1, 1), (2, 1), (3, 1)]), (246, [(0, 2), (2, 2)]), (250, [(0, 1), (1, 1)])]
theorem xg {α β : Type} {g h : α → β} : ∀ l : List α, l.map g = l.map h → lX (fun p => g p = h p) l
 | [], _ => trivial
 | a :: l, e => by
  rw [jJ, jJ, List.cons.injEq] at e;exact ⟨e.1, xg l e.2⟩
theorem L2 {α β γ : Type} {k : α → List γ} {g h : α → γ → β} : ∀ l : List α, (l.map fun p => (k p).map (g p)) = (l.map fun p => (k p).map (h p)) → lX (fun p => lX (fun q => g p q = h p q) (k p)) l
 | [], _ => trivial
 | a :: l, e => by
  rw [jJ, jJ, List.cons.injEq] at e;exact ⟨xg _ e.1, L2 l e.2⟩
theorem aiI : lX (fun p => kX ag p.1 = some p.2) tab.ty := xg _ (by kernel_rfl)
theorem aiJ : lX (fun p => zeroOf ag p.1 = some p.2) tab.zero := xg _ (by kernel_rfl)
theorem aiF : lX (fun p => Cr ag p.1 = some p.2) tab.nD := xg _ (by kernel_rfl)
theorem aiH : lX (fun p => E5 ag p.1 = some p.2) tab.iS := xg _ (by kernel_rfl)
theorem aiG : lX (fun p => lX (fun q => ud ag p.1 q.1 = some q.2) p.2) tab.ow := L2 _ (by kernel_rfl)
instance : Gl ag tab := ⟨aiI, aiJ, aiG, aiF, aiH⟩
end Go.Proofs.YtbcecodakfejaaaGreat
namespace Go.Proofs.YtbcecodakfejaaaGreat
open Go.RowKit
section
variable {P : Program} {s : aC} {ops : Array Oper} {K : aC → Prop} {rest : List Oper} {ty : Nat} {pos : String} {after : Array Edge} {guard : Option (Nat × Bool)} {d : Nat}
theorem Wq {dp : Nat} {x : Operand} {k : IntKind} {a c : Int} (hw : want ops ⟨some d, .unOp .neg dp x, ty, pos, after, guard⟩ s = some true) (aa : s.look x = some (aQ (.int k a))) (aj : k.wrap (-a) = c) (hd : Nat.blt d s.n = true) (h : bg P ops K rest (s.put (some d) (aQ (.int k c)))) : bg P ops K (⟨some d, .unOp .neg dp x, ty, pos, after, guard⟩ :: rest) s := by
 refine L0 hw aa (fun W => ?_) rfl hd h;rw [← aj, show -a = 0 - a by omega];cases k <;> rfl
end
abbrev jL (l1 l2 h1 h2 : Int) : ah := .w (.agg [.c (.int .i64 l1), .c (.int .i64 l2), .c (.int .i64 h1), .c (.int .i64 h2)])
def bZ (a b c d : Int) : Bool := decide (a = c) && decide (b = d)
theorem iJ {a b c d : Int} : bZ a b c d = true ↔ a = c ∧ b = d := by unfold bZ; rw [c6, cg, cg]
def ua (a b c d a' bE c' d' : Int) : Bool := bZ a b a' bE && bZ c d c' d'
class BW (P : Program) (t : TypeId) : Prop where
 g : P.eqGuardType P.depth t = false
 h : ∀ (a b c d : Int) W, (Op.equalIn 10000 t (.agg #[.int .i64 a, .int .i64 b]) (.agg #[.int .i64 c, .int .i64 d])).run P W = .ok (bZ a b c d) W
class K6 (P : Program) (t : TypeId) : Prop where
 g : P.eqGuardType P.depth t = false
 h : ∀ (a b c d a' bE c' d' : Int) W, (Op.equalIn 10000 t (.agg #[.int .i64 a, .int .i64 b, .int .i64 c, .int .i64 d]) (.agg #[.int .i64 a', .int .i64 bE, .int .i64 c', .int .i64 d'])).run P W = .ok (ua a b c d a' bE c' d') W
theorem CU {P : Program} {op : BinOp} {t : TypeId} {x y : Operand} {u v : Array Value} {W : World} (an : P.eqGuardType P.depth t = false) : (eqGuard op t x y (.agg u) (.agg v)).run P W = .ok () W := by
 unfold eqGuard;cases op <;> first | rfl | simp [Sem.run_bind, program, Sem.run, Result.andThen, an]
section
variable {P : Program} {s : aC} {ops : Array Oper} {K : aC → Prop} {rest : List Oper} {ty : Nat} {pos : String} {after : Array Edge} {guard : Option (Nat × Bool)} {d : Nat}
theorem VY {t ed : Nat} {x y : Operand} {a b a' bE : Int} [E : BW P t] (hw : want ops ⟨some d, .binOp .eql t x y ed, ty, pos, after, guard⟩ s = some true) (aa : s.look x = some (aE a b)) (ai : s.look y = some (aE a' bE)) (hd : Nat.blt d s.n = true) (h : bg P ops K rest (s.put (some d) (a7 (bZ a b a' bE)))) : bg P ops K (⟨some d, .binOp .eql t x y ed, ty, pos, after, guard⟩ :: rest) s :=
 vy hw aa ai rfl rfl (fun W => CU E.g) (fun W => by rw [run_eql_struct, E.h]; rfl) rfl hd h
theorem Ws {t ed : Nat} {x y : Operand} {a b a' bE : Int} [E : BW P t] (hw : want ops ⟨some d, .binOp .neq t x y ed, ty, pos, after, guard⟩ s = some true) (aa : s.look x = some (aE a b)) (ai : s.look y = some (aE a' bE)) (hd : Nat.blt d s.n = true) (h : bg P ops K rest (s.put (some d) (a7 (!bZ a b a' bE)))) : bg P ops K (⟨some d, .binOp .neq t x y ed, ty, pos, after, guard⟩ :: rest) s :=
 vy hw aa ai rfl rfl (fun W => CU E.g) (fun W => by rw [run_neq_struct, E.h]; rfl) rfl hd h
theorem VX {t ed : Nat} {x y : Operand} {a b c e a' bE c' bm : Int} [E : K6 P t] (hw : want ops ⟨some d, .binOp .eql t x y ed, ty, pos, after, guard⟩ s = some true) (aa : s.look x = some (jL a b c e)) (ai : s.look y = some (jL a' bE c' bm)) (hd : Nat.blt d s.n = true) (h : bg P ops K rest (s.put (some d) (a7 (ua a b c e a' bE c' bm)))) : bg P ops K (⟨some d, .binOp .eql t x y ed, ty, pos, after, guard⟩ :: rest) s :=
 vy hw aa ai rfl rfl (fun W => CU E.g) (fun W => by rw [run_eql_struct, E.h]; rfl) rfl hd h
end
theorem Yr (a b c d : Int) (W : World) : (Op.equalIn 10000 36 (.agg #[.int .i64 a, .int .i64 b]) (.agg #[.int .i64 c, .int .i64 d])).run ag W = .ok (bZ a b c d) W := by
 unfold bZ
 go_simp
 by_cases h1 : a = c <;> by_cases h2 : b = d <;> simp [h1, h2]
instance akT : BW ag 36 := ⟨by kernel_rfl, Yr⟩
theorem Yq (a b c d : Int) (W : World) : (Op.equalIn 10000 38 (.agg #[.int .i64 a, .int .i64 b]) (.agg #[.int .i64 c, .int .i64 d])).run ag W = .ok (bZ a b c d) W := by
 unfold bZ
 go_simp
 by_cases h1 : a = c <;> by_cases h2 : b = d <;> simp [h1, h2]
instance akU : BW ag 38 := ⟨by kernel_rfl, Yq⟩
def sK (n : Int) : Bool := decide (-536870912 ≤ n) && decide (n ≤ 536870912)
theorem NE {n : Int} : sK n = true ↔ -536870912 ≤ n ∧ n ≤ 536870912 := by unfold sK; rw [c6, cg, cg]
def cp (x y : Int) : Bool := sK x && sK y
theorem Fc {x y : Int} : cp x y = true ↔ (-536870912 ≤ x ∧ x ≤ 536870912) ∧ -536870912 ≤ y ∧ y ≤ 536870912 := by unfold cp; rw [c6, NE, NE]
theorem RB {n : Int} {b : Bool} (ab : sK n = b) : au ag 189 [ax n] (a7 b) := by
 have cs : (-536870912 ≤ n ∧ n ≤ 536870912 ∧ b = true) ∨ (-536870912 ≤ n ∧ ¬ n ≤ 536870912 ∧ b = false) ∨ (¬ -536870912 ≤ n ∧ b = false) := by
  rw [← ab]; unfold sK
  by_cases h1 : -536870912 ≤ n <;> by_cases h2 : n ≤ 536870912 <;> simp [h1, h2]
 clear ab;rcases cs with ⟨h1, h2, rfl⟩ | ⟨h1, h2, rfl⟩ | ⟨h1, rfl⟩
 all_goals
  refine bd (f := 189) Tryz.func189 rfl rfl rfl rfl ?_;(repeat first | refine dv ?_ | (with_reducible apply bP (c := true)); rfl; rfl; (exact cd (by omega)) | (with_reducible apply bP (c := false)); rfl; rfl; (exact cA (by omega)))
  ((refine aW rfl (aY rfl aJ) ?_))
  first | exact ah.aK.refl _ | exact ah.aK.of_eq (by rw [cd h2]; rfl) | exact ah.aK.of_eq (by rw [cA h2]; rfl)
theorem tl {x y : Int} {b : Bool} (ab : cp x y = b) : au ag 164 [aE x y] (a7 b) := by
 have aS := RB (n := x) rfl;have bD := RB (n := y) rfl;unfold cp at ab;cases q1 : sK x <;> cases q2 : sK y <;> rw [q1] at aS <;> rw [q2] at bD <;> rw [q1, q2] at ab <;> subst ab <;> clear q1 q2
 all_goals
  refine bd (f := 164) Tryz.func164 rfl rfl rfl rfl ?_;(refine bS ?_)
  ((refine aW rfl (aY rfl aJ) ?_))
  exact ah.aK.refl _
def bW (o1 o2 a1 a2 b1 b2 : Int) : Int := (a1 - o1) * (b2 - o2) - (a2 - o2) * (b1 - o1)
theorem Eo {x y A B : Int} (h1 : -A ≤ x) (h2 : x ≤ A) (h3 : -B ≤ y) (aD : y ≤ B) : -(A * B) ≤ x * y ∧ x * y ≤ A * B := by
 have aa : x.natAbs ≤ A.natAbs := by omega
 have ai : y.natAbs ≤ B.natAbs := by omega
 have h := Nat.mul_le_mul aa ai;rw [← Int.natAbs_mul, ← Int.natAbs_mul] at h;have dn : 0 ≤ A * B := ga (by omega) (by omega);omega
theorem QD {x y : Int} (h1 : -1073741824 ≤ x) (h2 : x ≤ 1073741824) (h3 : -1073741824 ≤ y) (aD : y ≤ 1073741824) : -1152921504606846976 ≤ x * y ∧ x * y ≤ 1152921504606846976 := by
 have := Eo h1 h2 h3 aD;omega
theorem Ru {o1 o2 a1 a2 b1 b2 : Int} (az : cp o1 o2 = true) (aF : cp a1 a2 = true) (ab : cp b1 b2 = true) : au ag 146 [aE o1 o2, aE a1 a2, aE b1 b2] (ax (bW o1 o2 a1 a2 b1 b2)) := by
 have bf := tl az;have ev := tl aF;have fR := tl ab;rw [Fc] at az aF ab;have m1 := QD (x := a1 - o1) (y := b2 - o2) (by omega) (by omega) (by omega) (by omega);have m2 := QD (x := a2 - o2) (y := b1 - o1) (by omega) (by omega) (by omega) (by omega);refine bd (f := 146) Tryz.func146 rfl rfl rfl rfl ?_;(refine bS ?_)
 ((refine aW rfl (aY rfl aJ) ?_))
 exact ah.aK.refl _
theorem aeD {o1 o2 a1 a2 b1 b2 : Int} (h : (cp o1 o2 && cp a1 a2 && cp b1 b2) = false) : au ag 146 [aE o1 o2, aE a1 a2, aE b1 b2] (ax 0) := by
 have bf := tl (x := o1) (y := o2) rfl;have ev := tl (x := a1) (y := a2) rfl;have fR := tl (x := b1) (y := b2) rfl
 have cs : cp o1 o2 = false ∨ (cp o1 o2 = true ∧ cp a1 a2 = false) ∨ (cp o1 o2 = true ∧ cp a1 a2 = true ∧ cp b1 b2 = false) := by
  generalize cp o1 o2 = p at *;generalize cp a1 a2 = q at *;generalize cp b1 b2 = r at *;cases p <;> cases q <;> cases r <;> simp_all
 clear h;rcases cs with h1 | ⟨h1, h2⟩ | ⟨h1, h2, h3⟩ <;> simp only [*] at bf ev fR
 all_goals
  refine bd (f := 146) Tryz.func146 rfl rfl rfl rfl ?_;(refine bS ?_)
  ((refine aW rfl (aY rfl aJ) ?_))
  exact ah.aK.refl _
def ig (o1 o2 a1 a2 b1 b2 : Int) : Int := if (cp o1 o2 && cp a1 a2 && cp b1 b2) = true then bW o1 o2 a1 a2 b1 b2 else 0
theorem aeC {o1 o2 a1 a2 b1 b2 : Int} : au ag 146 [aE o1 o2, aE a1 a2, aE b1 b2] (ax (ig o1 o2 a1 a2 b1 b2)) := by
 unfold ig
 by_cases h : (cp o1 o2 && cp a1 a2 && cp b1 b2) = true
 ·rw [if_pos h];simp only [c6] at h;exact Ru h.1.1 h.1.2 h.2
 ·rw [if_neg h];exact aeD (by simpa using h)
def sa (n : Int) : Int := if n < 0 then -1 else if 0 < n then 1 else 0
theorem ae5 {o1 o2 a1 a2 b1 b2 : Int} : au ag 192 [aE o1 o2, aE a1 a2, aE b1 b2] (ax (sa (ig o1 o2 a1 a2 b1 b2))) := by
 have aS := aeC (o1 := o1) (o2 := o2) (a1 := a1) (a2 := a2) (b1 := b1) (b2 := b2);generalize ig o1 o2 a1 a2 b1 b2 = c at *;have cs : (c < 0 ∧ sa c = -1) ∨ (¬ c < 0 ∧ 0 < c ∧ sa c = 1) ∨ (¬ c < 0 ∧ ¬ 0 < c ∧ sa c = 0) := by unfold sa; repeat' split <;> omega
 rcases cs with ⟨h1, h⟩ | ⟨h1, h2, h⟩ | ⟨h1, h2, h⟩ <;> rw [h] <;> clear h
 all_goals
  refine bd (f := 192) Tryz.func192 rfl rfl rfl rfl ?_;(refine bS ?_)
  ((refine aW rfl (aY rfl aJ) ?_))
  exact ah.aK.refl _
abbrev fG (a b : Int) : Int := if b < a then b else a
abbrev fF (a b : Int) : Int := if b > a then b else a
theorem aez {a1 a2 b1 b2 : Int} : au ag 191 [aE a1 a2, aE b1 b2] (jL (fG a1 b1) (fG a2 b2) (fF a1 b1) (fF a2 b2)) := by
 refine bd (f := 191) Tryz.func191 rfl rfl rfl rfl ?_;(refine eF ?_)
 ((refine aW rfl (cD rfl rfl rfl aJ) ?_))
 exact ah.aK.refl _
def eM (l1 l2 h1 h2 p1 p2 : Int) : Bool := decide (l1 ≤ p1) && decide (p1 ≤ h1) && decide (l2 ≤ p2) && decide (p2 ≤ h2)
theorem Zc {l1 l2 h1 h2 p1 p2 : Int} : eM l1 l2 h1 h2 p1 p2 = true ↔ l1 ≤ p1 ∧ p1 ≤ h1 ∧ l2 ≤ p2 ∧ p2 ≤ h2 := by unfold eM; simp only [c6, cg, and_assoc]
theorem aeM {l1 l2 h1 h2 p1 p2 : Int} {b : Bool} (ab : eM l1 l2 h1 h2 p1 p2 = b) : au ag 190 [jL l1 l2 h1 h2, aE p1 p2] (a7 b) := by
 have cs : (l1 ≤ p1 ∧ p1 ≤ h1 ∧ l2 ≤ p2 ∧ p2 ≤ h2 ∧ b = true) ∨ (l1 ≤ p1 ∧ p1 ≤ h1 ∧ l2 ≤ p2 ∧ ¬ p2 ≤ h2 ∧ b = false) ∨ (l1 ≤ p1 ∧ p1 ≤ h1 ∧ ¬ l2 ≤ p2 ∧ b = false) ∨ (l1 ≤ p1 ∧ ¬ p1 ≤ h1 ∧ b = false) ∨ (¬ l1 ≤ p1 ∧ b = false) := by
  rw [← ab]; unfold eM
  by_cases q1 : l1 ≤ p1 <;> by_cases q2 : p1 ≤ h1 <;> by_cases bB : l2 ≤ p2 <;> by_cases cS : p2 ≤ h2 <;> simp [q1, q2, bB, cS]
 clear ab;rcases cs with ⟨q1, q2, bB, cS, rfl⟩ | ⟨q1, q2, bB, cS, rfl⟩ | ⟨q1, q2, bB, rfl⟩ | ⟨q1, q2, rfl⟩ | ⟨q1, rfl⟩
 all_goals
  refine bd (f := 190) Tryz.func190 rfl rfl rfl rfl ?_;(repeat first | refine dv ?_ | (with_reducible apply bP (c := true)); rfl; rfl; (exact cd (by omega)) | (with_reducible apply bP (c := false)); rfl; rfl; (exact cA (by omega)))
  ((refine aW rfl (aY rfl aJ) ?_))
  first | exact ah.aK.refl _ | exact ah.aK.of_eq (by rw [cd cS]; rfl) | exact ah.aK.of_eq (by rw [cA cS]; rfl)
def mF (p1 p2 a1 a2 b1 b2 : Int) : Bool := cp p1 p2 && cp a1 a2 && cp b1 b2 && eM (fG a1 b1) (fG a2 b2) (fF a1 b1) (fF a2 b2) p1 p2 && decide (bW a1 a2 b1 b2 p1 p2 = 0)
theorem ah0 {n : Int} : sa n = 0 ↔ n = 0 := by unfold sa; repeat' split <;> omega
theorem aeW {p1 p2 a1 a2 b1 b2 : Int} {b : Bool} (ab : mF p1 p2 a1 a2 b1 b2 = b) : au ag 165 [aE p1 p2, aE a1 a2, aE b1 b2] (a7 b) := by
 have bf := tl (x := p1) (y := p2) rfl;have ev := tl (x := a1) (y := a2) rfl;have fR := tl (x := b1) (y := b2) rfl;have H1 := aez (a1 := a1) (a2 := a2) (b1 := b1) (b2 := b2);have dd := aeM (l1 := fG a1 b1) (l2 := fG a2 b2) (h1 := fF a1 b1) (h2 := fF a2 b2) (p1 := p1) (p2 := p2) rfl;have vw := ae5 (o1 := a1) (o2 := a2) (a1 := b1) (a2 := b2) (b1 := p1) (b2 := p2);unfold mF at ab
 have cs : (cp p1 p2 = false ∧ b = false) ∨ (cp p1 p2 = true ∧ cp a1 a2 = false ∧ b = false) ∨ (cp p1 p2 = true ∧ cp a1 a2 = true ∧ cp b1 b2 = false ∧ b = false)
   ∨ (cp p1 p2 = true ∧ cp a1 a2 = true ∧ cp b1 b2 = true ∧ eM (fG a1 b1) (fG a2 b2) (fF a1 b1) (fF a2 b2) p1 p2 = false ∧ b = false)
   ∨ (cp p1 p2 = true ∧ cp a1 a2 = true ∧ cp b1 b2 = true ∧ eM (fG a1 b1) (fG a2 b2) (fF a1 b1) (fF a2 b2) p1 p2 = true ∧ b = decide (sa (ig a1 a2 b1 b2 p1 p2) = 0)) := by
  have e : decide (sa (ig a1 a2 b1 b2 p1 p2) = 0) = decide (ig a1 a2 b1 b2 p1 p2 = 0) := by rw [kR, cg, cg, ah0]
  rw [e];unfold ig;generalize bW a1 a2 b1 b2 p1 p2 = c at *;generalize cp p1 p2 = b4 at *;generalize cp a1 a2 = ck at *;generalize cp b1 b2 = hM at *;generalize eM _ _ _ _ p1 p2 = lO at *;cases b4 <;> cases ck <;> cases hM <;> cases lO <;> simp_all
 clear ab;generalize eM _ _ _ _ p1 p2 = lO at *;generalize fG a1 b1 = i1 at *;generalize fG a2 b2 = i2 at *;generalize fF a1 b1 = i3 at *;generalize fF a2 b2 = i4 at *;generalize sa (ig a1 a2 b1 b2 p1 p2) = t at *;rcases cs with ⟨h1, rfl⟩ | ⟨h1, h2, rfl⟩ | ⟨h1, h2, h3, rfl⟩ | ⟨h1, h2, h3, rfl, rfl⟩ | ⟨h1, h2, h3, rfl, rfl⟩ <;> simp only [*] at bf ev fR
 all_goals
  refine bd (f := 165) Tryz.func165 rfl rfl rfl rfl ?_;(refine bS ?_)
  ((refine aW rfl (aY rfl aJ) ?_))
  exact ah.aK.refl _
end Go.Proofs.YtbcecodakfejaaaGreat
