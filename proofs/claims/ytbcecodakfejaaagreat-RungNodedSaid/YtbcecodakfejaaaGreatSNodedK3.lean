/-
  My own texts, without what this claim does not need. My own text.
-/
import Derived.Tactics
import Derived.IntWalk
import Derived.Test.YtbcecodakfejaaaGreatProg
import Derived.ProofKit
import Derived.Laws.StructEq
import Derived.Test.YtbcecodakfejaaaGreatSNodedK2
set_option maxRecDepth 100000
set_option maxHeartbeats 64000000
set_option linter.unusedVariables false
set_option linter.unusedSimpArgs false
set_option linter.unusedSectionVars false
open Go.Proofs.Tryz renaming prog → ag
namespace Go.Proofs.YtbcecodakfejaaaGreat
open Go.RowKit
abbrev aR (v : Value) : ah := .w (.one (.c v))
abbrev aH (n : Int) : ah := aR (.int .i64 n)
abbrev bk (b : Bool) : ah := aR (.bool b)
abbrev jg (k off : Nat) : ah := .w (.one (.own k off))
def ky (P : Program) (ty : TypeId) : Option (Bool × Nat) :=
 match P.underlying ty, P.info? ty with
 | some (.struct _), some i | some (.array _ _), some i => some (true, i.size)
 | some _, some i => some (false, i.size)
 | _, _ => none
class eY (P : Program) (ty : TypeId) (agg : outParam Bool) (n : outParam Nat) : Prop where
 h : ky P ty = some (agg, n)
def zeroOf (P : Program) (ty : TypeId) : Option (List Value) := ((P.info? ty).bind (·.zero)).map fun z => z.cells.toList
class Bk (P : Program) (ty : TypeId) (vs : outParam (List Value)) : Prop where
 h : zeroOf P ty = some vs
def tj (P : Program) (ty : TypeId) (i : Nat) : Option Nat :=
 match P.underlying ty with
 | some (.struct bi) => (bi[i]?).bind fun f => (P.info? f.type).bind fun t => if t.size = 0 then none else some f.offset
 | _ => none
class mV (P : Program) (ty : TypeId) (i : Nat) (off : outParam Nat) : Prop where
 h : tj P ty i = some off
def Br (P : Program) (ty : TypeId) : Option (Nat × Nat) :=
 match P.underlying ty with
 | some (.array n e) => (P.info? e).map fun t => (n, t.size)
 | _ => none
class Jj (P : Program) (ty : TypeId) (n size : outParam Nat) : Prop where
 h : Br P ty = some (n, size)
def sK (P : Program) (ty : TypeId) : Option Nat :=
 match P.underlying ty with
 | some (.slice e) => (P.info? e).map fun t => t.size
 | _ => none
class gS (P : Program) (ty : TypeId) (size : outParam Nat) : Prop where
 h : sK P ty = some size
def DJ (P : Program) (ty : TypeId) : Option (List (Nat × Nat)) :=
 match P.underlying ty with
 | some (.struct bi) => bi.toList.mapM fun f => (P.info? f.type).map fun t => (f.offset, t.size)
 | some (.array n e) => bif Nat.ble n 32 then (P.info? e).map fun t => (List.range n).map fun i => (i * t.size, t.size) else none
 | _ => none
class JB (P : Program) (ty : TypeId) (ps : outParam (List (Nat × Nat))) : Prop where
 h : DJ P ty = some ps
class EF (P : Program) (ty : TypeId) (k : outParam IntKind) : Prop where
 h : P.underlying ty = some (.int k)
class Enters (P : Program) (f : FuncId) : Prop where
 h : enters P f = true
def takeN : List AC → Nat → Nat → Option (List AC)
 | _, 0, 0 => some []
 | [], _, _ => none
 | c :: cs, 0, n + 1 => match takeN cs 0 n with
  | some r => some (c :: r)
  | none => none
 | _ :: cs, off + 1, n => takeN cs off n
def o3 : List AC → Nat → List AC → Option (List AC)
 | cs, 0, [] => some cs
 | [], _, _ => none
 | _ :: cs, 0, d :: ds => match o3 cs 0 ds with
  | some r => some (d :: r)
  | none => none
 | c :: cs, off + 1, ds => match o3 cs off ds with
  | some r => some (c :: r)
  | none => none
theorem Ej : ∀ (cs : List AC) (off n : Nat) (r : List AC), takeN cs off n = some r → off + n ≤ cs.length ∧ (cs.drop off).take n = r
 | cs, 0, 0, r, h => by
  cases cs <;> (simp only [takeN, h0] at h; subst h; simp)
 | [], 0, n + 1, r, h => by simp [takeN] at h
 | [], off + 1, n, r, h => by cases n <;> simp [takeN] at h
 | c :: cs, 0, n + 1, r, h => by
  simp only [takeN] at h
  split at h
  ·rename_i aX ap;cases h;have := Ej cs 0 n aX ap;simp at this ⊢;exact this
  ·cases h
 | c :: cs, off + 1, n, r, h => by
  have aO : takeN cs off n = some r := by cases n <;> simpa [takeN] using h
  have := Ej cs off n r aO;exact ⟨by have := this.1; simp; omega, by simpa using this.2⟩
theorem Aa : ∀ (cs : List AC) (off : Nat) (ds : List AC) (r : List AC), o3 cs off ds = some r → off + ds.length ≤ cs.length ∧ eD cs off ds = r
 | cs, 0, [], r, h => by
  cases cs <;> (simp only [o3, h0] at h; subst h; simp [eD])
 | [], 0, d :: ds, r, h => by simp [o3] at h
 | [], off + 1, ds, r, h => by cases ds <;> simp [o3] at h
 | c :: cs, 0, d :: ds, r, h => by
  simp only [o3] at h
  split at h
  ·rename_i aX ap;cases h;have := Aa cs 0 ds aX ap;simp [eD] at this ⊢;exact this
  ·cases h
 | c :: cs, off + 1, ds, r, h => by
  simp only [o3] at h
  split at h
  ·rename_i aX ap;cases h;have := Aa cs off ds aX ap;simp [eD, Nat.add_right_comm] at this ⊢;exact this
  ·cases h
section
variable {P : Program} {s s' : aA} {o : Oper} {ops : Array Oper} {rest : List Oper} {K : aA → Prop}
theorem iy (h : K s) : bb P ops K [] s := h
theorem Kc {hZ : List (Nat × Nat)} (hs : hZ.all (mi s) = true) (h : K s) : bb P ops (fun s => hZ.all (mi s) = true ∧ K s) [] s := ⟨hs, h⟩
theorem qp {e : cm} (hw : want ops o s = some true) (he : eX P s.n s.look s.mem o true e) (hd : ∀ d, o.dst = some d → d < s.n) (h : bb P ops K rest (e.on o.dst s)) : bb P ops K (o :: rest) s := ⟨true, hw, e, he, hd, h⟩
section
variable {d ty : Nat} {op : Op} {pos : String} {after : Array Edge} {guard : Option (Nat × Bool)}
theorem kU {d : Nat} (hd : Nat.blt d s.n = true) : ∀ d', some d = some d' → d' < s.n := fun d' e => by cases e; simpa [Nat.blt_eq] using hd
theorem Kd {dst : Option Nat} (hw : want ops ⟨dst, op, ty, pos, after, guard⟩ s = some false) (hd : ∀ d, dst = some d → Nat.blt d s.n = true) (h : bb P ops K rest (s.put dst (.cr []))) : bb P ops K (⟨dst, op, ty, pos, after, guard⟩ :: rest) s :=
 ⟨false, hw, _, .skip, fun d e => by have := hd d e; simpa [Nat.blt_eq] using this, h⟩
theorem fN {av : ah} (hw : want ops ⟨some d, op, ty, pos, after, guard⟩ s = some true) (al : wh P s.look ⟨some d, op, ty, pos, after, guard⟩ av) (hd : Nat.blt d s.n = true) (h : bb P ops K rest (s.put (some d) av)) : bb P ops K (⟨some d, op, ty, pos, after, guard⟩ :: rest) s :=
 qp hw (.quiet av al) (kU hd) h
theorem Uq {x : Operand} {av : ah} (hw : want ops ⟨some d, .move x, ty, pos, after, guard⟩ s = some true) (aa : s.look x = some av) (hd : Nat.blt d s.n = true) (h : bb P ops K rest (s.put (some d) av)) : bb P ops K (⟨some d, .move x, ty, pos, after, guard⟩ :: rest) s := by
 refine fN hw ⟨fun _ _ h => (by cases h), fun y ai => ?_, fun U ad W env he => ⟨env x, rfl, he x (by simp [Op.operands]) av aa⟩, fun j ae => ⟨x, by simp [Op.operands], av, aa, ae⟩⟩ hd h;simp [Op.operands] at ai;subst ai;exact ⟨av, aa⟩
theorem TT {x : Operand} {av : ah} (hw : want ops ⟨some d, .assign x, ty, pos, after, guard⟩ s = some true) (aa : s.look x = some av) (hd : Nat.blt d s.n = true) (h : bb P ops K rest (s.put (some d) av)) : bb P ops K (⟨some d, .assign x, ty, pos, after, guard⟩ :: rest) s := by
 refine fN hw ⟨fun _ _ h => (by cases h), fun y ai => ?_, fun U ad W env he => ⟨env x, rfl, he x (by simp [Op.operands]) av aa⟩, fun j ae => ⟨x, by simp [Op.operands], av, aa, ae⟩⟩ hd h;simp [Op.operands] at ai;subst ai;exact ⟨av, aa⟩
theorem T5 {x : Operand} {i : Nat} {xs : List bz} {y : bz} (hw : want ops ⟨some d, .extract x i, ty, pos, after, guard⟩ s = some true) (aa : s.look x = some (.cr xs)) (hi : xs[i]? = some y) (hd : Nat.blt d s.n = true) (h : bb P ops K rest (s.put (some d) (.w y))) : bb P ops K (⟨some d, .extract x i, ty, pos, after, guard⟩ :: rest) s := by
 refine fN (av := .w y) hw ⟨fun _ _ h => (by cases h), fun y ai => ?_, fun U ad W env he => ?_, fun j ae => ⟨x, by simp [Op.operands], _, aa, ⟨y, c7 hi, ae⟩⟩⟩ hd h
 ·simp [Op.operands] at ai;subst ai;exact ⟨_, aa⟩
 ·obtain ⟨vs, e, ak, hv⟩ := he x (by simp [Op.operands]) _ aa;have bg : i < vs.length := by rw [← ak]; exact (bM.1 hi).1
  refine ⟨vs[i], ?_, hv i y _ hi (bN bg)⟩;simp only [execOp, Instr.extract, e];simp [bg]
theorem T8 {x : Operand} {p9 i k off ig : Nat} [F : mV P p9 i ig] (hw : want ops ⟨some d, .fieldAddr p9 x i, ty, pos, after, guard⟩ s = some true) (aa : s.look x = some (jg k off)) (hd : Nat.blt d s.n = true) (h : bb P ops K rest (s.put (some d) (jg k (off + ig)))) : bb P ops K (⟨some d, .fieldAddr p9 x i, ty, pos, after, guard⟩ :: rest) s := by
 refine fN hw ⟨fun _ _ h => (by cases h), fun y ai => ?_, fun U ad W env he => ?_, fun j ae => ⟨x, by simp [Op.operands], _, aa, ?_⟩⟩ hd h
 ·simp [Op.operands] at ai;subst ai;exact ⟨_, aa⟩
 ·have hp : env x = .pointer (some ⟨ad k, off, none⟩) := he x (by simp [Op.operands]) _ aa;have hF := F.h;unfold tj at hF
  split at hF
  ·rename_i bi hu;cases ar : bi[i]? with
   | none => rw [ar] at hF; cases hF
   | some f =>
    rw [ar] at hF;simp only [ks] at hF;cases hi : P.info? f.type with
    | none => rw [hi] at hF; cases hF
    | some t =>
     rw [hi] at hF;simp only [ks] at hF
     split at hF
     ·cases hF
     ·rename_i bU;cases hF;refine ⟨.pointer (some ⟨ad k, off + f.offset, none⟩), ?_, rfl⟩;have kC : (⟨ad k, off, none⟩ : Addr).add f.offset = ⟨ad k, off + f.offset, none⟩ := by unfold Addr.add; split <;> simp_all
      simp only [execOp, Instr.fieldAt, hp, Instr.sureAddr, Sem.run_bind, Sem.run_pure, Result.andThen_ok, run_underlying hu, ar, fieldPlace, hB hi, if_neg bU, kC]
  ·cases hF
 ·obtain ⟨y, ai, l0⟩ := ae;exact ⟨.own k off, by simp [bz.cells], by simp [bz.cells] at ai; subst ai; exact l0⟩
theorem J9 {x y : Operand} {Fe k off n size : Nat} {gX : IntKind} {i : Int} [A : Jj P Fe n size] (hw : want ops ⟨some d, .indexAddr Fe x y, ty, pos, after, guard⟩ s = some true) (aa : s.look x = some (jg k off)) (ai : s.look y = some (aR (.int gX i))) (aD : 0 ≤ i) (h1 : i < n) (hd : Nat.blt d s.n = true) (h : bb P ops K rest (s.put (some d) (jg k (off + i.toNat * size)))) : bb P ops K (⟨some d, .indexAddr Fe x y, ty, pos, after, guard⟩ :: rest) s := by
 refine fN hw ⟨fun _ _ h => (by cases h), fun z aP => ?_, fun U ad W env he => ?_, fun j ae => ⟨x, by simp [Op.operands], _, aa, ?_⟩⟩ hd h
 ·simp [Op.operands] at aP;rcases aP with rfl | rfl
  ·exact ⟨_, aa⟩
  ·exact ⟨_, ai⟩
 ·have hp : env x = .pointer (some ⟨ad k, off, none⟩) := he x (by simp [Op.operands]) _ aa;have hi : env y = .int gX i := (he y (by simp [Op.operands]) _ ai).1;have de := A.h;unfold Br at de
  split at de
  ·rename_i n' e hu;cases c8 : P.info? e with
   | none => rw [c8] at de; cases de
   | some t =>
    rw [c8] at de;cases de;refine ⟨.pointer (some ⟨ad k, off + i.toNat * t.size, none⟩), ?_, rfl⟩;have kC : (⟨ad k, off, none⟩ : Addr).add (i.toNat * t.size) = ⟨ad k, off + i.toNat * t.size, none⟩ := by unfold Addr.add; split <;> simp_all
    simp only [execOp, Instr.indexAt, hp, hi, asIntOf, Instr.sureAddr, Sem.run_bind, Sem.run_pure, Result.andThen_ok, run_underlying hu, hB c8, if_pos (And.intro aD h1), kC]
  ·cases de
 ·obtain ⟨y, ai, l0⟩ := ae;exact ⟨.own k off, by simp [bz.cells], by simp [bz.cells] at ai; subst ai; exact l0⟩
theorem agU {ty n : Nat} (h : ky P ty = some (false, n)) {cs : List AC} {off : Nat} {y : AC} (aj : cs[off]? = some y) : pick P ty cs off = some (.one y) := by
 unfold ky at h;unfold pick;cases hu : P.underlying ty with
 | none => rw [hu] at h; cases h
 | some D =>
  cases hi : P.info? ty with
  | none => rw [hu, hi] at h; cases D <;> cases h
  | some i =>
   rw [hu, hi] at h;cases D <;> first | (simp only [aj, gL]; done) | (exfalso; cases h)
theorem RP {ty n : Nat} (h : ky P ty = some (true, n)) {cs aS : List AC} {off : Nat} (aj : takeN cs off n = some aS) : pick P ty cs off = some (.agg aS) := by
 obtain ⟨h1, h2⟩ := Ej _ _ _ _ aj;unfold ky at h;unfold pick
 split at h
 ·rename_i i hu hi; cases h; simp only [hu, hi, ks, if_pos h1, h2]
 ·rename_i i hu hi; cases h; simp only [hu, hi, ks, if_pos h1, h2]
 ·cases h
 ·cases h
theorem agT {ty n : Nat} {b : Bool} (h : ky P ty = some (b, n)) : ∃ i, P.info? ty = some i ∧ i.size = n := by
 unfold ky at h
 split at h
 ·rename_i i hu hi; cases h; exact ⟨i, hi, rfl⟩
 ·rename_i i hu hi; cases h; exact ⟨i, hi, rfl⟩
 ·rename_i i _ _ hu hi; cases h; exact ⟨_, hi, rfl⟩
 ·cases h
theorem Uh {x : Operand} {lt k off n : Nat} {cs : List AC} {y : AC} [T : eY P lt false n] (hw : want ops ⟨some d, .load lt x, ty, pos, after, guard⟩ s = some true) (aa : s.look x = some (jg k off)) (hm : s.mem k = some cs) (aj : cs[off]? = some y) (hd : Nat.blt d s.n = true) (h : bb P ops K rest (s.put (some d) (.w (.one y)))) : bb P ops K (⟨some d, .load lt x, ty, pos, after, guard⟩ :: rest) s :=
 qp hw (.load lt x k off cs _ rfl aa hm (agU T.h aj)) (kU hd) h
theorem Ui {x : Operand} {lt k off n : Nat} {cs aS : List AC} [T : eY P lt true n] (hw : want ops ⟨some d, .load lt x, ty, pos, after, guard⟩ s = some true) (aa : s.look x = some (jg k off)) (hm : s.mem k = some cs) (aj : takeN cs off n = some aS) (hd : Nat.blt d s.n = true) (h : bb P ops K rest (s.put (some d) (.w (.agg aS)))) : bb P ops K (⟨some d, .load lt x, ty, pos, after, guard⟩ :: rest) s :=
 qp hw (.load lt x k off cs _ rfl aa hm (RP T.h aj)) (kU hd) h
theorem UG {x y : Operand} {st k off n : Nat} {b : Bool} {cs ds : List AC} {z : bz} [T : eY P st b n] (hw : want ops ⟨none, .store st x y, ty, pos, after, guard⟩ s = some true) (aa : s.look x = some (jg k off)) (ai : s.look y = some (.w z)) (hm : s.mem k = some cs) (ax : Nat.beq n z.cells.length = true) (hp : o3 cs off z.cells = some ds) (h : bb P ops K rest (s.eh k ds)) : bb P ops K (⟨none, .store st x y, ty, pos, after, guard⟩ :: rest) s := by
 obtain ⟨i, hi, hs⟩ := agT T.h;obtain ⟨h1, h2⟩ := Aa _ _ _ _ hp;refine qp hw (.store st x y k off cs z i rfl aa ai hm hi (by rw [hs]; exact hb ax) h1) (fun d e => by cases e) ?_;simp only [cm.on, h2];exact h
theorem TS {ib : Nat} {vs : List Value} [Z : Bk P ib vs] (hw : want ops ⟨some d, .alloc ib, ty, pos, after, guard⟩ s = some true) (hm : s.mem d = none) (h1 : (vs.all fun v => v.oneCell') = true) (hd : Nat.blt d s.n = true) (h : bb P ops K rest ((s.eh d (vs.map .c)).put (some d) (jg d 0))) : bb P ops K (⟨some d, .alloc ib, ty, pos, after, guard⟩ :: rest) s := by
 have aP := Z.h;unfold zeroOf at aP;cases hi : P.info? ib with
 | none => rw [hi] at aP; cases aP
 | some i =>
  rw [hi] at aP;simp only [ks] at aP;cases hJ : i.zero with
  | none => rw [hJ] at aP; cases aP
  | some z =>
   rw [hJ] at aP;cases aP;exact qp hw (.new _ d rfl hm (.alloc ib i z _ rfl hi hJ rfl h1)) (kU hd) h
theorem TU {Fk : Nat} {x : Operand} {z : bz} (hw : want ops ⟨some d, .box Fk x, ty, pos, after, guard⟩ s = some true) (aa : s.look x = some (.w z)) (hm : s.mem d = none) (hd : Nat.blt d s.n = true) (h : bb P ops K rest ((s.eh d z.cells).put (some d) (jg d 0))) : bb P ops K (⟨some d, .box Fk x, ty, pos, after, guard⟩ :: rest) s :=
 qp hw (.new _ d rfl hm (.box Fk x z rfl aa)) (kU hd) h
def ti : List AC → Option (List Value)
 | [] => some []
 | .c v :: xs => match ti xs with
  | some r => some (v :: r)
  | none => none
 | _ :: _ => none
def mB : bz → Option Value
 | .one (.c v) => some v
 | .one _ => none
 | .agg xs => match ti xs with
  | some r => some (.agg r.toArray)
  | none => none
theorem LP {U : Nat → Prop} {ad : Nat → Nat} {W : World} : ∀ (xs : List AC) (vs r : List Value), bL U ad W xs vs → ti xs = some r → vs = r
 | [], vs, r, h, he => by cases he; have := h.1; exact kt this.symm
 | .c v :: xs, vs, r, h, he => by
  simp only [ti] at he
  split at he
  ·rename_i aX ap;cases he;cases vs with
   | nil => have := h.1; cases this
   | cons u us =>
    have aD : u = v := (h.2 0 _ _ rfl rfl).1;have := LP xs us aX ⟨by have := h.1; simpa using this, fun i x w aa hw => h.2 (i + 1) x w (by simpa using aa) (by simpa using hw)⟩ ap;rw [aD, this]
  ·cases he
 | .own _ _ :: _, _, _, _, he => by cases he
 | .p _ :: _, _, _, _, he => by cases he
theorem BW {U : Nat → Prop} {ad : Nat → Nat} {W : World} {x : bz} {v u : Value} (h : fX U ad W x v) (he : mB x = some u) : v = u := by
 cases x with
 | one y => cases y with
  | c w => cases he; exact h.1
  | own => cases he
  | p => cases he
 | agg xs =>
  simp only [mB] at he
  split at he
  ·rename_i r ap;cases he;obtain ⟨vs, rfl, ak⟩ := h;rw [LP xs vs r ak ap]
  ·cases he
theorem iE (v : Value) (j : Nat) : ¬ (aR v).owns j := fun ⟨y, ai, h⟩ => by simp [bz.cells] at ai; subst ai; cases h
theorem uL {rI : BinOp} {df dU : Nat} {x y : Operand} {a b : bz} {iM fr v : Value} (hw : want ops ⟨some d, .binOp rI df x y dU, ty, pos, after, guard⟩ s = some true) (aa : s.look x = some (.w a)) (ai : s.look y = some (.w b)) (iz : mB a = some iM) (lS : mB b = some fr)
  (aq : ∀ W, (eqGuard rI df x y iM fr).run P W = .ok () W) (ap : ∀ W, (binOp rI df iM fr).run P W = .ok v W) (h1 : v.oneCell' = true) (hd : Nat.blt d s.n = true) (h : bb P ops K rest (s.put (some d) (aR v))) : bb P ops K (⟨some d, .binOp rI df x y dU, ty, pos, after, guard⟩ :: rest) s := by
 refine fN (av := aR v) hw ⟨fun _ _ h => (by cases h), fun z aP => ?_, fun U ad W env he => ⟨v, ?_, ⟨rfl, h1⟩⟩, fun j ae => absurd ae (iE v j)⟩ hd h
 ·simp [Op.operands] at aP;rcases aP with rfl | rfl
  ·exact ⟨_, aa⟩
  ·exact ⟨_, ai⟩
 ·have aF : env x = iM := BW (he x (by simp [Op.operands]) _ aa) iz;have aM : env y = fr := BW (he y (by simp [Op.operands]) _ ai) lS;simp only [execOp, aF, aM, Sem.run_bind, aq, Result.andThen_ok, ap, Sem.run_pure]
theorem qo {rI : BinOp} {df dU : Nat} {x y : Operand} {k : IntKind} {a b : Int} {v : Value} (hw : want ops ⟨some d, .binOp rI df x y dU, ty, pos, after, guard⟩ s = some true) (aa : s.look x = some (aR (.int k a))) (ai : s.look y = some (aR (.int k b)))
  (ap : ∀ W, (binOp rI df (.int k a) (.int k b)).run P W = .ok v W) (h1 : v.oneCell' = true) (hd : Nat.blt d s.n = true) (h : bb P ops K rest (s.put (some d) (aR v))) : bb P ops K (⟨some d, .binOp rI df x y dU, ty, pos, after, guard⟩ :: rest) s :=
 uL hw aa ai rfl rfl (fun W => by unfold eqGuard; cases rI <;> rfl) ap h1 hd h
theorem Ul {df dU : Nat} {x y : Operand} {k : IntKind} {a b : Int} (hw : want ops ⟨some d, .binOp .lss df x y dU, ty, pos, after, guard⟩ s = some true) (aa : s.look x = some (aR (.int k a))) (ai : s.look y = some (aR (.int k b))) (hd : Nat.blt d s.n = true) (h : bb P ops K rest (s.put (some d) (bk (decide (a < b))))) : bb P ops K (⟨some d, .binOp .lss df x y dU, ty, pos, after, guard⟩ :: rest) s :=
 qo hw aa ai (fun W => by cases k <;> rfl) rfl hd h
theorem Ug {df dU : Nat} {x y : Operand} {k : IntKind} {a b : Int} (hw : want ops ⟨some d, .binOp .leq df x y dU, ty, pos, after, guard⟩ s = some true) (aa : s.look x = some (aR (.int k a))) (ai : s.look y = some (aR (.int k b))) (hd : Nat.blt d s.n = true) (h : bb P ops K rest (s.put (some d) (bk (decide (a ≤ b))))) : bb P ops K (⟨some d, .binOp .leq df x y dU, ty, pos, after, guard⟩ :: rest) s :=
 qo hw aa ai (fun W => by cases k <;> rfl) rfl hd h
theorem Uc {df dU : Nat} {x y : Operand} {k : IntKind} {a b : Int} (hw : want ops ⟨some d, .binOp .gtr df x y dU, ty, pos, after, guard⟩ s = some true) (aa : s.look x = some (aR (.int k a))) (ai : s.look y = some (aR (.int k b))) (hd : Nat.blt d s.n = true) (h : bb P ops K rest (s.put (some d) (bk (decide (b < a))))) : bb P ops K (⟨some d, .binOp .gtr df x y dU, ty, pos, after, guard⟩ :: rest) s :=
 qo hw aa ai (fun W => by cases k <;> rfl) rfl hd h
theorem Ub {df dU : Nat} {x y : Operand} {k : IntKind} {a b : Int} (hw : want ops ⟨some d, .binOp .geq df x y dU, ty, pos, after, guard⟩ s = some true) (aa : s.look x = some (aR (.int k a))) (ai : s.look y = some (aR (.int k b))) (hd : Nat.blt d s.n = true) (h : bb P ops K rest (s.put (some d) (bk (decide (b ≤ a))))) : bb P ops K (⟨some d, .binOp .geq df x y dU, ty, pos, after, guard⟩ :: rest) s :=
 qo hw aa ai (fun W => by cases k <;> rfl) rfl hd h
theorem T2 {df dU : Nat} {x y : Operand} {k : IntKind} {a b : Int} (hw : want ops ⟨some d, .binOp .eql df x y dU, ty, pos, after, guard⟩ s = some true) (aa : s.look x = some (aR (.int k a))) (ai : s.look y = some (aR (.int k b))) (hd : Nat.blt d s.n = true) (h : bb P ops K rest (s.put (some d) (bk (decide (a = b))))) : bb P ops K (⟨some d, .binOp .eql df x y dU, ty, pos, after, guard⟩ :: rest) s :=
 qo hw aa ai (fun W => by cases k <;> rfl) rfl hd h
theorem Ut {df dU : Nat} {x y : Operand} {k : IntKind} {a b : Int} (hw : want ops ⟨some d, .binOp .neq df x y dU, ty, pos, after, guard⟩ s = some true) (aa : s.look x = some (aR (.int k a))) (ai : s.look y = some (aR (.int k b))) (hd : Nat.blt d s.n = true) (h : bb P ops K rest (s.put (some d) (bk (!decide (a = b))))) : bb P ops K (⟨some d, .binOp .neq df x y dU, ty, pos, after, guard⟩ :: rest) s :=
 qo hw aa ai (fun W => by cases k <;> rfl) rfl hd h
theorem TR {df dU : Nat} {x y : Operand} {k : IntKind} {a b c : Int} (hw : want ops ⟨some d, .binOp .add df x y dU, ty, pos, after, guard⟩ s = some true) (aa : s.look x = some (aR (.int k a))) (ai : s.look y = some (aR (.int k b))) (aj : k.wrap (a + b) = c) (hd : Nat.blt d s.n = true) (h : bb P ops K rest (s.put (some d) (aR (.int k c)))) : bb P ops K (⟨some d, .binOp .add df x y dU, ty, pos, after, guard⟩ :: rest) s :=
 qo hw aa ai (fun W => by rw [← aj]; cases k <;> rfl) rfl hd h
theorem UH {df dU : Nat} {x y : Operand} {k : IntKind} {a b c : Int} (hw : want ops ⟨some d, .binOp .sub df x y dU, ty, pos, after, guard⟩ s = some true) (aa : s.look x = some (aR (.int k a))) (ai : s.look y = some (aR (.int k b))) (aj : k.wrap (a - b) = c) (hd : Nat.blt d s.n = true) (h : bb P ops K rest (s.put (some d) (aR (.int k c)))) : bb P ops K (⟨some d, .binOp .sub df x y dU, ty, pos, after, guard⟩ :: rest) s :=
 qo hw aa ai (fun W => by rw [← aj]; cases k <;> rfl) rfl hd h
theorem Ur {df dU : Nat} {x y : Operand} {k : IntKind} {a b c : Int} (hw : want ops ⟨some d, .binOp .mul df x y dU, ty, pos, after, guard⟩ s = some true) (aa : s.look x = some (aR (.int k a))) (ai : s.look y = some (aR (.int k b))) (aj : k.wrap (a * b) = c) (hd : Nat.blt d s.n = true) (h : bb P ops K rest (s.put (some d) (aR (.int k c)))) : bb P ops K (⟨some d, .binOp .mul df x y dU, ty, pos, after, guard⟩ :: rest) s :=
 qo hw aa ai (fun W => by rw [← aj]; cases k <;> rfl) rfl hd h
theorem n2 {n : Int} (h : -9223372036854775808 ≤ n ∧ n < 9223372036854775808) : IntKind.i64.wrap n = n := IntWalk.i64_in n (by omega)
theorem Ux {df : Nat} {x : Operand} {b : Bool} (hw : want ops ⟨some d, .unOp .not df x, ty, pos, after, guard⟩ s = some true) (aa : s.look x = some (bk b)) (hd : Nat.blt d s.n = true) (h : bb P ops K rest (s.put (some d) (bk (!b)))) : bb P ops K (⟨some d, .unOp .not df x, ty, pos, after, guard⟩ :: rest) s := by
 refine fN (av := bk (!b)) hw ⟨fun _ _ h => (by cases h), fun z aP => ?_, fun U ad W env he => ⟨.bool (!b), ?_, ⟨rfl, rfl⟩⟩, fun j ae => absurd ae (iE _ j)⟩ hd h
 ·simp [Op.operands] at aP; subst aP; exact ⟨_, aa⟩
 ·have aF : env x = .bool b := (he x (by simp [Op.operands]) _ aa).1;simp only [execOp, aF, Sem.run_bind, Op.unary];rfl
theorem Ke {I2 : UnOp} {df : Nat} {x : Operand} {iM v : Value} (hw : want ops ⟨some d, .unOp I2 df x, ty, pos, after, guard⟩ s = some true) (aa : s.look x = some (aR iM)) (ap : ∀ W, (Op.unary I2 iM).run P W = .ok v W) (h1 : v.oneCell' = true) (hd : Nat.blt d s.n = true) (h : bb P ops K rest (s.put (some d) (aR v))) : bb P ops K (⟨some d, .unOp I2 df x, ty, pos, after, guard⟩ :: rest) s := by
 refine fN (av := aR v) hw ⟨fun _ _ h => (by cases h), fun z aP => ?_, fun U ad W env he => ⟨v, ?_, ⟨rfl, h1⟩⟩, fun j ae => absurd ae (iE v j)⟩ hd h
 ·simp [Op.operands] at aP; subst aP; exact ⟨_, aa⟩
 ·have aF : env x = iM := (he x (by simp [Op.operands]) _ aa).1;simp only [execOp, aF, Sem.run_bind, ap, Result.andThen_ok, Sem.run_pure]
theorem J7 {src dst : Nat} {x : Operand} {iM v : Value} (hw : want ops ⟨some d, .convert src dst x, ty, pos, after, guard⟩ s = some true) (aa : s.look x = some (aR iM)) (ap : ∀ W, (convert src dst iM).run P W = .ok v W) (h1 : v.oneCell' = true) (hd : Nat.blt d s.n = true) (h : bb P ops K rest (s.put (some d) (aR v))) : bb P ops K (⟨some d, .convert src dst x, ty, pos, after, guard⟩ :: rest) s := by
 refine fN (av := aR v) hw ⟨fun _ _ h => (by cases h), fun z aP => ?_, fun U ad W env he => ⟨v, ?_, ⟨rfl, h1⟩⟩, fun j ae => absurd ae (iE v j)⟩ hd h
 ·simp [Op.operands] at aP; subst aP; exact ⟨_, aa⟩
 ·have aF : env x = iM := (he x (by simp [Op.operands]) _ aa).1;simp only [execOp, aF, Sem.run_bind, ap, Result.andThen_ok, Sem.run_pure]
theorem TY {src dst n : Nat} {b : Bool} {k k' : IntKind} {x : Operand} {a c : Int} [S : eY P src b n] [I : EF P dst k'] (hw : want ops ⟨some d, .convert src dst x, ty, pos, after, guard⟩ s = some true) (aa : s.look x = some (aR (.int k a))) (aj : k'.wrap a = c) (hd : Nat.blt d s.n = true) (h : bb P ops K rest (s.put (some d) (aR (.int k' c)))) : bb P ops K (⟨some d, .convert src dst x, ty, pos, after, guard⟩ :: rest) s := by
 refine J7 hw aa (fun W => ?_) rfl hd h
 have hs : ∃ D, P.underlying src = some D := by
  have := S.h;unfold ky at this;cases hu : P.underlying src with
  | none => rw [hu] at this; cases this
  | some D => exact ⟨D, rfl⟩
 obtain ⟨D, hs⟩ := hs;unfold convert;simp only [Sem.run_bind, run_underlying hs, run_underlying I.h, Result.andThen_ok];rw [← aj];cases D <;> rfl
theorem Uz {c x y : Operand} {av : ah} (hw : want ops ⟨some d, .pick c x y, ty, pos, after, guard⟩ s = some true) (aj : s.look c = some (bk true)) (aa : s.look x = some av) {bv : ah} (ai : s.look y = some bv) (hd : Nat.blt d s.n = true) (h : bb P ops K rest (s.put (some d) av)) : bb P ops K (⟨some d, .pick c x y, ty, pos, after, guard⟩ :: rest) s := by
 refine fN hw ⟨fun _ _ h => (by cases h), fun z aP => ?_, fun U ad W env he => ⟨env x, ?_, he x (by simp [Op.operands]) av aa⟩, fun j ae => ⟨x, by simp [Op.operands], av, aa, ae⟩⟩ hd h
 ·simp [Op.operands] at aP;rcases aP with rfl | rfl | rfl
  ·exact ⟨_, aj⟩
  ·exact ⟨_, aa⟩
  ·exact ⟨_, ai⟩
 ·have aF : env c = .bool true := (he c (by simp [Op.operands]) _ aj).1;simp [execOp, aF, asBool]
theorem Uy {c x y : Operand} {av : ah} (hw : want ops ⟨some d, .pick c x y, ty, pos, after, guard⟩ s = some true) (aj : s.look c = some (bk false)) (aa : s.look y = some av) {bv : ah} (ai : s.look x = some bv) (hd : Nat.blt d s.n = true) (h : bb P ops K rest (s.put (some d) av)) : bb P ops K (⟨some d, .pick c x y, ty, pos, after, guard⟩ :: rest) s := by
 refine fN hw ⟨fun _ _ h => (by cases h), fun z aP => ?_, fun U ad W env he => ⟨env y, ?_, he y (by simp [Op.operands]) av aa⟩, fun j ae => ⟨y, by simp [Op.operands], av, aa, ae⟩⟩ hd h
 ·simp [Op.operands] at aP;rcases aP with rfl | rfl | rfl
  ·exact ⟨_, aj⟩
  ·exact ⟨_, ai⟩
  ·exact ⟨_, aa⟩
 ·have aF : env c = .bool false := (he c (by simp [Op.operands]) _ aj).1;simp [execOp, aF, asBool]
theorem wu {f : FuncId} {g : Operand} {aL : Array TypeId} {l : List Operand} {args : List ah} {r : ah} [E : Enters P f] (hw : want ops ⟨some d, .call ⟨.value g, l.toArray, aL⟩, ty, pos, after, guard⟩ s = some true) (aq : s.look g = some (aR (.func (.func f) #[] #[]))) (aJ : l.map s.look = args.map some) (hp : aC P f args r) (hd : Nat.blt d s.n = true) (h : bb P ops K rest (s.put (some d) r)) :
  bb P ops K (⟨some d, .call ⟨.value g, l.toArray, aL⟩, ty, pos, after, guard⟩ :: rest) s :=
 qp hw (.call f args r ⟨⟨_, g, rfl, rfl, .inl ⟨[], aq, by simpa using aJ, rfl⟩⟩, E.h⟩ hp) (kU hd) h
theorem s7 {f : FuncId} {g : Operand} {aL : Array TypeId} {l : List Operand} {bs : List Value} {args : List ah} {r : ah} [E : Enters P f] (hw : want ops ⟨some d, .call ⟨.value g, l.toArray, aL⟩, ty, pos, after, guard⟩ s = some true) (aq : s.look g = some (aR (.func (.func f) bs.toArray #[]))) (ab : bs.all Bz = true) (aJ : l.map s.look = args.map some) (hp : aC P f (bs.map xw ++ args) r) (hd : Nat.blt d s.n = true) (h : bb P ops K rest (s.put (some d) r)) :
  bb P ops K (⟨some d, .call ⟨.value g, l.toArray, aL⟩, ty, pos, after, guard⟩ :: rest) s :=
 qp hw (.call f _ r ⟨⟨_, g, rfl, rfl, .inl ⟨bs, aq, by rw [List.toList_toArray, aJ, List.map_append, List.map_map]; rfl, ab⟩⟩, E.h⟩ hp) (kU hd) h
theorem s6 {f : FuncId} {g : Operand} {aL : Array TypeId} {l : List Operand} {cs : List AC} {args : List ah} {r : ah} [E : Enters P f] (hw : want ops ⟨some d, .call ⟨.value g, l.toArray, aL⟩, ty, pos, after, guard⟩ s = some true) (aq : s.look g = some (.w (.one (.p (pf (.func f) cs))))) (aJ : l.map s.look = args.map some) (hp : aC P f (args ++ cs.map fun x => .w (.one x)) r) (hd : Nat.blt d s.n = true) (h : bb P ops K rest (s.put (some d) r)) :
  bb P ops K (⟨some d, .call ⟨.value g, l.toArray, aL⟩, ty, pos, after, guard⟩ :: rest) s :=
 qp hw (.call f _ r ⟨⟨_, g, rfl, rfl, .inr ⟨cs, aq, by rw [List.toList_toArray, aJ, List.map_append, List.map_map]; rfl⟩⟩, E.h⟩ hp) (kU hd) h
theorem Up {fn : Fn} {x : Operand} {a : bz} {iM : Value} (hw : want ops ⟨some d, .makeFunc fn #[x] #[], ty, pos, after, guard⟩ s = some true) (aa : s.look x = some (.w a)) (iz : mB a = some iM) (hd : Nat.blt d s.n = true) (h : bb P ops K rest (s.put (some d) (aR (.func fn #[iM] #[])))) : bb P ops K (⟨some d, .makeFunc fn #[x] #[], ty, pos, after, guard⟩ :: rest) s := by
 refine fN (av := aR (.func fn #[iM] #[])) hw ⟨fun _ _ h => (by cases h), fun z aP => ?_, fun U ad W env he => ⟨.func fn #[iM] #[], ?_, ⟨rfl, rfl⟩⟩, fun j ae => absurd ae (iE _ j)⟩ hd h
 ·simp [Op.operands] at aP; subst aP; exact ⟨_, aa⟩
 ·have aF : env x = iM := BW (he x (by simp [Op.operands]) _ aa) iz;have em : (#[x] : Array Operand).map env = #[iM] := by simp [aF]
  simp only [execOp, em, Array.map_empty, Instr.makeFunc, Sem.run_bind, Sem.run_pure, Result.andThen_ok]
theorem J3 {f : FuncId} {g : Operand} {aL : Array TypeId} {r : ah} [E : Enters P f] (hw : want ops ⟨some d, .call ⟨.value g, #[], aL⟩, ty, pos, after, guard⟩ s = some true) (aq : s.look g = some (aR (.func (.func f) #[] #[]))) (hp : aC P f [] r) (hd : Nat.blt d s.n = true) (h : bb P ops K rest (s.put (some d) r)) : bb P ops K (⟨some d, .call ⟨.value g, #[], aL⟩, ty, pos, after, guard⟩ :: rest) s :=
 wu (l := []) hw aq rfl hp hd h
theorem J4 {f : FuncId} {g : Operand} {aL : Array TypeId} {ct : Operand} {a1 : ah} {r : ah} [E : Enters P f] (hw : want ops ⟨some d, .call ⟨.value g, #[ct], aL⟩, ty, pos, after, guard⟩ s = some true) (aq : s.look g = some (aR (.func (.func f) #[] #[]))) (h1 : s.look ct = some a1) (hp : aC P f [a1] r) (hd : Nat.blt d s.n = true) (h : bb P ops K rest (s.put (some d) r)) : bb P ops K (⟨some d, .call ⟨.value g, #[ct], aL⟩, ty, pos, after, guard⟩ :: rest) s :=
 wu (l := [ct]) hw aq (by simp [h1]) hp hd h
theorem E4 {f : FuncId} {g : Operand} {aL : Array TypeId} {ct cz : Operand} {a1 a2 : ah} {r : ah} [E : Enters P f] (hw : want ops ⟨some d, .call ⟨.value g, #[ct, cz], aL⟩, ty, pos, after, guard⟩ s = some true) (aq : s.look g = some (aR (.func (.func f) #[] #[]))) (h1 : s.look ct = some a1) (h2 : s.look cz = some a2) (hp : aC P f [a1, a2] r) (hd : Nat.blt d s.n = true) (h : bb P ops K rest (s.put (some d) r)) : bb P ops K (⟨some d, .call ⟨.value g, #[ct, cz], aL⟩, ty, pos, after, guard⟩ :: rest) s :=
 wu (l := [ct, cz]) hw aq (by simp [h1, h2]) hp hd h
theorem E5 {f : FuncId} {g : Operand} {aL : Array TypeId} {ct cz h4 : Operand} {a1 a2 a3 : ah} {r : ah} [E : Enters P f] (hw : want ops ⟨some d, .call ⟨.value g, #[ct, cz, h4], aL⟩, ty, pos, after, guard⟩ s = some true) (aq : s.look g = some (aR (.func (.func f) #[] #[]))) (h1 : s.look ct = some a1) (h2 : s.look cz = some a2) (an : s.look h4 = some a3) (hp : aC P f [a1, a2, a3] r) (hd : Nat.blt d s.n = true) (h : bb P ops K rest (s.put (some d) r)) : bb P ops K (⟨some d, .call ⟨.value g, #[ct, cz, h4], aL⟩, ty, pos, after, guard⟩ :: rest) s :=
 wu (l := [ct, cz, h4]) hw aq (by simp [h1, h2, an]) hp hd h
theorem J5 {f : FuncId} {g : Operand} {aL : Array TypeId} {ct cz h4 ml : Operand} {a1 a2 a3 a4 : ah} {r : ah} [E : Enters P f] (hw : want ops ⟨some d, .call ⟨.value g, #[ct, cz, h4, ml], aL⟩, ty, pos, after, guard⟩ s = some true) (aq : s.look g = some (aR (.func (.func f) #[] #[]))) (h1 : s.look ct = some a1) (h2 : s.look cz = some a2) (an : s.look h4 = some a3) (aE : s.look ml = some a4) (hp : aC P f [a1, a2, a3, a4] r) (hd : Nat.blt d s.n = true) (h : bb P ops K rest (s.put (some d) r)) : bb P ops K (⟨some d, .call ⟨.value g, #[ct, cz, h4, ml], aL⟩, ty, pos, after, guard⟩ :: rest) s :=
 wu (l := [ct, cz, h4, ml]) hw aq (by simp [h1, h2, an, aE]) hp hd h
theorem J6 {f : FuncId} {g : Operand} {aL : Array TypeId} {ct cz h4 ml xX : Operand} {a1 a2 a3 a4 a5 : ah} {r : ah} [E : Enters P f] (hw : want ops ⟨some d, .call ⟨.value g, #[ct, cz, h4, ml, xX], aL⟩, ty, pos, after, guard⟩ s = some true) (aq : s.look g = some (aR (.func (.func f) #[] #[]))) (h1 : s.look ct = some a1) (h2 : s.look cz = some a2) (an : s.look h4 = some a3) (aE : s.look ml = some a4) (cY : s.look xX = some a5) (hp : aC P f [a1, a2, a3, a4, a5] r) (hd : Nat.blt d s.n = true) (h : bb P ops K rest (s.put (some d) r)) : bb P ops K (⟨some d, .call ⟨.value g, #[ct, cz, h4, ml, xX], aL⟩, ty, pos, after, guard⟩ :: rest) s :=
 wu (l := [ct, cz, h4, ml, xX]) hw aq (by simp [h1, h2, an, aE, cY]) hp hd h
def qt (ps : List (Nat × Nat)) : List AC → List (Nat × bz) → Option (List AC)
 | cs, [] => some cs
 | cs, (i, z) :: rest => match ps[i]? with
  | some (off, size) => bif Nat.beq size z.cells.length then match o3 cs off z.cells with
    | some r => qt ps r rest
    | none => none
   else none
  | none => none
def nw (look : Operand → Option ah) : List (Nat × Operand) → Option (List (Nat × bz))
 | [] => some []
 | (i, x) :: rest => match look x, nw look rest with
  | some (.w z), some r => some ((i, z) :: r)
  | _, _ => none
theorem Md (off : Nat) : ∀ (zs : List Value) (k : Nat) (na : Array Value), off + k + zs.length ≤ na.size → ((zs.zipIdx k).foldl (fun cs (c, j) => cs.setIfInBounds (off + j) c) na).toList = na.toList.take (off + k) ++ zs ++ na.toList.drop (off + k + zs.length)
 | [], k, na, _ => by simp
 | z :: zs, k, na, h => by
  simp only [List.zipIdx_cons, o7];rw [Md off zs (k + 1) _ (by simp at h ⊢; omega)];have e := list_seg_step na.toList (off + k) z zs (by simp at h ⊢; omega);simpa [Array.toList_setIfInBounds, o5] using e
theorem yG {U : Nat → Prop} {ad : Nat → Nat} {W : World} {ps : List (Nat × Nat)} {place : Nat → Option (Nat × Nat)} (hp : ∀ i q, ps[i]? = some q → place i = some q) {look : Operand → Option ah} {env : Operand → Value} : ∀ (parts : List (Nat × Operand)) (cs : List AC) (vs : List Value) (zs : List (Nat × bz)) (r : List AC), bL U ad W cs vs → nw look parts = some zs → (∀ p ∈ parts, ∀ a, look p.2 = some a → da U ad W a (env p.2)) → qt ps cs zs = some r →
  ∃ us : List Value, Instr.fill place vs.toArray (parts.map fun p => (p.1, env p.2)) = some us.toArray ∧ bL U ad W r us
 | [], cs, vs, zs, r, ak, aP, _, ab => by cases aP; cases ab; exact ⟨vs, rfl, ak⟩
 | (i, x) :: parts, cs, vs, zs, r, ak, aP, he, ab => by
  simp only [nw] at aP
  split at aP
  ·rename_i z AP aa ap;cases aP;simp only [qt] at ab
   split at ab
   ·rename_i off size xb;cases wV : Nat.beq size z.cells.length with
    | false => rw [wV] at ab; cases ab
    | true =>
     rw [wV] at ab;simp only [cond_true] at ab
     split at ab
     ·rename_i au GS;have aP : fX U ad W z (env x) := he (i, x) (by simp) _ aa;have oO := aP.cells;obtain ⟨q1, q2⟩ := Aa _ _ _ _ GS;have hs := hb wV;have y6 : (env x).cells.size = z.cells.length := by have := oO.1; simp at this; exact this.symm
      have GD := ak.1;have lX := ak.eD oO off q1;rw [q2] at lX;obtain ⟨us, g1, g2⟩ := yG hp parts au _ AP r lX ap (fun p oJ => he p (by simp [oJ])) ab;refine ⟨us, ?_, g2⟩;simp only [j4, Instr.fill, hp i _ xb];rw [if_neg (by simp [y6, hs]; omega)];rw [← g1];congr 1;apply Array.ext';have := Md off (env x).cells.toList 0 vs.toArray (by simp [y6]; omega);rw [← Array.foldl_toList, Array.toList_zipIdx];simpa using this
     ·cases ab
   ·cases ab
  ·cases aP
theorem Hw {look : Operand → Option ah} : ∀ (parts : List (Nat × Operand)) (zs : List (Nat × bz)), nw look parts = some zs → ∀ p ∈ parts, ∃ z, look p.2 = some (.w z) ∧ (p.1, z) ∈ zs
 | [], _, _, p, hp => by cases hp
 | (i, x) :: parts, zs, h, p, hp => by
  simp only [nw] at h
  split at h
  ·rename_i z AP aa ap;cases h;rcases fD.1 hp with rfl | hp
   ·exact ⟨z, aa, by simp⟩
   ·obtain ⟨ahg, h1, h2⟩ := Hw parts AP ap p hp;exact ⟨ahg, h1, by simp [h2]⟩
  ·cases h
theorem Og {look : Operand → Option ah} : ∀ (parts : List (Nat × Operand)) (zs : List (Nat × bz)), nw look parts = some zs → ∀ q ∈ zs, ∃ p ∈ parts, look p.2 = some (.w q.2)
 | [], _, h, q, al => by cases h; cases al
 | (i, x) :: parts, zs, h, q, al => by
  simp only [nw] at h
  split at h
  ·rename_i z AP aa ap;cases h;rcases fD.1 al with rfl | al
   ·exact ⟨(i, x), by simp, aa⟩
   ·obtain ⟨p, h1, h2⟩ := Og parts AP ap q al;exact ⟨p, by simp [h1], h2⟩
  ·cases h
theorem aeq {cs ds r : List AC} {off : Nat} (h : o3 cs off ds = some r) : ∀ x ∈ r, x ∈ cs ∨ x ∈ ds := by
 obtain ⟨_, rfl⟩ := Aa _ _ _ _ h;intro x aa;unfold eD at aa;simp only [kr] at aa;rcases aa with (h1 | h1) | h1
 ·exact .inl (nB h1)
 ·exact .inr h1
 ·exact .inl (mO h1)
theorem KJ {ps : List (Nat × Nat)} : ∀ (zs : List (Nat × bz)) (cs r : List AC), qt ps cs zs = some r → ∀ x ∈ r, x ∈ cs ∨ ∃ q ∈ zs, x ∈ q.2.cells
 | [], cs, r, h, x, aa => by cases h; exact .inl aa
 | (i, z) :: zs, cs, r, h, x, aa => by
  simp only [qt] at h
  split at h
  ·rename_i off size xb;cases wV : Nat.beq size z.cells.length with
   | false => rw [wV] at h; cases h
   | true =>
    rw [wV] at h;simp only [cond_true] at h
    split at h
    ·rename_i au GS;rcases KJ zs au r h x aa with h1 | ⟨q, h1, h2⟩
     ·rcases aeq GS x h1 with h2 | h2
      ·exact .inl h2
      ·exact .inr ⟨(i, z), by simp, h2⟩
     ·exact .inr ⟨q, by simp [h1], h2⟩
    ·cases h
  ·cases h
theorem Rj {α β : Type} {f : α → Sem β} {W : World} : ∀ (l : List α) (vs : List β), l.length = vs.length → (∀ (i : Nat) x v, l[i]? = some x → vs[i]? = some v → (f x).run P W = .ok v W) → (l.mapM f).run P W = .ok vs W
 | [], [], _, _ => rfl
 | [], _ :: _, h, _ => by cases h
 | _ :: _, [], h, _ => by cases h
 | x :: l, v :: vs, ak, h => by
  have aD := h 0 x v rfl rfl;have b5 := Rj l vs (by simpa using ak) (fun i x v aa hv => h (i + 1) x v (by simpa using aa) (by simpa using hv));rw [List.mapM_cons];simp only [Sem.run_bind, aD, Result.andThen_ok, b5];rfl
theorem Ok {α β : Type} {f : α → Option β} : ∀ (l : List α) (vs : List β), l.mapM f = some vs → l.length = vs.length ∧ ∀ (i : Nat) x v, l[i]? = some x → vs[i]? = some v → f x = some v
 | [], vs, h => by cases h; exact ⟨rfl, fun i x v aa => by simp at aa⟩
 | a :: l, vs, h => by
  rw [List.mapM_cons] at h;cases aJ : f a with
  | none => rw [aJ] at h; cases h
  | some b =>
   rw [aJ] at h;cases ak : l.mapM f with
   | none => rw [ak] at h; cases h
   | some bs =>
    rw [ak] at h;cases h;obtain ⟨h1, h2⟩ := Ok l bs ak;refine ⟨by simp [h1], fun i x v aa hv => ?_⟩;cases i with
    | zero => simp at aa hv; subst aa; subst hv; exact aJ
    | succ i => exact h2 i x v (by simpa using aa) (by simpa using hv)
theorem TW {t : Nat} {parts : List (Nat × Operand)} {vs : List Value} {ps : List (Nat × Nat)} {zs : List (Nat × bz)} {r : List AC} [Z : Bk P t vs] [L : JB P t ps] (hw : want ops ⟨some d, .build t parts.toArray, ty, pos, after, guard⟩ s = some true) (aP : nw s.look parts = some zs) (ab : qt ps (vs.map .c) zs = some r) (h1 : (vs.all fun v => v.oneCell') = true) (hd : Nat.blt d s.n = true) (h : bb P ops K rest (s.put (some d) (.w (.agg r)))) : bb P ops K (⟨some d, .build t parts.toArray, ty, pos, after, guard⟩ :: rest) s := by
 refine fN (av := .w (.agg r)) hw ⟨fun _ _ h => (by cases h), fun z tG => ?_, fun U ad W env he => ?_, fun j ae => ?_⟩ hd h
 ·simp only [Op.operands, List.mem_toArray, iv] at tG;obtain ⟨p, hp, rfl⟩ := tG;obtain ⟨z, h1, _⟩ := Hw parts zs aP p hp;exact ⟨_, h1⟩
 ·have dN := Z.h;have hV := L.h;unfold zeroOf at dN;unfold DJ at hV;cases hi : P.info? t with
  | none => rw [hi] at dN; cases dN
  | some i =>
   rw [hi] at dN;simp only [ks] at dN;cases hJ : i.zero with
   | none => rw [hJ] at dN; cases dN
   | some z =>
    rw [hJ] at dN;cases dN
    split at hV
    ·rename_i bi hu;obtain ⟨m1, m2⟩ := Ok _ _ hV;have sb : (zeroValue t).run P W = .ok z W := by simp [zeroValue, typeInfo, program, Sem.run_bind, Sem.run, hi, Result.andThen, hJ]
     have qJ : (bi.mapM fun f => (do pure (f.offset, ← sizeOf f.type) : Sem (Nat × Nat))).run P W = .ok ps.toArray W := by
      rw [Array.mapM_eq_mapM_toList]
      have := Rj (P := P) (W := W) (f := fun f : Field => (do pure (f.offset, ← sizeOf f.type) : Sem (Nat × Nat))) bi.toList ps m1 (fun j x v aa hv => by
       have := m2 j x v aa hv;cases Gu : P.info? x.type with
       | none => rw [Gu] at this; cases this
       | some eE =>
        rw [Gu] at this;cases this;simp only [Sem.run_bind, hB Gu, Result.andThen_ok, Sem.run_pure])
      simp only [map_eq_pure_bind, Sem.run_bind, this, Result.andThen_ok, Sem.run_pure]
     have jV : bL U ad W (z.cells.toList.map .c) z.cells.toList := ⟨by simp, fun j x v aa hv => by
      rw [eg, hv] at aa;cases aa;exact ⟨rfl, cB.1 h1 v (c7 hv)⟩⟩
     obtain ⟨us, g1, g2⟩ := yG (U := U) (ad := ad) (W := W) (ps := ps) (place := fun i => ps.toArray[i]?) (fun i q h => by simpa using h) (look := s.look) (env := env) parts _ _ zs r jV aP (fun p hp a aJ => he p.2 (by simp only [Op.operands, List.mem_toArray, iv]; exact ⟨p, hp, rfl⟩) a aJ) ab;refine ⟨.agg us.toArray, ?_, us, rfl, g2⟩;have tA : (parts.toArray.map fun (i, x) => (i, env x)).toList = parts.map fun p => (p.1, env p.2) := by simp
     have kn : z.cells.toList.toArray = z.cells := by simp
     rw [kn] at g1;simp only [execOp, Instr.build, Sem.run_bind, sb, Result.andThen_ok, run_underlying hu, qJ, tA, g1, Sem.run_pure]
    ·rename_i n el hu;have sb : (zeroValue t).run P W = .ok z W := by simp [zeroValue, typeInfo, program, Sem.run_bind, Sem.run, hi, Result.andThen, hJ]
     have jV : bL U ad W (z.cells.toList.map .c) z.cells.toList := ⟨by simp, fun j x v aa hv => by
      rw [eg, hv] at aa;cases aa;exact ⟨rfl, cB.1 h1 v (c7 hv)⟩⟩
     cases ax : Nat.ble n 32 with
     | false => rw [ax] at hV; cases hV
     | true =>
      rw [ax] at hV;simp only [cond_true] at hV;cases Gt : P.info? el with
      | none => rw [Gt] at hV; cases hV
      | some eE =>
       rw [Gt] at hV;simp only [gL, h0] at hV
       obtain ⟨us, g1, g2⟩ := yG (U := U) (ad := ad) (W := W) (ps := ps) (place := fun i => some (i * eE.size, eE.size)) (fun i q h => by
        rw [← hV, eg] at h;rcases hz i n with bg | kE
        ·rw [bN (by simpa using bg)] at h;simpa using h
        ·rw [k7 (by simpa using kE)] at h;cases h) (look := s.look) (env := env) parts _ _ zs r jV aP (fun p hp a aJ => he p.2 (by simp only [Op.operands, List.mem_toArray, iv]; exact ⟨p, hp, rfl⟩) a aJ) ab
       refine ⟨.agg us.toArray, ?_, us, rfl, g2⟩;have tA : (parts.toArray.map fun (i, x) => (i, env x)).toList = parts.map fun p => (p.1, env p.2) := by simp
       have kn : z.cells.toList.toArray = z.cells := by simp
       rw [kn] at g1;simp only [execOp, Instr.build, Sem.run_bind, sb, Result.andThen_ok, run_underlying hu, hB Gt, tA, g1, Sem.run_pure]
    ·cases hV
 ·obtain ⟨y, ai, l0⟩ := ae;rcases KJ zs _ r ab y ai with h2 | ⟨q, h2, an⟩
  ·obtain ⟨v, _, rfl⟩ := iv.1 h2; cases l0
  ·obtain ⟨p, hp, ak⟩ := Og parts zs aP q h2;exact ⟨p.2, by simp only [Op.operands, List.mem_toArray, iv]; exact ⟨p, hp, rfl⟩, _, ak, ⟨y, an, l0⟩⟩
theorem J2 {Fi : Builtin} {aL : Array TypeId} {x y : Operand} {iM fr v : Value} (hw : want ops ⟨some d, .call ⟨.builtin Fi, #[x, y], aL⟩, ty, pos, after, guard⟩ s = some true) (aa : s.look x = some (aR iM)) (ai : s.look y = some (aR fr)) (ap : ∀ cs W, (builtin Fi aL ty cs #[iM, fr]).run P W = .ok (.value v) W) (h1 : v.oneCell' = true) (hd : Nat.blt d s.n = true) (h : bb P ops K rest (s.put (some d) (aR v))) : bb P ops K (⟨some d, .call ⟨.builtin Fi, #[x, y], aL⟩, ty, pos, after, guard⟩ :: rest) s := by
 refine fN (av := aR v) hw ⟨fun _ _ h => (by cases h), fun z aP => ?_, fun U ad W env he => ⟨v, ?_, ⟨rfl, h1⟩⟩, fun j ae => absurd ae (iE v j)⟩ hd h
 ·simp [Op.operands, Call.operands] at aP;rcases aP with rfl | rfl
  ·exact ⟨_, aa⟩
  ·exact ⟨_, ai⟩
 ·have aF : env x = iM := (he x (by simp [Op.operands, Call.operands]) _ aa).1;have aM : env y = fr := (he y (by simp [Op.operands, Call.operands]) _ ai).1;have em : (#[x, y] : Array Operand).map env = #[iM, fr] := by simp [aF, aM]
  simp only [execOp, resolve, em, Sem.run_bind, Sem.run_pure, Result.andThen_ok, invoke, ap]
theorem Un {aL : Array TypeId} {x y : Operand} {k : IntKind} {a b : Int} (hw : want ops ⟨some d, .call ⟨.builtin .min, #[x, y], aL⟩, ty, pos, after, guard⟩ s = some true) (aa : s.look x = some (aR (.int k a))) (ai : s.look y = some (aR (.int k b))) (hd : Nat.blt d s.n = true) (h : bb P ops K rest (s.put (some d) (aR (.int k (if b < a then b else a))))) : bb P ops K (⟨some d, .call ⟨.builtin .min, #[x, y], aL⟩, ty, pos, after, guard⟩ :: rest) s :=
 J2 hw aa ai (fun cs W => by go_simp; all_goals (first | rfl | (split <;> omega))) rfl hd h
theorem Um {aL : Array TypeId} {x y : Operand} {k : IntKind} {a b : Int} (hw : want ops ⟨some d, .call ⟨.builtin .max, #[x, y], aL⟩, ty, pos, after, guard⟩ s = some true) (aa : s.look x = some (aR (.int k a))) (ai : s.look y = some (aR (.int k b))) (hd : Nat.blt d s.n = true) (h : bb P ops K rest (s.put (some d) (aR (.int k (if b > a then b else a))))) : bb P ops K (⟨some d, .call ⟨.builtin .max, #[x, y], aL⟩, ty, pos, after, guard⟩ :: rest) s :=
 J2 hw aa ai (fun cs W => by go_simp; all_goals (first | rfl | (split <;> omega))) rfl hd h
theorem TX {t : Nat} {b : Bool} {l : List Oper} (hs : s.tmps t = some (bk b)) (h1 : b = true → bb P ops K l (s.put (some t) (bk true))) (aD : b = false → bb P ops K l (s.put (some t) (bk false))) : bb P ops K l s := by
 have same : ∀ c, b = c → s.put (some t) (bk c) = s := fun c e => by
  subst e;simp only [aA.put];congr 1;funext j
  by_cases ae : j = t
  ·subst ae; rw [cx, hs]
  ·rw [cl _ _ ae]
 cases b with
 | true => rw [← same true rfl]; exact h1 rfl
 | false => rw [← same false rfl]; exact aD rfl
end
theorem aN : ([] : List ResultVar).map (iK P s) = ([] : List bz).map some := rfl
theorem bf {t : Nat} {x : bz} {l : List ResultVar} {xs : List bz} (h : s.tmps t = some (.w x)) (ak : l.map (iK P s) = xs.map some) : (ResultVar.tmp t :: l).map (iK P s) = (x :: xs).map some := by
 simp only [j4, ak]; rw [show iK P s (.tmp t) = some x by simp only [iK, h]]
theorem cu {a ty k off n : Nat} [T : eY P ty true n] {cs aS : List AC} {l : List ResultVar} {xs : List bz} (h : s.tmps a = some (jg k off)) (hm : s.mem k = some cs) (aj : takeN cs off n = some aS) (ak : l.map (iK P s) = xs.map some) : (ResultVar.cell a ty :: l).map (iK P s) = (.agg aS :: xs).map some := by
 simp only [j4, ak]; rw [show iK P s (.cell a ty) = some (.agg aS) by simp only [iK, h, hm, ks, RP T.h aj]]
theorem bc {fn : Func} {l : List ResultVar} {xs : List bz} {r : ah} (ap : fn.results = l.toArray) (h : l.map (iK P s) = xs.map some) (hle : (packed xs).aQ r) : yr P fn r .ret s := ⟨xs, by rw [ap]; exact h, hle⟩
theorem ad3 {f : FuncId} {args : List ah} {r : ah} {jh : List Value} (he : args.map (fun x => match x with | .w y => mB y | _ => none) = jh.map some) (jI : ∀ x ∈ args, x.closed) (bW : r.closed)
  (h : ∀ W, Calls P f jh.toArray W fun e bh => ∃ v, e = .returned v ∧ (∀ U, (∀ b, W.heap.size ≤ b → U b) → da U id bh r v) ∧ Below W.heap.size W bh) : aC P f args r := by
 refine ⟨jI, bW, fun U W vs cL => ?_⟩
 have e : vs = jh := by
  apply List.ext_getElem?;intro i;have ak := cL.1;have nm : args.length = jh.length := by have := congrArg List.length he; simpa using this
  rcases hz i args.length with hi | hi
  ·have h1 : (args.map (fun x => match x with | .w y => mB y | _ => none))[i]? = (jh.map some)[i]? := by rw [he]
   rw [eg, eg, bN hi, bN (by omega : i < jh.length)] at h1;simp only [gL, h0] at h1;rw [bN (by omega : i < vs.length), bN (by omega : i < jh.length)];have h2 := cL.2 i args[i] vs[i] (bN hi) (bN (by omega));cases aa : args[i] with
   | w y =>
    rw [aa] at h1 h2;rw [BW h2 h1]
   | cr xs => rw [aa] at h1; cases h1
  ·rw [k7 (by omega), k7 (by omega)]
 subst e;refine (h W).mono ?_;rintro e bh ⟨v, h1, h2, an⟩;exact ⟨v, h1, h2 _ fun b ab => .inr ab, an⟩
def AC.aZ : AC → Bool
 | .own _ _ => false
 | _ => true
def bz.aZ : bz → Bool
 | .one x => x.aZ
 | .agg xs => xs.all AC.aZ
def ah.aZ : ah → Bool
 | .w x => x.aZ
 | .cr xs => xs.all bz.aZ
theorem AC.du {x : AC} (h : x.aZ = true) (j : Nat) : ¬ x.owns j := by cases x <;> simp_all [AC.aZ, AC.owns]
theorem bz.du {x : bz} (h : x.aZ = true) (j : Nat) : ¬ x.owns j := by
 rintro ⟨y, ai, ae⟩;cases x with
 | one z => simp [bz.cells] at ai; subst ai; exact AC.du h j ae
 | agg xs => exact AC.du (cB.1 h y ai) j ae
theorem ah.du {x : ah} (h : x.aZ = true) : x.closed := fun j => by
 cases x with
 | w y => exact bz.du h j
 | cr xs => rintro ⟨y, ai, ae⟩; exact bz.du (cB.1 h y ai) j ae
theorem bm {f : FuncId} {fn : Func} {c : Code} {args : List ah} {r : ah} (ar : P.funcs[f]? = some fn) (ab : fn.body = some c) (ax : Nat.ble args.length fn.ntmps = true) (jI : args.all ah.aZ = true) (bW : r.aZ = true)
  (h : ff P c (yr P fn r) (start fn.ntmps args)) : aC P f args r :=
 ad5 ar ab (by simpa [Nat.ble_eq] using ax) (fun x aa => ah.du (cB.1 jI x aa)) (ah.du bW) h
theorem ad2 {f : FuncId} {fn : Func} {c : Code} {args : List ah} {r : ah} (ar : P.funcs[f]? = some fn) (ab : fn.body = some c) (ax : Nat.ble args.length fn.ntmps = true) (jI : args.all ah.aZ = true) (bW : r.aZ = true)
  (h : sP P c (yr P fn r) (start fn.ntmps args)) : aC P f args r :=
 Qf ar ab (by simpa [Nat.ble_eq] using ax) (fun x aa => ah.du (cB.1 jI x aa)) (ah.du bW) h
theorem Qg {f : FuncId} {args : List ah} {r : ah} (jh : List Value) (he : args.map (fun x => match x with | .w y => mB y | _ => none) = jh.map some) (jI : args.all ah.aZ = true) (bW : r.aZ = true)
  (h : ∀ W, Calls P f jh.toArray W fun e bh => ∃ v, e = .returned v ∧ (∀ U, (∀ b, W.heap.size ≤ b → U b) → da U id bh r v) ∧ Below W.heap.size W bh) : aC P f args r :=
 ad3 he (fun x aa => ah.du (cB.1 jI x aa)) (ah.du bW) h
theorem Kj {next : aA → Prop} {Q : Exit → aA → Prop} (h : next s) : rH next Q .normal s := h
theorem UQ {next : aA → Prop} {Q : Exit → aA → Prop} {id : Nat} (h : Q (.exit id) s) : rH next Q (.exit id) s := h
theorem UR {next : aA → Prop} {Q : Exit → aA → Prop} (h : Q .ret s) : rH next Q .ret s := h
theorem TC {Q : Exit → aA → Prop} {id : Nat} (h : Q .normal s) : wq id Q .normal s := h
theorem TD {Q : Exit → aA → Prop} {id : Nat} (h : Q .ret s) : wq id Q .ret s := h
theorem TE {Q : Exit → aA → Prop} {id : Nat} (h : Q .normal s) : wq id Q (.exit id) s := by simp only [wq, Nat.beq_refl, cond_true]; exact h
theorem cW {dst : Option Nat} {op : Op} {ty : Nat} {pos : String} {after : Array Edge} {g t : Nat} {b Kz c : Bool} (hd : (ops[g]?).bind (·.dst) = some t) (hs : s.tmps t = some (bk Kz)) (ab : Kz = c)
  (h1 : bb P ops K (⟨dst, op, ty, pos, after, some (g, b)⟩ :: rest) (s.put (some t) (bk c))) : bb P ops K (⟨dst, op, ty, pos, after, some (g, b)⟩ :: rest) s := by
 subst ab;exact TX hs (fun e => by subst e; exact h1) (fun e => by subst e; exact h1)
theorem Kn {c : Operand} {t u : Bool} {x y : Code} {Q : Exit → aA → Prop} (aj : s.look c = some (bk t)) (aB : t = u) (h : ff P (bif u then x else y) Q s) : ff P (.cond c x y) Q s := by
 subst aB;cases t with
 | true => exact Kp aj h
 | false => exact Ko aj h
theorem UU {c : Operand} {t : Bool} {x y : Code} {Q : Exit → aA → Prop} (aj : s.look c = some (bk t)) (aB : t = true) (h : ff P x Q s) : ff P (.cond c x y) Q s := Kn aj aB h
theorem Km {c : Operand} {t : Bool} {x y : Code} {Q : Exit → aA → Prop} (aj : s.look c = some (bk t)) (aB : t = false) (h : ff P y Q s) : ff P (.cond c x y) Q s := Kn aj aB h
end
abbrev aK (x y : Int) : ah := .w (.agg [.c (.int .i64 x), .c (.int .i64 y)])
def FM (w : World) : AC → Value → Nat → Prop
 | .p R, x, b => R.kX w x b
 | _, _, _ => False
theorem yl (a : Addr) (m j : Nat) : (a.add m).add j = a.add (m + j) := by
 unfold Addr.add
 by_cases h1 : m = 0 <;> by_cases h2 : j = 0 <;> simp [h1, h2, o5]
theorem block_add (a : Addr) (m : Nat) : (a.add m).block = a.block := by unfold Addr.add; split <;> rfl
structure kM (w : World) (a : Addr) (xs : List AC) (vs : List Value) : Prop where
 lt : a.block < w.heap.size
 k9 : bL (fun _ => True) id w xs vs
 at_ : ∀ (j : Nat) v, vs[j]? = some v → w.cell? (a.add j) = some v
 pw : ∀ y ∈ xs, y.aZ = true
def nb (w : World) (a : Addr) (xs : List AC) (b : Nat) : Prop := a.block = b ∨ ∃ (j : Nat) (y : AC) (v : Value), xs[j]? = some y ∧ w.cell? (a.add j) = some v ∧ FM w y v b
theorem kM.frame {w w' : World} {a : Addr} {xs : List AC} {vs : List Value} (h : kM w a xs vs) (ar : ∀ b, nb w a xs b → w'.heap[b]? = w.heap[b]?) : kM w' a xs vs ∧ ∀ b, nb w' a xs b → nb w a xs b := by
 have ab : w'.heap[a.block]? = w.heap[a.block]? := ar _ (.inl rfl);have aj : ∀ j, w'.cell? (a.add j) = w.cell? (a.add j) := fun j => World.cell?_of_block (w := w) (by rw [block_add]; exact ab)
 have key : ∀ (j : Nat) (y : AC) (v : Value), xs[j]? = some y → w.cell? (a.add j) = some v → gh (fun _ => True) id w y v → gh (fun _ => True) id w' y v ∧ ∀ b, FM w' y v b → FM w y v b := by
  intro j y v ai hv ap;cases y with
  | c u => exact ⟨ap, fun b h => h⟩
  | own k o => exact ⟨ap, fun b h => h⟩
  | p R =>
   have := R.frame w w' v ap.1 fun b ab => ar b (.inr ⟨j, _, v, ai, hv, ab⟩);exact ⟨⟨this.1, fun _ _ => trivial⟩, this.2⟩
 refine ⟨⟨?_, ⟨h.k9.1, fun i y v ai hv => (key i y v ai (h.at_ i v hv) (h.k9.2 i y v ai hv)).1⟩, fun j v hv => by rw [aj]; exact h.at_ j v hv, h.pw⟩, ?_⟩
 ·have cY := Array.getElem?_eq_getElem h.lt;exact (jv.1 (ab.trans cY)).1
 ·rintro b (h1 | ⟨j, y, v, ai, hv, fZ⟩)
  ·exact .inl h1
  ·rw [aj] at hv;have bg : j < vs.length := by rw [← h.k9.1]; exact (bM.1 ai).1
   have h2 := h.at_ j _ (bN bg);rw [hv] at h2;cases h2;exact .inr ⟨j, y, _, ai, hv, (key j y _ ai hv (h.k9.2 j y _ ai (bN bg))).2 b fZ⟩
theorem kM.ir {w : World} {a : Addr} {xs : List AC} {vs : List Value} {b : Nat} (h : kM w a xs vs) (ar : nb w a xs b) : b < w.heap.size := by
 rcases ar with rfl | ⟨j, y, v, ai, hv, fZ⟩
 ·exact h.lt
 ·have bg : j < vs.length := by rw [← h.k9.1]; exact (bM.1 ai).1
  have h2 := h.at_ j _ (bN bg);rw [hv] at h2;cases h2;have := h.k9.2 j y _ ai (bN bg);cases y with
  | c u => cases fZ
  | own k o => cases fZ
  | p R => exact R.ir _ _ _ this.1 fZ
theorem kM.sub {w : World} {a : Addr} {xs : List AC} {vs : List Value} (h : kM w a xs vs) (off n : Nat) : kM w (a.add off) ((xs.drop off).take n) ((vs.drop off).take n) := by
 refine ⟨by rw [block_add]; exact h.lt, h.k9.sub off n, fun j v hv => ?_, fun y ai => h.pw y (mO (nB ai))⟩;rw [yl]
 have ae : j < n := by
  have := (bM.1 hv).1;simp at this; omega
 rw [fE ae, fV] at hv;exact h.at_ _ v hv
theorem nb.sub {w : World} {a : Addr} {xs : List AC} {off n b : Nat} (h : nb w (a.add off) ((xs.drop off).take n) b) : nb w a xs b := by
 rcases h with h | ⟨j, y, v, ai, hv, fZ⟩
 ·rw [block_add] at h; exact .inl h
 ·rw [yl] at hv
  have ae : j < n := by
   have := (bM.1 ai).1;simp at this; omega
  rw [fE ae, fV] at ai;exact .inr ⟨_, y, v, ai, hv, fZ⟩
theorem kM.Iz {w : World} {a : Addr} {xs : List AC} {vs : List Value} {U : Nat → Prop} {ad : Nat → Nat} (h : kM w a xs vs) (dx : ∀ b, nb w a xs b → U b) : bL U ad w xs vs := by
 refine ⟨h.k9.1, fun i y v ai hv => ?_⟩;have h1 := h.k9.2 i y v ai hv;have h2 := h.pw y (c7 ai);cases y with
 | c u => exact h1
 | own k o => cases h2
 | p R => exact ⟨h1.1, fun b ab => dx b (.inr ⟨i, _, v, ai, h.at_ i v hv, ab⟩)⟩
def EN (xs : List AC) : e0 where
 holds w v := ∃ a vs, v = .pointer (some a) ∧ kM w a xs vs
 kX w v b := ∃ a, v = .pointer (some a) ∧ nb w a xs b
 frame w w' v := by
  rintro ⟨a, vs, rfl, h⟩ ar;obtain ⟨h1, h2⟩ := h.frame fun b ab => ar b ⟨a, rfl, ab⟩;exact ⟨⟨a, vs, rfl, h1⟩, fun b ⟨a', e, ab⟩ => by cases e; exact ⟨a, rfl, h2 b ab⟩⟩
 ir w v b := by
  rintro ⟨a, vs, rfl, h⟩ ⟨a', e, ab⟩;cases e;exact h.ir ab
 cell w v := by rintro ⟨a, vs, rfl, h⟩; rfl
def cc (sz n : Nat) (xs : List AC) : e0 where
 holds w v := ∃ A c, v = .slice A n c ∧ n ≤ c ∧ xs.length = n * sz ∧ (0 < n → ∃ a vs, A = some a ∧ kM w a xs vs)
 kX w v b := ∃ c a, v = .slice (some a) n c ∧ 0 < n ∧ nb w a xs b
 frame w w' v := by
  rintro ⟨A, c, rfl, aj, ak, h⟩ ar;refine ⟨⟨A, c, rfl, aj, ak, fun ax => ?_⟩, ?_⟩
  ·obtain ⟨a, vs, rfl, aO⟩ := h ax;exact ⟨a, vs, rfl, (aO.frame fun b ab => ar b ⟨c, a, rfl, ax, ab⟩).1⟩
  ·rintro b ⟨c', a', e, ax, ab⟩;cases e;obtain ⟨a, vs, e, aO⟩ := h ax;cases e;exact ⟨c, a', rfl, ax, (aO.frame fun b ab => ar b ⟨c, a', rfl, ax, ab⟩).2 b ab⟩
 ir w v b := by
  rintro ⟨A, c, rfl, aj, ak, h⟩ ⟨c', a', e, ax, ab⟩;cases e;obtain ⟨a, vs, e, aO⟩ := h ax;cases e;exact aO.ir ab
 cell w v := by rintro ⟨A, c, rfl, _⟩; rfl
abbrev cy (sz n : Nat) (xs : List AC) : ah := .w (.one (.p (cc sz n xs)))
abbrev AH (xs : List AC) : ah := .w (.one (.p (EN xs)))
theorem kI (R : e0) (j : Nat) : ¬ (ah.w (.one (.p R))).owns j := fun ⟨y, ai, h⟩ => by simp [bz.cells] at ai; subst ai; cases h
section
variable {P : Program} {s : aA} {o : Oper} {ops : Array Oper} {K : aA → Prop} {rest : List Oper} {op : Op} {ty : Nat} {pos : String} {after : Array Edge} {guard : Option (Nat × Bool)} {d : Nat}
theorem E6 {av : ah} (hw : want ops ⟨some d, op, ty, pos, after, guard⟩ s = some true) (al : v8 P s.look ⟨some d, op, ty, pos, after, guard⟩ av) (hd : Nat.blt d s.n = true) (h : bb P ops K rest (s.put (some d) av)) : bb P ops K (⟨some d, op, ty, pos, after, guard⟩ :: rest) s :=
 qp (e := ⟨av, none⟩) hw (.fresh av al) (kU hd) h
theorem mj {t sz : Nat} (h : sK P t = some sz) : ∃ e i, P.underlying t = some (.slice e) ∧ P.info? e = some i ∧ i.size = sz := by
 unfold sK at h
 split at h
 ·rename_i e hu;cases hi : P.info? e with
  | none => rw [hi] at h; cases h
  | some i => rw [hi] at h; cases h; exact ⟨e, i, hu, hi, rfl⟩
 ·cases h
theorem jJ {t e : Nat} (h : P.underlying t = some (.slice e)) : P.elem t = e := by simp [Program.elem, h]
theorem Ka {t sz agx n : Nat} {xs : List AC} {x : Operand} [S : gS P t agx] (hw : want ops ⟨some d, .call ⟨.builtin .len, #[x], #[t]⟩, ty, pos, after, guard⟩ s = some true) (aa : s.look x = some (cy sz n xs)) (hd : Nat.blt d s.n = true)
  (h : bb P ops K rest (s.put (some d) (aH n))) : bb P ops K (⟨some d, .call ⟨.builtin .len, #[x], #[t]⟩, ty, pos, after, guard⟩ :: rest) s := by
 refine fN (av := aH n) hw ⟨fun _ _ h => (by cases h), fun y ai => ?_, fun U ad W env he => ⟨.int .i64 n, ?_, rfl, rfl⟩, fun j ae => absurd ae (iE _ j)⟩ hd h
 ·simp [Op.operands, Call.operands] at ai;subst ai;exact ⟨_, aa⟩
 ·obtain ⟨⟨A, c, aF, _⟩, _⟩ := he x (by simp [Op.operands, Call.operands]) _ aa;obtain ⟨e, i, hu, hi, _⟩ := mj S.h;have eT : P.underlying t = some (.slice (P.elem t)) := by rw [jJ hu]; exact hu
  have em : (#[x] : Array Operand).map env = #[.slice A n c] := by simp [aF]
  simp only [execOp, resolve, em, Sem.run_bind, Sem.run_pure, Result.andThen_ok, invoke, builtin];rw [run_len_slice W t ty A n c eT];rfl
theorem Ud {x y : Operand} {t sz n : Nat} {gX : IntKind} {i : Int} {xs aS : List AC} [S : gS P t sz] (hw : want ops ⟨some d, .indexAddr t x y, ty, pos, after, guard⟩ s = some true) (aa : s.look x = some (cy sz n xs)) (ai : s.look y = some (aR (.int gX i))) (aD : 0 ≤ i) (h1 : i < n)
  (he : (xs.drop (i.toNat * sz)).take sz = aS) (hd : Nat.blt d s.n = true) (h : bb P ops K rest (s.put (some d) (AH aS))) : bb P ops K (⟨some d, .indexAddr t x y, ty, pos, after, guard⟩ :: rest) s := by
 subst he;refine fN hw ⟨fun _ _ h => (by cases h), fun z aP => ?_, fun U ad W env he => ?_, fun j ae => absurd ae (kI _ j)⟩ hd h
 ·simp [Op.operands] at aP;rcases aP with rfl | rfl
  ·exact ⟨_, aa⟩
  ·exact ⟨_, ai⟩
 ·obtain ⟨⟨A, c, aF, aj, ak, de⟩, dx⟩ := he x (by simp [Op.operands]) _ aa;have hi : env y = .int gX i := (he y (by simp [Op.operands]) _ ai).1;obtain ⟨e, eE, hu, c8, hs⟩ := mj S.h;obtain ⟨a, vs, rfl, dT⟩ := de (by omega);refine ⟨.pointer (some (a.add (i.toNat * sz))), ?_, ⟨_, _, rfl, dT.sub _ _⟩, ?_⟩
  ·simp only [execOp, Instr.indexAt, aF, hi, asIntOf, Sem.run_bind, Sem.run_pure, Result.andThen_ok, run_underlying hu, hB c8, if_pos (And.intro aD h1), hs]
  ·rintro b ⟨a', e, ab⟩;cases e;exact dx b ⟨c, a, aF, by omega, ab.sub⟩
theorem T9 {x : Operand} {p9 i ig : Nat} {xs : List AC} [F : mV P p9 i ig] (hw : want ops ⟨some d, .fieldAddr p9 x i, ty, pos, after, guard⟩ s = some true) (aa : s.look x = some (AH xs)) (hd : Nat.blt d s.n = true) (h : bb P ops K rest (s.put (some d) (AH (xs.drop ig)))) : bb P ops K (⟨some d, .fieldAddr p9 x i, ty, pos, after, guard⟩ :: rest) s := by
 refine fN hw ⟨fun _ _ h => (by cases h), fun y ai => ?_, fun U ad W env he => ?_, fun j ae => absurd ae (kI _ j)⟩ hd h
 ·simp [Op.operands] at ai;subst ai;exact ⟨_, aa⟩
 ·obtain ⟨⟨a, vs, aF, dT⟩, dx⟩ := he x (by simp [Op.operands]) _ aa;have hF := F.h;unfold tj at hF
  split at hF
  ·rename_i bi hu;cases ar : bi[i]? with
   | none => rw [ar] at hF; cases hF
   | some f =>
    rw [ar] at hF;simp only [ks] at hF;cases hi : P.info? f.type with
    | none => rw [hi] at hF; cases hF
    | some t =>
     rw [hi] at hF;simp only [ks] at hF
     split at hF
     ·cases hF
     ·rename_i bU;cases hF;have zp := dT.sub f.offset xs.length;rw [gn (by simp), gn (by have := dT.k9.1; simp; omega)] at zp;refine ⟨.pointer (some (a.add f.offset)), ?_, ⟨_, _, rfl, zp⟩, ?_⟩
      ·simp only [execOp, Instr.fieldAt, aF, Instr.sureAddr, Sem.run_bind, Sem.run_pure, Result.andThen_ok, run_underlying hu, ar, fieldPlace, hB hi, if_neg bU]
      ·rintro b ⟨a', e, ab⟩;cases e;refine dx b ⟨a, aF, nb.sub (off := f.offset) (n := xs.length) ?_⟩;rw [gn (by simp)];exact ab
  ·cases hF
theorem Uj {x : Operand} {lt n : Nat} {xs : List AC} {y : AC} [T : eY P lt false n] (hw : want ops ⟨some d, .load lt x, ty, pos, after, guard⟩ s = some true) (aa : s.look x = some (AH xs)) (aj : xs[0]? = some y) (cZ : y.aZ = true) (hd : Nat.blt d s.n = true) (h : bb P ops K rest (s.put (some d) (.w (.one y)))) : bb P ops K (⟨some d, .load lt x, ty, pos, after, guard⟩ :: rest) s := by
 refine fN hw ⟨fun _ _ h => (by cases h), fun y ai => ?_, fun U ad W env he => ?_, fun j ae => ?_⟩ hd h
 ·simp [Op.operands] at ai;subst ai;exact ⟨_, aa⟩
 ·obtain ⟨⟨a, vs, aF, dT⟩, dx⟩ := he x (by simp [Op.operands]) _ aa;have ap := dT.Iz (U := U) (ad := ad) fun b ab => dx b ⟨a, aF, ab⟩;have bg : 0 < vs.length := by rw [← ap.1]; exact (bM.1 aj).1
  have hv := bN bg;refine ⟨_, ?_, ap.2 0 y _ aj hv⟩;have cK := T.h;have jn : W.cell? a = some vs[0] := dT.at_ 0 _ hv;unfold ky at cK;cases hu : P.underlying lt with
  | none => rw [hu] at cK; cases cK
  | some D =>
   have key : (loadVar lt a).run P W = .ok vs[0] W := by
    refine ID hu (fun bi e => ?_) (fun m bq e => ?_) jn
    ·subst e;cases hi : P.info? lt with
     | none => simp [hu, hi] at cK
     | some eE => simp [hu, hi] at cK
    ·subst e;cases hi : P.info? lt with
     | none => simp [hu, hi] at cK
     | some eE => simp [hu, hi] at cK
   simp only [execOp, Instr.loadAt, aF, Instr.sureAddr, Sem.run_bind, Sem.run_pure, Result.andThen_ok, key]
 ·exact absurd ae (ah.du (x := .w (.one y)) cZ j)
theorem Uk {x : Operand} {lt n : Nat} {xs aS : List AC} [T : eY P lt true n] (hw : want ops ⟨some d, .load lt x, ty, pos, after, guard⟩ s = some true) (aa : s.look x = some (AH xs)) (aj : takeN xs 0 n = some aS) (cZ : (bz.agg aS).aZ = true) (hd : Nat.blt d s.n = true) (h : bb P ops K rest (s.put (some d) (.w (.agg aS)))) : bb P ops K (⟨some d, .load lt x, ty, pos, after, guard⟩ :: rest) s := by
 refine fN hw ⟨fun _ _ h => (by cases h), fun y ai => ?_, fun U ad W env he => ?_, fun j ae => ?_⟩ hd h
 ·simp [Op.operands] at ai;subst ai;exact ⟨_, aa⟩
 ·obtain ⟨⟨a, vs, aF, dT⟩, dx⟩ := he x (by simp [Op.operands]) _ aa;obtain ⟨q1, q2⟩ := Ej _ _ _ _ aj;have zp := dT.sub 0 n;have ap := zp.Iz (U := U) (ad := ad) fun b ab => dx b ⟨a, aF, nb.sub ab⟩;rw [q2] at ap;have aJ : a.add 0 = a := rfl;refine ⟨.agg ((vs.drop 0).take n).toArray, ?_, _, rfl, ap⟩;have cK := T.h;unfold ky at cK;have hlen : ((vs.drop 0).take n).length = n := by have := dT.k9.1; simp; omega
  have jn := zp.at_;rw [aJ] at jn;cases hu : P.underlying lt with
  | none => rw [hu] at cK; cases cK
  | some D =>
   cases hi : P.info? lt with
   | none => rw [hu, hi] at cK; cases D <;> cases cK
   | some eE =>
    rw [hu, hi] at cK;have key : ((∃ bi, D = .struct bi) ∨ ∃ n e, D = .array n e) ∧ eE.size = n := by cases D <;> simp at cK <;> simp [cK]
    have := IC (P := P) (w := W) (A := a) hu key.1 hi (by rw [hlen, key.2]) jn;simp only [execOp, Instr.loadAt, aF, Instr.sureAddr, Sem.run_bind, Sem.run_pure, Result.andThen_ok, this]
 ·exact absurd ae (ah.du (x := .w (.agg aS)) cZ j)
def xP (P : Program) (t : TypeId) : Option (List Value) :=
 match P.underlying t with
 | some (.slice e) => zeroOf P e
 | _ => none
class mv (P : Program) (t : TypeId) (vs : outParam (List Value)) : Prop where
 h : xP P t = some vs
def h5 (n sz : Nat) (vs : List Value) : List AC := (List.range (n * sz)).map fun j => .c (vs.toArray[j % vs.length]!)
def xB (n sz : Nat) : List (Nat × Nat) := (List.range n).map fun i => (i * sz, sz)
theorem UJ {w : World} {sH : List AC} {us : List Value} {ty : TypeId} {U : Nat → Prop} {ad : Nat → Nat} (h : bL U ad w sH us) (cZ : ∀ y ∈ sH, y.aZ = true) : kM (w.alloc (.cells us.toArray ty)) ⟨w.heap.size, 0, none⟩ sH us := by
 refine ⟨by show w.heap.size < (w.heap.push _).size; simp, ⟨h.1, fun i y v ai hv => ?_⟩, fun j v hv => ?_, cZ⟩
 ·refine (h.2 i y v ai hv).map (fun b ab ak => ⟨trivial, Below.heap_alloc _ _ _ ak⟩) fun j ae => ?_;exact absurd ae (AC.du (cZ y (c7 ai)) j)
 ·have kC : (⟨w.heap.size, 0, none⟩ : Addr).add j = ⟨w.heap.size, j, none⟩ := by unfold Addr.add; split <;> simp_all
  rw [kC];have : (w.alloc (.cells us.toArray ty)).heap[w.heap.size]? = some (.cells us.toArray ty (0, 0)) := by show (w.heap.push _)[w.heap.size]? = _; simp
  simp only [World.cell?, this];simpa using hv
theorem UK {w : World} {sH : List AC} {us : List Value} {ty : TypeId} {U : Nat → Prop} {ad : Nat → Nat} {b : Nat} (h : bL U ad w sH us) (ar : nb (w.alloc (.cells us.toArray ty)) ⟨w.heap.size, 0, none⟩ sH b) : U b ∨ w.heap.size ≤ b := by
 rcases ar with rfl | ⟨j, y, v, ai, hv, fZ⟩
 ·exact .inr (dJ _)
 ·have kC : (⟨w.heap.size, 0, none⟩ : Addr).add j = ⟨w.heap.size, j, none⟩ := by unfold Addr.add; split <;> simp_all
  rw [kC] at hv;have : (w.alloc (.cells us.toArray ty)).heap[w.heap.size]? = some (.cells us.toArray ty (0, 0)) := by show (w.heap.push _)[w.heap.size]? = _; simp
  simp only [World.cell?, this] at hv;have bR : us[j]? = some v := by simpa using hv
  have ap := h.2 j y v ai bR;cases y with
  | c u => cases fZ
  | own k o => cases fZ
  | p R =>
   refine .inl (ap.2 b ?_);exact (R.frame w _ v ap.1 fun bT c4 => Below.heap_alloc _ _ _ (R.ir _ _ _ ap.1 c4)).2 b fZ
theorem TV {t n sz : Nat} {parts : List (Nat × Operand)} {vs : List Value} {zs : List (Nat × bz)} {r : List AC} [S : gS P t sz] [Z : mv P t vs] (hw : want ops ⟨some d, .buildSlice t n parts.toArray, ty, pos, after, guard⟩ s = some true) (aP : nw s.look parts = some zs) (ab : qt (xB n sz) (h5 n sz vs) zs = some r)
  (h1 : (vs.all fun v => v.oneCell') = true) (hs : Nat.beq vs.length sz = true) (aD : Nat.blt 0 (n * sz) = true) (h2 : Nat.ble (n * sz) 16777216 = true) (ap : Nat.beq r.length (n * sz) = true) (cZ : r.all AC.aZ = true) (hd : Nat.blt d s.n = true) (h : bb P ops K rest (s.put (some d) (cy sz n r))) : bb P ops K (⟨some d, .buildSlice t n parts.toArray, ty, pos, after, guard⟩ :: rest) s := by
 refine E6 (av := cy sz n r) hw ⟨fun z tG => ?_, fun j ae => kI _ j ae, fun U ad W env he => ?_⟩ hd h
 ·simp only [Op.operands, List.mem_toArray, iv] at tG;obtain ⟨p, hp, rfl⟩ := tG;obtain ⟨z, h1, _⟩ := Hw parts zs aP p hp;exact ⟨_, h1⟩
 ·obtain ⟨e, i, hu, hi, bI⟩ := mj S.h;have dN := Z.h;unfold xP at dN;rw [hu] at dN;simp only at dN;unfold zeroOf at dN;rw [hi] at dN;simp only [ks] at dN;cases hJ : i.zero with
  | none => rw [hJ] at dN; cases dN
  | some z =>
   rw [hJ] at dN;cases dN;have hlen : z.cells.toList.length = sz := hb hs;have yJ : 0 < n * sz := by simpa [Nat.blt_eq] using aD
   have wR : n * sz ≤ 16777216 := by simpa [Nat.ble_eq] using h2
   have Cz : r.length = n * sz := hb ap;have rV : ∀ y ∈ r, y.aZ = true := cB.1 cZ;have sb : (zeroValue e).run P W = .ok z W := by simp [zeroValue, typeInfo, program, Sem.run_bind, Sem.run, hi, Result.andThen, hJ]
   have jV : bL U ad W (h5 n sz z.cells.toList) ((List.range (n * sz)).map fun j => z.cells[j % z.cells.size]!) := by
    refine ⟨by simp [h5], fun j x v aa hv => ?_⟩;have ae : j < n * sz := by have := (bM.1 hv).1; simpa using this
    simp only [h5, eg, List.getElem?_range ae, gL, h0] at aa hv;subst aa; subst hv;have vo : z.cells.size = sz := by simpa using hlen
    have GR : 0 < sz := Nat.pos_of_mul_pos_left yJ |> fun h => by
     rcases ue sz with q | q
     ·rw [q] at yJ; simp at yJ
     ·exact q
    have bg : j % z.cells.size < z.cells.size := Nat.mod_lt _ (by omega);have aM : z.cells.toList.toArray[j % z.cells.toList.length]! = z.cells[j % z.cells.size]! := by simp
    refine ⟨aM.symm, ?_⟩;rw [aM, getElem!_pos z.cells _ bg];exact cB.1 h1 _ (by simp)
   obtain ⟨us, g1, g2⟩ := yG (U := U) (ad := ad) (W := W) (ps := xB n sz) (place := fun i => some (i * sz, sz)) (fun i q al => by
     simp only [xB, eg] at al;cases ap : (List.range n)[i]? with
     | none => rw [ap] at al; cases al
     | some m =>
      rw [ap] at al;cases al;have := bM.1 ap;obtain ⟨an, aE⟩ := this;simp at aE;rw [aE]) (look := s.look) (env := env) parts _ _ zs r jV aP (fun p hp a aJ => he p.2 (by simp only [Op.operands, List.mem_toArray, iv]; exact ⟨p, hp, rfl⟩) a aJ) ab
   refine ⟨.slice (some ⟨W.heap.size, 0, none⟩) n n, W.alloc (.cells us.toArray e), ?_, ⟨⟨some ⟨W.heap.size, 0, none⟩, n, rfl, dJ _, Cz, fun ax => ⟨_, us, rfl, UJ g2 rV⟩⟩, ?_⟩, (Below.refl _ _).alloc (dJ _) _⟩
   ·have tA : (parts.toArray.map fun (i, x) => (i, env x)).toList = parts.map fun p => (p.1, env p.2) := by simp
    have cg : (Array.range (n * sz)).map (fun j => z.cells[j % z.cells.size]!) = ((List.range (n * sz)).map fun j => z.cells[j % z.cells.size]!).toArray := by simp [← List.toArray_range]
    simp only [execOp, Instr.buildSlice, Sem.run_bind, run_underlying hu, Result.andThen_ok, hB hi, bI];rw [if_neg (by omega), if_neg (by omega)];simp only [Sem.run_bind, Sem.run_pure, sb, Result.andThen_ok, cg, tA, g1, newRow, newObj, Sem.run];rfl
   ·rintro b ⟨c, a, e, ax, ab⟩;cases e;exact UK g2 ab
end
def ko {α : Type} : List (Nat × α) → Nat → Option α
 | [], _ => none
 | (k, v) :: r, t => bif Nat.beq t k then some v else ko r t
def qU (n : Nat) (aL : List (Nat × ah)) (bd : List (Nat × List AC)) : aA := ⟨n, ko aL, ko bd⟩
def lR {α : Type} (f : Nat → Option α) : List (Nat × α) → Prop
 | [] => True
 | (k, v) :: r => f k = some v ∧ lR f r
theorem Fb {α : Type} {f : Nat → Option α} : ∀ (l : List (Nat × α)), lR f l → ∀ t v, ko l t = some v → f t = some v
 | [], _, t, v, h => by cases h
 | (k, u) :: r, aJ, t, v, h => by
  simp only [ko] at h;cases ab : Nat.beq t k with
  | true => rw [ab] at h; cases h; rw [hb ab]; exact aJ.1
  | false => rw [ab] at h; exact Fb r aJ.2 t v h
theorem xp {s : aA} {n : Nat} {aL : List (Nat × ah)} {bd : List (Nat × List AC)} (ax : n = s.n) (aB : lR s.tmps aL) (hm : lR s.mem bd) : s.aQ (qU n aL bd) :=
 ⟨ax, Fb aL aB, Fb bd hm⟩
def CV {α : Type} (bd : List (Nat × α)) (k : Nat) : Bool := bd.any fun p => Nat.beq k p.1
def Bl (bd : List (Nat × List AC)) : AC → Bool
 | .own k _ => CV bd k
 | _ => true
def US (bd : List (Nat × List AC)) : ah → Bool
 | .w x => x.cells.all (Bl bd)
 | .cr xs => xs.all fun x => x.cells.all (Bl bd)
def okB (aL : List (Nat × ah)) (bd : List (Nat × List AC)) : Bool := aL.all (fun p => US bd p.2) && bd.all fun p => p.2.all (Bl bd)
theorem N3 {α : Type} {k : Nat} : ∀ (bd : List (Nat × α)), CV bd k = true → ∃ v, ko bd k = some v
 | [], h => by cases h
 | (j, u) :: r, h => by
  simp only [CV, List.any_cons, pX] at h;simp only [ko];cases ab : Nat.beq k j with
  | true => exact ⟨u, rfl⟩
  | false => rw [ab] at h; exact N3 r (by simpa [CV] using h)
theorem Ht {α : Type} {k : Nat} {v : α} : ∀ (bd : List (Nat × α)), ko bd k = some v → (k, v) ∈ bd
 | [], h => by cases h
 | (j, u) :: r, h => by
  simp only [ko] at h;cases ab : Nat.beq k j with
  | true => rw [ab] at h; cases h; rw [hb ab]; simp
  | false => rw [ab] at h; exact o4 _ (Ht r h)
theorem E1 {bd : List (Nat × List AC)} {x : AC} {j : Nat} (h : Bl bd x = true) (ae : x.owns j) : ∃ cs, ko bd j = some cs := by
 cases x with
 | c v => cases ae
 | p R => cases ae
 | own k o => cases ae; exact N3 bd h
theorem C6 {n : Nat} {aL : List (Nat × ah)} {bd : List (Nat × List AC)} (h : okB aL bd = true) : (qU n aL bd).cE := by
 unfold okB at h;rw [dc] at h;refine ⟨fun t av j aB ae => ?_, fun k cs x j af aa ae => ?_⟩
 ·have h1 := cB.1 h.1 _ (Ht aL aB);cases av with
  | w x =>
   obtain ⟨y, ai, l0⟩ := ae;exact E1 (cB.1 h1 y ai) l0
  | cr xs =>
   obtain ⟨z, aP, y, ai, l0⟩ := ae;exact E1 (cB.1 (cB.1 h1 z aP) y ai) l0
 ·have h1 := cB.1 h.2 _ (Ht bd af);exact E1 (cB.1 h1 x aa) ae
section
variable {P : Program} {s : aA} {x : Code}
theorem s8 {Q : Exit → aA → Prop} (N : Nat) (I : Nat → List (Nat × ah) → List (Nat × List AC) → Prop) (k : Nat) (aL : List (Nat × ah)) (bd : List (Nat × List AC)) (bj : I k aL bd) (ax : N = s.n) (aB : lR s.tmps aL) (hm : lR s.mem bd) (ok : okB aL bd = true)
  (round : ∀ k aL bd, I k aL bd → okB aL bd = true → ff P x (rH (fun s' => ∃ k' lb k3, k' < k ∧ I k' lb k3 ∧ N = s'.n ∧ lR s'.tmps lb ∧ lR s'.mem k3 ∧ okB lb k3 = true) Q) (qU N aL bd)) : ff P (.loop x) Q s := by
 refine Kq (fun k s => ∃ aL bd, I k aL bd ∧ okB aL bd = true ∧ s = qU N aL bd) k (qU N aL bd) (xp ax aB hm) (C6 ok) ⟨aL, bd, bj, ok, rfl⟩ ?_;rintro k s ⟨aL, bd, bj, ok, rfl⟩;intro cS B A ad a w aw;refine nI (round k aL bd bj ok cS B A ad a w aw) ?_;rintro e a' w' ⟨s', aY, vG, bZ, al⟩;refine ⟨s', aY, vG, bZ, ?_⟩;cases e with
 | normal =>
  obtain ⟨k', lb, k3, h1, h2, an, aE, cY, fh⟩ := al;exact ⟨k', h1, qU N lb k3, xp an aE cY, C6 fh, lb, k3, h2, fh, rfl⟩
 | _ => exact al
def Ah (P : Program) (x : Code) (Q : Exit → aA → Prop) : Nat → aA → Prop
 | 0, _ => False
 | n + 1, s => ff P x (rH (Ah P x Q n) Q) s
theorem afb {Q : Exit → aA → Prop} {n : Nat} (h : ff P x (rH (Ah P x Q n) Q) s) : Ah P x Q (n + 1) s := h
theorem UY (n : Nat) {Q : Exit → aA → Prop} (h : Ah P x Q n s) : ff P (.loop x) Q s := by
 intro ok;refine Kq (fun k s => s.cE ∧ Ah P x Q k s) n s ⟨rfl, fun _ _ h => h, fun _ _ h => h⟩ ok ⟨ok, h⟩ ?_ ok;rintro k s ⟨ok, h⟩;cases k with
 | zero => cases h
 | succ k =>
  intro cS B A ad a w aw;refine nI (h cS B A ad a w aw) ?_;rintro e a' w' ⟨s', aY, vG, bZ, al⟩;refine ⟨s', aY, vG, bZ, ?_⟩;cases e with
  | normal => exact ⟨k, Nat.lt_succ_self k, s', ⟨rfl, fun _ _ h => h, fun _ _ h => h⟩, vG, vG, al⟩
  | _ => exact al
end
def okW (x : bz) : Bool := x.cells.all fun y => match y with | .c v => v.oneCell' | _ => true
def wL : List bz → Option (List Value)
 | [] => some []
 | x :: xs => match mB x, wL xs with
  | some v, some r => some (v :: r)
  | _, _ => none
def qx : ah → Option Value
 | .w x => mB x
 | .cr xs => match wL xs with
  | some r => some (.tuple r.toArray)
  | none => none
def HX : ah → Bool
 | .w x => okW x
 | .cr xs => xs.all okW
section
variable {U : Nat → Prop} {ad : Nat → Nat} {W : World}
theorem Q7 : ∀ (xs : List AC) (r : List Value), ti xs = some r → (xs.all fun y => match y with | .c v => v.oneCell' | _ => true) = true → bL U ad W xs r
 | [], r, h, _ => by cases h; exact ⟨rfl, fun i x v h => by simp at h⟩
 | .c v :: xs, r, h, ok => by
  simp only [ti] at h
  split at h
  ·rename_i aX ap;cases h;simp only [ku, dc] at ok;have b5 := Q7 xs aX ap ok.2;refine ⟨by simp [b5.1], fun i x u aa hu => ?_⟩;cases i with
   | zero => simp at aa hu; subst aa; subst hu; exact ⟨rfl, ok.1⟩
   | succ i => exact b5.2 i x u (by simpa using aa) (by simpa using hu)
  ·cases h
 | .own _ _ :: _, _, h, _ => by cases h
 | .p _ :: _, _, h, _ => by cases h
theorem Rc {x : bz} {u : Value} (h : mB x = some u) (ok : okW x = true) : fX U ad W x u := by
 cases x with
 | one y => cases y with
  | c v => cases h; simp [okW, bz.cells] at ok; exact ⟨rfl, ok⟩
  | own => cases h
  | p => cases h
 | agg xs =>
  simp only [mB] at h
  split at h
  ·rename_i r ap; cases h; exact ⟨r, rfl, Q7 xs r ap ok⟩
  ·cases h
theorem Q9 : ∀ (xs : List bz) (r : List Value), wL xs = some r → xs.all okW = true → xs.length = r.length ∧ ∀ (i : Nat) (x : bz) (v : Value), xs[i]? = some x → r[i]? = some v → fX U ad W x v
 | [], r, h, _ => by cases h; exact ⟨rfl, fun i x v h => by simp at h⟩
 | x :: xs, r, h, ok => by
  simp only [wL] at h
  split at h
  ·rename_i v aX hv ap;cases h;simp only [ku, dc] at ok;obtain ⟨h1, h2⟩ := Q9 xs aX ap ok.2;refine ⟨by simp [h1], fun i y u ai hu => ?_⟩;cases i with
   | zero => simp at ai hu; subst ai; subst hu; exact Rc hv ok.1
   | succ i => exact h2 i y u (by simpa using ai) (by simpa using hu)
  ·cases h
theorem D0 {x : ah} {u : Value} (h : qx x = some u) (ok : HX x = true) : da U ad W x u := by
 cases x with
 | w y => exact Rc h ok
 | cr xs =>
  simp only [qx] at h
  split at h
  ·rename_i r ap; cases h; exact ⟨r, rfl, Q9 xs r ap ok⟩
  ·cases h
end
theorem hN {P : Program} {f : FuncId} {args : List ah} {r : ah} (jh : List Value) (b0 : Value) (he : args.map (fun x => match x with | .w y => mB y | _ => none) = jh.map some) (ap : qx r = some b0) (jI : args.all ah.aZ = true) (bW : r.aZ = true) (ok : HX r = true)
  (h : ∀ W, Calls P f jh.toArray W fun e bh => e = .returned b0 ∧ Below W.heap.size W bh) : aC P f args r :=
 Qg jh he jI bW fun W => (h W).mono fun e w' ⟨h1, h2⟩ => ⟨b0, h1, fun _ _ => D0 ap ok, h2⟩
structure yi where
 ty : List (Nat × Bool × Nat)
 zero : List (Nat × List Value)
 nT : List (Nat × List (Nat × Nat))
 na : List (Nat × Nat × Nat)
 iG : List (Nat × List (Nat × Nat))
def ll {α : Type} (R : α → Prop) : List α → Prop
 | [] => True
 | a :: l => R a ∧ ll R l
theorem qq {α : Type} {R : Nat × α → Prop} {k : Nat} {v : α} : ∀ (l : List (Nat × α)), ll R l → ko l k = some v → R (k, v)
 | [], _, h => by cases h
 | (j, u) :: l, ak, h => by
  simp only [ko] at h;cases ab : Nat.beq k j with
  | true => rw [ab] at h; cases h; obtain rfl := hb ab; exact ak.1
  | false => rw [ab] at h; exact qq l ak.2 h
class EP (P : Program) (T : outParam yi) : Prop where
 ty : ll (fun p => ky P p.1 = some p.2) T.ty
 zero : ll (fun p => zeroOf P p.1 = some p.2) T.zero
 nT : ll (fun p => ll (fun q => tj P p.1 q.1 = some q.2) p.2) T.nT
 na : ll (fun p => Br P p.1 = some p.2) T.na
 iG : ll (fun p => DJ P p.1 = some p.2) T.iG
def QL (b : BinOp) (m n : Int) : Option Bool :=
 match b with
 | .lss => some (decide (m < n))
 | .leq => some (decide (m ≤ n))
 | .gtr => some (decide (n < m))
 | .geq => some (decide (n ≤ m))
 | .eql => some (decide (m = n))
 | .neq => some (!decide (m = n))
 | _ => none
def mM (T : yi) (s : aA) (d : Nat) : Op → Option aA
 | .move x => match s.look x with
  | some av => some (s.put (some d) av)
  | none => none
 | .assign x => match s.look x with
  | some av => some (s.put (some d) av)
  | none => none
 | .pick c x y => match s.look c, s.look x, s.look y with
  | some (.w (.one (.c (.bool true)))), some av, some _ => some (s.put (some d) av)
  | some (.w (.one (.c (.bool false)))), some _, some bv => some (s.put (some d) bv)
  | _, _, _ => none
 | .alloc t => match ko T.zero t, s.mem d with
  | some vs, none => bif vs.all fun v => v.oneCell' then some ((s.eh d (vs.map .c)).put (some d) (jg d 0)) else none
  | _, _ => none
 | .box _ x => match s.look x, s.mem d with
  | some (.w z), none => some ((s.eh d z.cells).put (some d) (jg d 0))
  | _, _ => none
 | .load t x => match s.look x with
  | some (.w (.one (.own k off))) => match s.mem k with
   | some cs => match ko T.ty t with
    | some (false, _) => match cs[off]? with
     | some y => some (s.put (some d) (.w (.one y)))
     | none => none
    | some (true, n) => match takeN cs off n with
     | some aS => some (s.put (some d) (.w (.agg aS)))
     | none => none
    | none => none
   | none => none
  | _ => none
 | .fieldAddr t x i => match s.look x with
  | some (.w (.one (.own k off))) => match ko T.nT t with
   | some l => match ko l i with
    | some ig => some (s.put (some d) (jg k (off + ig)))
    | none => none
   | none => none
  | _ => none
 | .indexAddr t x y => match s.look x, s.look y with
  | some (.w (.one (.own k off))), some (.w (.one (.c (.int _ i)))) => match ko T.na t with
   | some (n, size) => bif decide (0 ≤ i) && decide (i < n) then some (s.put (some d) (jg k (off + i.toNat * size))) else none
   | none => none
  | _, _ => none
 | .extract x i => match s.look x with
  | some (.cr xs) => match xs[i]? with
   | some y => some (s.put (some d) (.w y))
   | none => none
  | _ => none
 | .build t parts => match nw s.look parts.toList, ko T.zero t, ko T.iG t with
  | some zs, some vs, some ps => match qt ps (vs.map .c) zs with
   | some r => bif vs.all fun v => v.oneCell' then some (s.put (some d) (.w (.agg r))) else none
   | none => none
  | _, _, _ => none
 | .binOp b _ x y _ => match s.look x, s.look y with
  | some (.w (.one (.c (.int k m)))), some (.w (.one (.c (.int k' n)))) => match decEq k k' with
   | isTrue _ => match QL b m n with
    | some r => some (s.put (some d) (bk r))
    | none => none
   | isFalse _ => none
  | _, _ => none
 | .unOp .not _ x => match s.look x with
  | some (.w (.one (.c (.bool b)))) => some (s.put (some d) (bk (!b)))
  | _ => none
 | _ => none
def QN (T : yi) (ops : Array Oper) (s : aA) (o : Oper) : Option aA :=
 match want ops o s with
 | some true => match o.dst with
  | some d => bif Nat.blt d s.n then mM T s d o.op else none
  | none => match o.op with
   | .store t x y => match s.look x, s.look y with
    | some (.w (.one (.own k off))), some (.w z) => match s.mem k, ko T.ty t with
     | some cs, some (_, n) => bif Nat.beq n z.cells.length then (match o3 cs off z.cells with
      | some ds => some (s.eh k ds)
      | none => none) else none
     | _, _ => none
    | _, _ => none
   | _ => none
 | some false => match o.dst with
  | some d => bif Nat.blt d s.n then some (s.put (some d) (.cr [])) else none
  | none => some s
 | none => none
section
variable {P : Program} {T : yi} {s s' : aA} {ops : Array Oper} {K : aA → Prop} {rest : List Oper}
theorem UA [Q : EP P T] {d ty : Nat} {op : Op} {pos : String} {after : Array Edge} {guard : Option (Nat × Bool)} (hw : want ops ⟨some d, op, ty, pos, after, guard⟩ s = some true) (hd : Nat.blt d s.n = true) (h : mM T s d op = some s') (k : bb P ops K rest s') :
  bb P ops K (⟨some d, op, ty, pos, after, guard⟩ :: rest) s := by
 cases op with
 | move x =>
  simp only [mM] at h
  split at h
  ·rename_i av aa; cases h; exact Uq hw aa hd k
  ·cases h
 | assign x =>
  simp only [mM] at h
  split at h
  ·rename_i av aa; cases h; exact TT hw aa hd k
  ·cases h
 | pick c x y =>
  simp only [mM] at h
  split at h
  ·rename_i av bv aj aa ai; cases h; exact Uz hw aj aa ai hd k
  ·rename_i av bv aj aa ai; cases h; exact Uy hw aj ai aa hd k
  ·cases h
 | alloc t =>
  simp only [mM] at h
  split at h
  ·rename_i vs aP hm;have dN := qq _ Q.zero aP;cases h1 : (vs.all fun v => v.oneCell') with
   | true =>
    rw [h1] at h;cases h;have : Bk P t vs := ⟨dN⟩;exact TS hw hm h1 hd k
   | false => rw [h1] at h; cases h
  ·cases h
 | box t x =>
  simp only [mM] at h
  split at h
  ·rename_i z aa hm; cases h; exact TU hw aa hm hd k
  ·cases h
 | load t x =>
  simp only [mM] at h
  split at h
  ·rename_i j off aa
   split at h
   ·rename_i cs hm
    split at h
    ·rename_i n cK;have yQ := qq _ Q.ty cK
     split at h
     ·rename_i y aj; cases h; have : eY P t false n := ⟨yQ⟩; exact Uh hw aa hm aj hd k
     ·cases h
    ·rename_i n cK;have yQ := qq _ Q.ty cK
     split at h
     ·rename_i aS aj; cases h; have : eY P t true n := ⟨yQ⟩; exact Ui hw aa hm aj hd k
     ·cases h
    ·cases h
   ·cases h
  ·cases h
 | fieldAddr t x i =>
  simp only [mM] at h
  split at h
  ·rename_i j off aa
   split at h
   ·rename_i l ak
    split at h
    ·rename_i ig ar;have hF := qq _ (qq _ Q.nT ak) ar;cases h;have : mV P t i ig := ⟨hF⟩;exact T8 hw aa hd k
    ·cases h
   ·cases h
  ·cases h
 | indexAddr t x y =>
  simp only [mM] at h
  split at h
  ·rename_i j off gX i aa ai
   split at h
   ·rename_i n size de;have uZ := qq _ Q.na de;cases h1 : (decide (0 ≤ i) && decide (i < (n : Int))) with
    | true =>
     rw [h1] at h;cases h;rw [dc, cq, cq] at h1;have : Jj P t n size := ⟨uZ⟩;exact J9 hw aa ai h1.1 h1.2 hd k
    | false => rw [h1] at h; cases h
   ·cases h
  ·cases h
 | extract x i =>
  simp only [mM] at h
  split at h
  ·rename_i xs aa
   split at h
   ·rename_i y ai; cases h; exact T5 hw aa ai hd k
   ·cases h
  ·cases h
 | build t parts =>
  simp only [mM] at h
  split at h
  ·rename_i zs vs ps aP hv hp;have dN := qq _ Q.zero hv;have hV := qq _ Q.iG hp
   split at h
   ·rename_i r ap;cases h1 : (vs.all fun v => v.oneCell') with
    | true =>
     rw [h1] at h;cases h;have : Bk P t vs := ⟨dN⟩;have : JB P t ps := ⟨hV⟩;have g : bb P ops K (⟨some d, .build t parts.toList.toArray, ty, pos, after, guard⟩ :: rest) s := TW (by rw [Array.toArray_toList]; exact hw) aP ap h1 hd k;rwa [Array.toArray_toList] at g
    | false => rw [h1] at h; cases h
   ·cases h
  ·cases h
 | binOp b df x y dU =>
  simp only [mM] at h
  split at h
  ·rename_i gX m aiS n aa ai
   split at h
   ·rename_i e he;subst e;cases b <;> simp only [QL] at h <;> cases h
    ·exact T2 hw aa ai hd k
    ·exact Ut hw aa ai hd k
    ·exact Ul hw aa ai hd k
    ·exact Ug hw aa ai hd k
    ·exact Uc hw aa ai hd k
    ·exact Ub hw aa ai hd k
   ·cases h
  ·cases h
 | unOp u df x =>
  cases u <;> simp only [mM] at h <;> try (cases h; done)
  split at h
  ·rename_i b aa; cases h; exact Ux hw aa hd k
  ·cases h
 | _ => simp only [mM] at h; cases h
theorem E7 [Q : EP P T] {o : Oper} (h : QN T ops s o = some s') (k : bb P ops K rest s') : bb P ops K (o :: rest) s := by
 obtain ⟨dst, op, ty, pos, after, guard⟩ := o;unfold QN at h
 split at h
 ·rename_i hw;cases dst with
  | some d =>
   simp only at h;cases hd : Nat.blt d s.n with
   | true => rw [hd] at h; exact UA hw hd h k
   | false => rw [hd] at h; cases h
  | none =>
   simp only at h
   split at h
   ·rename_i t x y
    split at h
    ·rename_i j off z aa ai
     split at h
     ·rename_i cs b n hm cK;have yQ := qq _ Q.ty cK;cases ax : Nat.beq n z.cells.length with
      | true =>
       rw [ax] at h;simp only [cond_true] at h
       split at h
       ·rename_i ds hp;cases h;have : eY P t b n := ⟨yQ⟩;exact UG hw aa ai hm ax hp k
       ·cases h
      | false => rw [ax] at h; cases h
     ·cases h
    ·cases h
   ·cases h
 ·rename_i hw;cases dst with
  | some d =>
   simp only at h;cases hd : Nat.blt d s.n with
   | true => rw [hd] at h; cases h; exact Kd hw (fun d' e => by cases e; exact hd) k
   | false => rw [hd] at h; cases h
  | none => cases h; exact Kd hw (fun d' e => by cases e) k
 ·cases h
end
end Go.Proofs.YtbcecodakfejaaaGreat
namespace Go.Proofs.YtbcecodakfejaaaGreat
instance : eY ag 3 false 1 := ⟨by kernel_rfl⟩
instance : EF ag 3 .i64 := ⟨by kernel_rfl⟩
instance : eY ag 4 false 1 := ⟨by kernel_rfl⟩
instance : gS ag 22 5 := ⟨by kernel_rfl⟩
instance : eY ag 27 false 1 := ⟨by kernel_rfl⟩
instance : mv ag 27 [.int .i64 0, .int .i64 0] := ⟨by kernel_rfl⟩
instance : gS ag 27 2 := ⟨by kernel_rfl⟩
instance : mv ag 28 [.slice none 0 0, .slice none 0 0] := ⟨by kernel_rfl⟩
instance : gS ag 28 2 := ⟨by kernel_rfl⟩
instance : eY ag 30 true 10 := ⟨by kernel_rfl⟩
instance : mV ag 30 2 2 := ⟨by kernel_rfl⟩
instance : eY ag 32 false 1 := ⟨by kernel_rfl⟩
instance : mv ag 32 [.int .i64 0] := ⟨by kernel_rfl⟩
instance : gS ag 32 1 := ⟨by kernel_rfl⟩
instance : eY ag 34 true 2 := ⟨by kernel_rfl⟩
instance : mV ag 34 0 0 := ⟨by kernel_rfl⟩
instance : mV ag 34 1 1 := ⟨by kernel_rfl⟩
instance : eY ag 36 true 2 := ⟨by kernel_rfl⟩
instance : eY ag 38 true 2 := ⟨by kernel_rfl⟩
instance : mV ag 38 0 0 := ⟨by kernel_rfl⟩
instance : mV ag 38 1 1 := ⟨by kernel_rfl⟩
instance : eY ag 40 true 2 := ⟨by kernel_rfl⟩
instance : mv ag 43 [.int .i64 0, .int .i64 0] := ⟨by kernel_rfl⟩
instance : gS ag 43 2 := ⟨by kernel_rfl⟩
instance : eY ag 48 true 2 := ⟨by kernel_rfl⟩
instance : eY ag 53 true 5 := ⟨by kernel_rfl⟩
instance : mV ag 53 0 0 := ⟨by kernel_rfl⟩
instance : mV ag 53 1 2 := ⟨by kernel_rfl⟩
instance : mv ag 57 [.int .i64 0, .int .i64 0, .int .i64 0, .int .i64 0] := ⟨by kernel_rfl⟩
instance : gS ag 57 4 := ⟨by kernel_rfl⟩
instance : mv ag 59 [.slice none 0 0, .slice none 0 0] := ⟨by kernel_rfl⟩
instance : gS ag 59 2 := ⟨by kernel_rfl⟩
instance : eY ag 61 true 11 := ⟨by kernel_rfl⟩
instance : eY ag 63 true 4 := ⟨by kernel_rfl⟩
instance : eY ag 68 true 5 := ⟨by kernel_rfl⟩
instance : mv ag 69 [.int .i64 0, .int .i64 0, .int .i64 0, .int .i64 0, .int .i64 0] := ⟨by kernel_rfl⟩
instance : gS ag 69 5 := ⟨by kernel_rfl⟩
instance : mv ag 76 [.int .i64 0, .int .i64 0, .int .i64 0, .int .i64 0] := ⟨by kernel_rfl⟩
instance : gS ag 76 4 := ⟨by kernel_rfl⟩
instance : mV ag 78 1 1 := ⟨by kernel_rfl⟩
instance : eY ag 85 true 2 := ⟨by kernel_rfl⟩
instance : eY ag 87 true 4 := ⟨by kernel_rfl⟩
instance : eY ag 95 true 13 := ⟨by kernel_rfl⟩
instance : eY ag 104 true 6 := ⟨by kernel_rfl⟩
instance : mv ag 129 [.int .i64 0, .int .i64 0] := ⟨by kernel_rfl⟩
instance : gS ag 129 2 := ⟨by kernel_rfl⟩
instance : mv ag 134 [.int .i64 0, .int .i64 0, .int .i64 0] := ⟨by kernel_rfl⟩
instance : gS ag 134 3 := ⟨by kernel_rfl⟩
instance : eY ag 146 true 2 := ⟨by kernel_rfl⟩
instance : eY ag 148 true 4 := ⟨by kernel_rfl⟩
instance : eY ag 150 true 13 := ⟨by kernel_rfl⟩
instance : eY ag 155 true 4 := ⟨by kernel_rfl⟩
instance : eY ag 181 true 4 := ⟨by kernel_rfl⟩
instance : mv ag 193 [.slice none 0 0] := ⟨by kernel_rfl⟩
instance : gS ag 193 1 := ⟨by kernel_rfl⟩
instance : mv ag 194 [.slice none 0 0] := ⟨by kernel_rfl⟩
instance : gS ag 194 1 := ⟨by kernel_rfl⟩
instance : eY ag 209 false 1 := ⟨by kernel_rfl⟩
instance : EF ag 209 .u64 := ⟨by kernel_rfl⟩
instance : eY ag 214 true 3 := ⟨by kernel_rfl⟩
instance : mV ag 214 1 2 := ⟨by kernel_rfl⟩
instance : eY ag 225 true 3 := ⟨by kernel_rfl⟩
instance : eY ag 227 true 10 := ⟨by kernel_rfl⟩
instance : eY ag 246 true 4 := ⟨by kernel_rfl⟩
instance : eY ag 250 true 2 := ⟨by kernel_rfl⟩
instance : Enters ag 7 := ⟨by kernel_rfl⟩
instance : Enters ag 8 := ⟨by kernel_rfl⟩
instance : Enters ag 9 := ⟨by kernel_rfl⟩
instance : Enters ag 10 := ⟨by kernel_rfl⟩
instance : Enters ag 11 := ⟨by kernel_rfl⟩
instance : Enters ag 13 := ⟨by kernel_rfl⟩
instance : Enters ag 14 := ⟨by kernel_rfl⟩
instance : Enters ag 15 := ⟨by kernel_rfl⟩
instance : Enters ag 16 := ⟨by kernel_rfl⟩
instance : Enters ag 18 := ⟨by kernel_rfl⟩
instance : Enters ag 22 := ⟨by kernel_rfl⟩
instance : Enters ag 23 := ⟨by kernel_rfl⟩
instance : Enters ag 24 := ⟨by kernel_rfl⟩
instance : Enters ag 25 := ⟨by kernel_rfl⟩
instance : Enters ag 26 := ⟨by kernel_rfl⟩
instance : Enters ag 27 := ⟨by kernel_rfl⟩
instance : Enters ag 28 := ⟨by kernel_rfl⟩
instance : Enters ag 29 := ⟨by kernel_rfl⟩
instance : Enters ag 30 := ⟨by kernel_rfl⟩
instance : Enters ag 31 := ⟨by kernel_rfl⟩
instance : Enters ag 32 := ⟨by kernel_rfl⟩
instance : Enters ag 33 := ⟨by kernel_rfl⟩
instance : Enters ag 34 := ⟨by kernel_rfl⟩
instance : Enters ag 36 := ⟨by kernel_rfl⟩
instance : Enters ag 38 := ⟨by kernel_rfl⟩
instance : Enters ag 39 := ⟨by kernel_rfl⟩
instance : Enters ag 40 := ⟨by kernel_rfl⟩
instance : Enters ag 41 := ⟨by kernel_rfl⟩
instance : Enters ag 44 := ⟨by kernel_rfl⟩
instance : Enters ag 45 := ⟨by kernel_rfl⟩
instance : Enters ag 46 := ⟨by kernel_rfl⟩
instance : Enters ag 47 := ⟨by kernel_rfl⟩
instance : Enters ag 48 := ⟨by kernel_rfl⟩
instance : Enters ag 49 := ⟨by kernel_rfl⟩
instance : Enters ag 50 := ⟨by kernel_rfl⟩
instance : Enters ag 51 := ⟨by kernel_rfl⟩
instance : Enters ag 52 := ⟨by kernel_rfl⟩
instance : Enters ag 53 := ⟨by kernel_rfl⟩
instance : Enters ag 54 := ⟨by kernel_rfl⟩
instance : Enters ag 55 := ⟨by kernel_rfl⟩
instance : Enters ag 56 := ⟨by kernel_rfl⟩
instance : Enters ag 57 := ⟨by kernel_rfl⟩
instance : Enters ag 58 := ⟨by kernel_rfl⟩
instance : Enters ag 59 := ⟨by kernel_rfl⟩
instance : Enters ag 60 := ⟨by kernel_rfl⟩
instance : Enters ag 61 := ⟨by kernel_rfl⟩
instance : Enters ag 62 := ⟨by kernel_rfl⟩
instance : Enters ag 63 := ⟨by kernel_rfl⟩
instance : Enters ag 64 := ⟨by kernel_rfl⟩
instance : Enters ag 66 := ⟨by kernel_rfl⟩
instance : Enters ag 71 := ⟨by kernel_rfl⟩
instance : Enters ag 76 := ⟨by kernel_rfl⟩
instance : Enters ag 77 := ⟨by kernel_rfl⟩
instance : Enters ag 78 := ⟨by kernel_rfl⟩
instance : Enters ag 79 := ⟨by kernel_rfl⟩
instance : Enters ag 80 := ⟨by kernel_rfl⟩
instance : Enters ag 81 := ⟨by kernel_rfl⟩
instance : Enters ag 82 := ⟨by kernel_rfl⟩
instance : Enters ag 83 := ⟨by kernel_rfl⟩
instance : Enters ag 84 := ⟨by kernel_rfl⟩
instance : Enters ag 85 := ⟨by kernel_rfl⟩
instance : Enters ag 86 := ⟨by kernel_rfl⟩
instance : Enters ag 87 := ⟨by kernel_rfl⟩
instance : Enters ag 88 := ⟨by kernel_rfl⟩
instance : Enters ag 89 := ⟨by kernel_rfl⟩
instance : Enters ag 90 := ⟨by kernel_rfl⟩
instance : Enters ag 91 := ⟨by kernel_rfl⟩
instance : Enters ag 92 := ⟨by kernel_rfl⟩
instance : Enters ag 93 := ⟨by kernel_rfl⟩
instance : Enters ag 94 := ⟨by kernel_rfl⟩
instance : Enters ag 95 := ⟨by kernel_rfl⟩
instance : Enters ag 96 := ⟨by kernel_rfl⟩
instance : Enters ag 97 := ⟨by kernel_rfl⟩
instance : Enters ag 98 := ⟨by kernel_rfl⟩
instance : Enters ag 99 := ⟨by kernel_rfl⟩
instance : Enters ag 100 := ⟨by kernel_rfl⟩
instance : Enters ag 101 := ⟨by kernel_rfl⟩
instance : Enters ag 102 := ⟨by kernel_rfl⟩
instance : Enters ag 103 := ⟨by kernel_rfl⟩
instance : Enters ag 104 := ⟨by kernel_rfl⟩
instance : Enters ag 105 := ⟨by kernel_rfl⟩
instance : Enters ag 106 := ⟨by kernel_rfl⟩
instance : Enters ag 107 := ⟨by kernel_rfl⟩
instance : Enters ag 109 := ⟨by kernel_rfl⟩
instance : Enters ag 117 := ⟨by kernel_rfl⟩
instance : Enters ag 118 := ⟨by kernel_rfl⟩
instance : Enters ag 119 := ⟨by kernel_rfl⟩
instance : Enters ag 120 := ⟨by kernel_rfl⟩
instance : Enters ag 121 := ⟨by kernel_rfl⟩
instance : Enters ag 122 := ⟨by kernel_rfl⟩
instance : Enters ag 123 := ⟨by kernel_rfl⟩
instance : Enters ag 124 := ⟨by kernel_rfl⟩
instance : Enters ag 125 := ⟨by kernel_rfl⟩
instance : Enters ag 126 := ⟨by kernel_rfl⟩
instance : Enters ag 127 := ⟨by kernel_rfl⟩
instance : Enters ag 128 := ⟨by kernel_rfl⟩
instance : Enters ag 129 := ⟨by kernel_rfl⟩
instance : Enters ag 130 := ⟨by kernel_rfl⟩
instance : Enters ag 131 := ⟨by kernel_rfl⟩
instance : Enters ag 132 := ⟨by kernel_rfl⟩
instance : Enters ag 133 := ⟨by kernel_rfl⟩
instance : Enters ag 134 := ⟨by kernel_rfl⟩
instance : Enters ag 135 := ⟨by kernel_rfl⟩
instance : Enters ag 136 := ⟨by kernel_rfl⟩
instance : Enters ag 137 := ⟨by kernel_rfl⟩
instance : Enters ag 138 := ⟨by kernel_rfl⟩
instance : Enters ag 139 := ⟨by kernel_rfl⟩
instance : Enters ag 140 := ⟨by kernel_rfl⟩
instance : Enters ag 141 := ⟨by kernel_rfl⟩
instance : Enters ag 142 := ⟨by kernel_rfl⟩
instance : Enters ag 143 := ⟨by kernel_rfl⟩
instance : Enters ag 144 := ⟨by kernel_rfl⟩
instance : Enters ag 145 := ⟨by kernel_rfl⟩
instance : Enters ag 146 := ⟨by kernel_rfl⟩
instance : Enters ag 147 := ⟨by kernel_rfl⟩
instance : Enters ag 148 := ⟨by kernel_rfl⟩
instance : Enters ag 149 := ⟨by kernel_rfl⟩
instance : Enters ag 150 := ⟨by kernel_rfl⟩
instance : Enters ag 151 := ⟨by kernel_rfl⟩
instance : Enters ag 152 := ⟨by kernel_rfl⟩
instance : Enters ag 153 := ⟨by kernel_rfl⟩
instance : Enters ag 154 := ⟨by kernel_rfl⟩
instance : Enters ag 155 := ⟨by kernel_rfl⟩
instance : Enters ag 156 := ⟨by kernel_rfl⟩
instance : Enters ag 157 := ⟨by kernel_rfl⟩
instance : Enters ag 158 := ⟨by kernel_rfl⟩
instance : Enters ag 159 := ⟨by kernel_rfl⟩
instance : Enters ag 160 := ⟨by kernel_rfl⟩
instance : Enters ag 163 := ⟨by kernel_rfl⟩
instance : Enters ag 164 := ⟨by kernel_rfl⟩
instance : Enters ag 165 := ⟨by kernel_rfl⟩
instance : Enters ag 166 := ⟨by kernel_rfl⟩
instance : Enters ag 167 := ⟨by kernel_rfl⟩
instance : Enters ag 168 := ⟨by kernel_rfl⟩
instance : Enters ag 169 := ⟨by kernel_rfl⟩
instance : Enters ag 170 := ⟨by kernel_rfl⟩
instance : Enters ag 171 := ⟨by kernel_rfl⟩
instance : Enters ag 172 := ⟨by kernel_rfl⟩
instance : Enters ag 173 := ⟨by kernel_rfl⟩
instance : Enters ag 174 := ⟨by kernel_rfl⟩
instance : Enters ag 175 := ⟨by kernel_rfl⟩
instance : Enters ag 176 := ⟨by kernel_rfl⟩
instance : Enters ag 177 := ⟨by kernel_rfl⟩
instance : Enters ag 179 := ⟨by kernel_rfl⟩
instance : Enters ag 180 := ⟨by kernel_rfl⟩
instance : Enters ag 181 := ⟨by kernel_rfl⟩
instance : Enters ag 182 := ⟨by kernel_rfl⟩
instance : Enters ag 185 := ⟨by kernel_rfl⟩
instance : Enters ag 186 := ⟨by kernel_rfl⟩
instance : Enters ag 187 := ⟨by kernel_rfl⟩
instance : Enters ag 188 := ⟨by kernel_rfl⟩
instance : Enters ag 189 := ⟨by kernel_rfl⟩
instance : Enters ag 190 := ⟨by kernel_rfl⟩
instance : Enters ag 191 := ⟨by kernel_rfl⟩
instance : Enters ag 192 := ⟨by kernel_rfl⟩
instance : Enters ag 194 := ⟨by kernel_rfl⟩
instance : Enters ag 195 := ⟨by kernel_rfl⟩
instance : Enters ag 196 := ⟨by kernel_rfl⟩
instance : Enters ag 197 := ⟨by kernel_rfl⟩
instance : Enters ag 198 := ⟨by kernel_rfl⟩
instance : Enters ag 199 := ⟨by kernel_rfl⟩
instance : Enters ag 200 := ⟨by kernel_rfl⟩
instance : Enters ag 201 := ⟨by kernel_rfl⟩
instance : Enters ag 203 := ⟨by kernel_rfl⟩
instance : Enters ag 204 := ⟨by kernel_rfl⟩
instance : Enters ag 205 := ⟨by kernel_rfl⟩
instance : Enters ag 206 := ⟨by kernel_rfl⟩
instance : Enters ag 208 := ⟨by kernel_rfl⟩
instance : Enters ag 209 := ⟨by kernel_rfl⟩
instance : Enters ag 212 := ⟨by kernel_rfl⟩
instance : Enters ag 213 := ⟨by kernel_rfl⟩
instance : Enters ag 215 := ⟨by kernel_rfl⟩
instance : Enters ag 216 := ⟨by kernel_rfl⟩
instance : Enters ag 217 := ⟨by kernel_rfl⟩
instance : Enters ag 218 := ⟨by kernel_rfl⟩
instance : Enters ag 219 := ⟨by kernel_rfl⟩
def tab : yi where
 ty := [(0, false, 1), (1, false, 1), (2, false, 1), (3, false, 1), (4, false, 1), (9, false, 1), (20, false, 1), (22, false, 1), (25, false, 1), (27, false, 1), (28, false, 1), (30, true, 10), (32, false, 1), (34, true, 2), (36, true, 2), (38, true, 2), (40, true, 2), (43, false, 1), (48, true, 2), (53, true, 5), (57, false, 1), (59, false, 1), (61, true, 11), (63, true, 4), (68, true, 5), (69, false, 1), (75, false, 1), (76, false, 1), (78, true, 13), (85, true, 2), (87, true, 4), (95, true, 13), (103, true, 4), (104, true, 6), (108, false, 1), (124, false, 1), (129, false, 1), (133, false, 1), (134, false, 1), (136, true, 1), (138, true, 2), (140, false, 1), (144, false, 1), (146, true, 2), (148, true, 4), (150, true, 13), (153, false, 1), (155, true, 4), (157, false, 1), (160, false, 1), (162, false, 1), (175, false, 1), (176, false, 1), (178, false, 1), (181, true, 4), (193, false, 1), (194, false, 1), (196, false, 1), (201, false, 1), (204, false, 1), (209, false, 1), (210, false, 1), (212, false, 1), (214, true, 3), (223, true, 6), (225, true, 3), (227, true, 10), (229, false, 1), (230, true, 4), (231, false, 1), (232, false, 1), (234, false, 1), (238, false, 1), (246, true, 4), (250, true, 2), (251, false, 1), (258, false, 1), (264, false, 1)]
 zero := [(1, [.nilFunc]), (2, [.int .i64 0]), (3, [.int .i64 0]), (4, [.bool false]), (9, [.string ByteArray.empty]), (20, [.nilIface]), (22, [.slice none 0 0]), (25, [.pointer none]), (27, [.slice none 0 0]), (28, [.slice none 0 0]), (30, [.int .i64 0, .int .i64 0, .int .i64 0, .int .i64 0, .int .i64 0, .int .i64 0, .bool false, .slice none 0 0, .slice none 0 0, .slice none 0 0]), (32, [.slice none 0 0]), (34, [.slice none 0 0, .slice none 0 0]), (36, [.int .i64 0, .int .i64 0]), (38, [.int .i64 0, .int .i64 0]), (40, [.int .i64 0, .int .i64 0]), (43, [.slice none 0 0]), (48, [.slice none 0 0, .slice none 0 0]), (53, [.int .i64 0, .int .i64 0, .int .i64 0, .int .i64 0, .int .i64 0]), (57, [.slice none 0 0]), (59, [.slice none 0 0]), (61, [.slice none 0 0, .int .i64 0, .int .i64 0, .int .i64 0, .int .i64 0, .int .i64 0, .int .i64 0, .bool false, .slice none 0 0, .slice none 0 0, .slice none 0 0]), (63, [.int .i64 0, .int .i64 0, .int .i64 0, .int .i64 0]), (68, [.int .i64 0, .int .i64 0, .int .i64 0, .int .i64 0, .int .i64 0]), (69, [.slice none 0 0]), (75, [.pointer none]), (76, [.slice none 0 0]), (78, [.slice none 0 0, .int .i64 0, .int .i64 0, .int .i64 0, .int .i64 0, .int .i64 0, .int .i64 0, .bool false, .slice none 0 0, .slice none 0 0, .slice none 0 0, .pointer none, .slice none 0 0]), (85, [.bool false, .slice none 0 0]), (87, [.bool false, .slice none 0 0, .bool false, .slice none 0 0]), (95, [.int .i64 0, .bool false, .slice none 0 0, .bool false, .slice none 0 0, .bool false, .slice none 0 0, .bool false, .slice none 0 0, .int .i64 0, .int .i64 0, .int .i64 0, .int .i64 0]), (103, [.nilFunc, .nilFunc, .nilFunc, .nilFunc]), (104, [.int .i64 0, .int .i64 0, .int .i64 0, .int .i64 0, .int .i64 0, .int .i64 0]), (108, [.nilFunc]), (129, [.slice none 0 0]), (133, [.nilFunc]), (134, [.slice none 0 0]), (136, [.slice none 0 0]), (138, [.slice none 0 0, .int .i64 0]), (144, [.int .u64 0]), (146, [.int .i64 0, .int .u64 0]), (148, [.int .i64 0, .int .u64 0, .int .i64 0, .int .u64 0]), (150, [.int .i64 0, .int .i64 0, .int .u64 0, .int .i64 0, .int .u64 0, .int .i64 0, .int .u64 0, .int .i64 0, .int .u64 0, .int .i64 0, .int .i64 0, .int .i64 0, .int .i64 0]), (153, [.pointer none]), (155, [.int .i64 0, .int .i64 0, .int .i64 0, .int .i64 0]), (160, [.nilFunc]), (175, [.int .i64 0]), (181, [.int .i64 0, .int .i64 0, .int .i64 0, .int .i64 0]), (193, [.slice none 0 0]), (194, [.slice none 0 0]), (209, [.int .u64 0]), (212, [.pointer none]), (214, [.int .i64 0, .int .i64 0, .int .i64 0]), (223, [.int .i64 0, .int .i64 0, .int .i64 0, .int .i64 0, .bool false, .bool false]), (225, [.int .i64 0, .int .i64 0, .bool false]), (227, [.int .i64 0, .int .i64 0, .int .i64 0, .int .i64 0, .int .i64 0, .int .i64 0, .bool false, .int .i64 0, .int .i64 0, .bool false]), (229, [.nilFunc]), (230, [.nilFunc, .nilFunc, .nilFunc, .nilFunc]), (231, [.int .u32 0]), (238, [.nilFunc]), (246, [.int .i64 0, .int .i64 0, .int .i64 0, .int .i64 0]), (250, [.int .u64 0, .int .u64 0])]
 nT := [(30, [(0, 0), (1, 1), (2, 2), (3, 3), (4, 4), (5, 5), (6, 6), (7, 7), (8, 8), (9, 9)]), (34, [(0, 0), (1, 1)]), (36, [(0, 0), (1, 1)]), (38, [(0, 0), (1, 1)]), (40, [(0, 0), (1, 1)]), (48, [(0, 0), (1, 1)]), (53, [(0, 0), (1, 2), (2, 4)]), (61, [(0, 0), (1, 1), (2, 2), (3, 3), (4, 4), (5, 5), (6, 6), (7, 7), (8, 8), (9, 9), (10, 10)]), (68, [(0, 0), (1, 2), (2, 4)]), (78, [(0, 0), (1, 1), (2, 11), (3, 12)]), (85, [(0, 0), (1, 1)]), (87, [(0, 0), (1, 2)]), (95, [(0, 0), (1, 1), (2, 5), (3, 9), (4, 11)]), (136, [(0, 0)]), (138, [(0, 0), (1, 1)]), (146, [(0, 0), (1, 1)]), (148, [(0, 0), (1, 2)]), (150, [(0, 0), (1, 1), (2, 5), (3, 9), (4, 11)]), (155, [(0, 0), (1, 2)]), (181, [(0, 0), (1, 2)]), (214, [(0, 0), (1, 2)]), (223, [(0, 0), (1, 2), (2, 4), (3, 5)]), (225, [(0, 0), (1, 1), (2, 2)]), (227, [(0, 0), (1, 2), (2, 4), (3, 7)]), (246, [(0, 0), (1, 2)]), (250, [(0, 0), (1, 1)])]
 na := [(63, 2, 2), (103, 4, 1), (104, 6, 1), (230, 4, 1)]
 iG := [(30, [(0, 1), (1, 1), (2, 1), (3, 1), (4, 1), (5, 1), (6, 1), (7, 1), (8, 1), (9, 1)]), (34, [(0, 1), (1, 1)]), (36, [(0, 1), (1, 1)]), (38, [(0, 1), (1, 1)]), (40, [(0, 1), (1, 1)]), (48, [(0, 1), (1, 1)]), (53, [(0, 2), (2, 2), (4, 1)]), (61, [(0, 1), (1, 1), (2, 1), (3, 1), (4, 1), (5, 1), (6, 1), (7, 1), (8, 1), (9, 1), (10, 1)]), (63, [(0, 2), (2, 2)]), (68, [(0, 2), (2, 2), (4, 1)]), (78, [(0, 1), (1, 10), (11, 1), (12, 1)]), (85, [(0, 1), (1, 1)]), (87, [(0, 2), (2, 2)]), (95, [(0, 1), (1, 4), (5, 4), (9, 2), (11, 2)]), (103, [(0, 1), (1, 1), (2, 1), (3, 1)]), (104, [(0, 1), (1, 1), (2, 1), (3, 1), (4, 1), (5, 1)]), (136, [(0, 1)]), (138, [(0, 1), (1, 1)]), (146, [(0, 1), (1, 1)]), (148, [(0, 2), (2, 2)]), (150, [(0, 1), (1, 4), (5, 4), (9, 2), (11, 2)]), (155, [(0, 2), (2, 2)]), (181, [(0, 2), (2, 2)]), (214, [(0, 2), (2, 1)]), (223, [(0, 2), (2, 2), (4, 1), (5, 1)]), (225, [(0, 1), (1, 1), (2, 1)]), (227, [(0, 2), (2, 2), (4, 3), (7, 3)]), (230, [(0, 1), (1, 1), (2, 1), (3, 1)]), (246, [(0, 2), (2, 2)]), (250, [(0, 1), (1, 1)])]
theorem wv {α β : Type} {g h : α → β} : ∀ l : List α, l.map g = l.map h → ll (fun p => g p = h p) l
 | [], _ => trivial
 | a :: l, e => by
  rw [j4, j4, List.cons.injEq] at e;exact ⟨e.1, wv l e.2⟩
theorem Kf {α β γ : Type} {k : α → List γ} {g h : α → γ → β} : ∀ l : List α, (l.map fun p => (k p).map (g p)) = (l.map fun p => (k p).map (h p)) → ll (fun p => ll (fun q => g p q = h p q) (k p)) l
 | [], _ => trivial
 | a :: l, e => by
  rw [j4, j4, List.cons.injEq] at e;exact ⟨wv _ e.1, Kf l e.2⟩
theorem agB : ll (fun p => ky ag p.1 = some p.2) tab.ty := wv _ (by kernel_rfl)
theorem agC : ll (fun p => zeroOf ag p.1 = some p.2) tab.zero := wv _ (by kernel_rfl)
theorem agy : ll (fun p => Br ag p.1 = some p.2) tab.na := wv _ (by kernel_rfl)
theorem agA : ll (fun p => DJ ag p.1 = some p.2) tab.iG := wv _ (by kernel_rfl)
theorem agz : ll (fun p => ll (fun q => tj ag p.1 q.1 = some q.2) p.2) tab.nT := Kf _ (by kernel_rfl)
instance : EP ag tab := ⟨agB, agC, agz, agy, agA⟩
end Go.Proofs.YtbcecodakfejaaaGreat
namespace Go.Proofs.YtbcecodakfejaaaGreat
open Go.RowKit
section
variable {P : Program} {s : aA} {ops : Array Oper} {K : aA → Prop} {rest : List Oper} {ty : Nat} {pos : String} {after : Array Edge} {guard : Option (Nat × Bool)} {d : Nat}
theorem Us {df : Nat} {x : Operand} {k : IntKind} {a c : Int} (hw : want ops ⟨some d, .unOp .neg df x, ty, pos, after, guard⟩ s = some true) (aa : s.look x = some (aR (.int k a))) (aj : k.wrap (-a) = c) (hd : Nat.blt d s.n = true) (h : bb P ops K rest (s.put (some d) (aR (.int k c)))) : bb P ops K (⟨some d, .unOp .neg df x, ty, pos, after, guard⟩ :: rest) s := by
 refine Ke hw aa (fun W => ?_) rfl hd h;rw [← aj, show -a = 0 - a by omega];cases k <;> rfl
end
abbrev jf (l1 l2 h1 h2 : Int) : ah := .w (.agg [.c (.int .i64 l1), .c (.int .i64 l2), .c (.int .i64 h1), .c (.int .i64 h2)])
def b8 (a b c d : Int) : Bool := decide (a = c) && decide (b = d)
theorem mz {a b c d : Int} : b8 a b c d = true ↔ a = c ∧ b = d := by unfold b8; rw [dc, cq, cq]
def pz (a b c d a' bT c' d' : Int) : Bool := b8 a b a' bT && b8 c d c' d'
class A0 (P : Program) (t : TypeId) : Prop where
 g : P.eqGuardType P.depth t = false
 h : ∀ (a b c d : Int) W, (Op.equalIn 10000 t (.agg #[.int .i64 a, .int .i64 b]) (.agg #[.int .i64 c, .int .i64 d])).run P W = .ok (b8 a b c d) W
class Jn (P : Program) (t : TypeId) : Prop where
 g : P.eqGuardType P.depth t = false
 h : ∀ (a b c d a' bT c' d' : Int) W, (Op.equalIn 10000 t (.agg #[.int .i64 a, .int .i64 b, .int .i64 c, .int .i64 d]) (.agg #[.int .i64 a', .int .i64 bT, .int .i64 c', .int .i64 d'])).run P W = .ok (pz a b c d a' bT c' d') W
theorem BU {P : Program} {op : BinOp} {t : TypeId} {x y : Operand} {u v : Array Value} {W : World} (aq : P.eqGuardType P.depth t = false) : (eqGuard op t x y (.agg u) (.agg v)).run P W = .ok () W := by
 unfold eqGuard;cases op <;> first | rfl | simp [Sem.run_bind, program, Sem.run, Result.andThen, aq]
section
variable {P : Program} {s : aA} {ops : Array Oper} {K : aA → Prop} {rest : List Oper} {ty : Nat} {pos : String} {after : Array Edge} {guard : Option (Nat × Bool)} {d : Nat}
theorem T0 {t dU : Nat} {x y : Operand} {a b a' bT : Int} [E : A0 P t] (hw : want ops ⟨some d, .binOp .eql t x y dU, ty, pos, after, guard⟩ s = some true) (aa : s.look x = some (aK a b)) (ai : s.look y = some (aK a' bT)) (hd : Nat.blt d s.n = true) (h : bb P ops K rest (s.put (some d) (bk (b8 a b a' bT)))) : bb P ops K (⟨some d, .binOp .eql t x y dU, ty, pos, after, guard⟩ :: rest) s :=
 uL hw aa ai rfl rfl (fun W => BU E.g) (fun W => by rw [run_eql_struct, E.h]; rfl) rfl hd h
theorem Uu {t dU : Nat} {x y : Operand} {a b a' bT : Int} [E : A0 P t] (hw : want ops ⟨some d, .binOp .neq t x y dU, ty, pos, after, guard⟩ s = some true) (aa : s.look x = some (aK a b)) (ai : s.look y = some (aK a' bT)) (hd : Nat.blt d s.n = true) (h : bb P ops K rest (s.put (some d) (bk (!b8 a b a' bT)))) : bb P ops K (⟨some d, .binOp .neq t x y dU, ty, pos, after, guard⟩ :: rest) s :=
 uL hw aa ai rfl rfl (fun W => BU E.g) (fun W => by rw [run_neq_struct, E.h]; rfl) rfl hd h
theorem TZ {t dU : Nat} {x y : Operand} {a b c e a' bT c' bq : Int} [E : Jn P t] (hw : want ops ⟨some d, .binOp .eql t x y dU, ty, pos, after, guard⟩ s = some true) (aa : s.look x = some (jf a b c e)) (ai : s.look y = some (jf a' bT c' bq)) (hd : Nat.blt d s.n = true) (h : bb P ops K rest (s.put (some d) (bk (pz a b c e a' bT c' bq)))) : bb P ops K (⟨some d, .binOp .eql t x y dU, ty, pos, after, guard⟩ :: rest) s :=
 uL hw aa ai rfl rfl (fun W => BU E.g) (fun W => by rw [run_eql_struct, E.h]; rfl) rfl hd h
end
theorem Wq (a b c d : Int) (W : World) : (Op.equalIn 10000 36 (.agg #[.int .i64 a, .int .i64 b]) (.agg #[.int .i64 c, .int .i64 d])).run ag W = .ok (b8 a b c d) W := by
 unfold b8
 go_simp
 by_cases h1 : a = c <;> by_cases h2 : b = d <;> simp [h1, h2]
instance aiD : A0 ag 36 := ⟨by kernel_rfl, Wq⟩
theorem Wp (a b c d : Int) (W : World) : (Op.equalIn 10000 38 (.agg #[.int .i64 a, .int .i64 b]) (.agg #[.int .i64 c, .int .i64 d])).run ag W = .ok (b8 a b c d) W := by
 unfold b8
 go_simp
 by_cases h1 : a = c <;> by_cases h2 : b = d <;> simp [h1, h2]
instance aiE : A0 ag 38 := ⟨by kernel_rfl, Wp⟩
def rR (n : Int) : Bool := decide (-536870912 ≤ n) && decide (n ≤ 536870912)
theorem LQ {n : Int} : rR n = true ↔ -536870912 ≤ n ∧ n ≤ 536870912 := by unfold rR; rw [dc, cq, cq]
def cf (x y : Int) : Bool := rR x && rR y
theorem DQ {x y : Int} : cf x y = true ↔ (-536870912 ≤ x ∧ x ≤ 536870912) ∧ -536870912 ≤ y ∧ y ≤ 536870912 := by unfold cf; rw [dc, LQ, LQ]
theorem PN {n : Int} {b : Bool} (ab : rR n = b) : aC ag 189 [aH n] (bk b) := by
 have cs : (-536870912 ≤ n ∧ n ≤ 536870912 ∧ b = true) ∨ (-536870912 ≤ n ∧ ¬ n ≤ 536870912 ∧ b = false) ∨ (¬ -536870912 ≤ n ∧ b = false) := by
  rw [← ab]; unfold rR
  by_cases h1 : -536870912 ≤ n <;> by_cases h2 : n ≤ 536870912 <;> simp [h1, h2]
 clear ab;rcases cs with ⟨h1, h2, rfl⟩ | ⟨h1, h2, rfl⟩ | ⟨h1, rfl⟩
 all_goals
  refine bm (f := 189) Tryz.func189 rfl rfl rfl rfl ?_;(repeat first | refine ez ?_ | (with_reducible apply cW (c := true)); rfl; rfl; (exact cw (by omega)) | (with_reducible apply cW (c := false)); rfl; rfl; (exact c3 (by omega)))
  ((refine bc rfl (bf rfl aN) ?_))
  first | exact ah.aQ.refl _ | exact ah.aQ.of_eq (by rw [cw h2]; rfl) | exact ah.aQ.of_eq (by rw [c3 h2]; rfl)
theorem sw {x y : Int} {b : Bool} (ab : cf x y = b) : aC ag 164 [aK x y] (bk b) := by
 have aT := PN (n := x) rfl;have bH := PN (n := y) rfl;unfold cf at ab;cases q1 : rR x <;> cases q2 : rR y <;> rw [q1] at aT <;> rw [q2] at bH <;> rw [q1, q2] at ab <;> subst ab <;> clear q1 q2
 all_goals
  refine bm (f := 164) Tryz.func164 rfl rfl rfl rfl ?_;(refine bY ?_)
  ((refine bc rfl (bf rfl aN) ?_))
  exact ah.aQ.refl _
def bW (o1 o2 a1 a2 b1 b2 : Int) : Int := (a1 - o1) * (b2 - o2) - (a2 - o2) * (b1 - o1)
theorem Db {x y A B : Int} (h1 : -A ≤ x) (h2 : x ≤ A) (an : -B ≤ y) (aE : y ≤ B) : -(A * B) ≤ x * y ∧ x * y ≤ A * B := by
 have aa : x.natAbs ≤ A.natAbs := by omega
 have ai : y.natAbs ≤ B.natAbs := by omega
 have h := Nat.mul_le_mul aa ai;rw [← Int.natAbs_mul, ← Int.natAbs_mul] at h;have de : 0 ≤ A * B := gM (by omega) (by omega);omega
theorem OJ {x y : Int} (h1 : -1073741824 ≤ x) (h2 : x ≤ 1073741824) (an : -1073741824 ≤ y) (aE : y ≤ 1073741824) : -1152921504606846976 ≤ x * y ∧ x * y ≤ 1152921504606846976 := by
 have := Db h1 h2 an aE;omega
theorem PF {o1 o2 a1 a2 b1 b2 : Int} (az : cf o1 o2 = true) (aJ : cf a1 a2 = true) (ab : cf b1 b2 = true) : aC ag 146 [aK o1 o2, aK a1 a2, aK b1 b2] (aH (bW o1 o2 a1 a2 b1 b2)) := by
 have ba := sw az;have ec := sw aJ;have gr := sw ab;rw [DQ] at az aJ ab;have m1 := OJ (x := a1 - o1) (y := b2 - o2) (by omega) (by omega) (by omega) (by omega);have m2 := OJ (x := a2 - o2) (y := b1 - o1) (by omega) (by omega) (by omega) (by omega);refine bm (f := 146) Tryz.func146 rfl rfl rfl rfl ?_;(refine bY ?_)
 ((refine bc rfl (bf rfl aN) ?_))
 exact ah.aQ.refl _
theorem acw {o1 o2 a1 a2 b1 b2 : Int} (h : (cf o1 o2 && cf a1 a2 && cf b1 b2) = false) : aC ag 146 [aK o1 o2, aK a1 a2, aK b1 b2] (aH 0) := by
 have ba := sw (x := o1) (y := o2) rfl;have ec := sw (x := a1) (y := a2) rfl;have gr := sw (x := b1) (y := b2) rfl
 have cs : cf o1 o2 = false ∨ (cf o1 o2 = true ∧ cf a1 a2 = false) ∨ (cf o1 o2 = true ∧ cf a1 a2 = true ∧ cf b1 b2 = false) := by
  generalize cf o1 o2 = p at *;generalize cf a1 a2 = q at *;generalize cf b1 b2 = r at *;cases p <;> cases q <;> cases r <;> simp_all
 clear h;rcases cs with h1 | ⟨h1, h2⟩ | ⟨h1, h2, an⟩ <;> simp only [*] at ba ec gr
 all_goals
  refine bm (f := 146) Tryz.func146 rfl rfl rfl rfl ?_;(refine bY ?_)
  ((refine bc rfl (bf rfl aN) ?_))
  exact ah.aQ.refl _
def hU (o1 o2 a1 a2 b1 b2 : Int) : Int := if (cf o1 o2 && cf a1 a2 && cf b1 b2) = true then bW o1 o2 a1 a2 b1 b2 else 0
theorem acv {o1 o2 a1 a2 b1 b2 : Int} : aC ag 146 [aK o1 o2, aK a1 a2, aK b1 b2] (aH (hU o1 o2 a1 a2 b1 b2)) := by
 unfold hU
 by_cases h : (cf o1 o2 && cf a1 a2 && cf b1 b2) = true
 ·rw [if_pos h];simp only [dc] at h;exact PF h.1.1 h.1.2 h.2
 ·rw [if_neg h];exact acw (by simpa using h)
def ra (n : Int) : Int := if n < 0 then -1 else if 0 < n then 1 else 0
theorem ac0 {o1 o2 a1 a2 b1 b2 : Int} : aC ag 192 [aK o1 o2, aK a1 a2, aK b1 b2] (aH (ra (hU o1 o2 a1 a2 b1 b2))) := by
 have aT := acv (o1 := o1) (o2 := o2) (a1 := a1) (a2 := a2) (b1 := b1) (b2 := b2);generalize hU o1 o2 a1 a2 b1 b2 = c at *;have cs : (c < 0 ∧ ra c = -1) ∨ (¬ c < 0 ∧ 0 < c ∧ ra c = 1) ∨ (¬ c < 0 ∧ ¬ 0 < c ∧ ra c = 0) := by unfold ra; repeat' split <;> omega
 rcases cs with ⟨h1, h⟩ | ⟨h1, h2, h⟩ | ⟨h1, h2, h⟩ <;> rw [h] <;> clear h
 all_goals
  refine bm (f := 192) Tryz.func192 rfl rfl rfl rfl ?_;(refine bY ?_)
  ((refine bc rfl (bf rfl aN) ?_))
  exact ah.aQ.refl _
abbrev fU (a b : Int) : Int := if b < a then b else a
abbrev fT (a b : Int) : Int := if b > a then b else a
theorem acr {a1 a2 b1 b2 : Int} : aC ag 191 [aK a1 a2, aK b1 b2] (jf (fU a1 b1) (fU a2 b2) (fT a1 b1) (fT a2 b2)) := by
 refine bm (f := 191) Tryz.func191 rfl rfl rfl rfl ?_;(refine eF ?_)
 ((refine bc rfl (cu rfl rfl rfl aN) ?_))
 exact ah.aQ.refl _
def eJ (l1 l2 h1 h2 p1 p2 : Int) : Bool := decide (l1 ≤ p1) && decide (p1 ≤ h1) && decide (l2 ≤ p2) && decide (p2 ≤ h2)
theorem Xa {l1 l2 h1 h2 p1 p2 : Int} : eJ l1 l2 h1 h2 p1 p2 = true ↔ l1 ≤ p1 ∧ p1 ≤ h1 ∧ l2 ≤ p2 ∧ p2 ≤ h2 := by unfold eJ; simp only [dc, cq, and_assoc]
theorem acD {l1 l2 h1 h2 p1 p2 : Int} {b : Bool} (ab : eJ l1 l2 h1 h2 p1 p2 = b) : aC ag 190 [jf l1 l2 h1 h2, aK p1 p2] (bk b) := by
 have cs : (l1 ≤ p1 ∧ p1 ≤ h1 ∧ l2 ≤ p2 ∧ p2 ≤ h2 ∧ b = true) ∨ (l1 ≤ p1 ∧ p1 ≤ h1 ∧ l2 ≤ p2 ∧ ¬ p2 ≤ h2 ∧ b = false) ∨ (l1 ≤ p1 ∧ p1 ≤ h1 ∧ ¬ l2 ≤ p2 ∧ b = false) ∨ (l1 ≤ p1 ∧ ¬ p1 ≤ h1 ∧ b = false) ∨ (¬ l1 ≤ p1 ∧ b = false) := by
  rw [← ab]; unfold eJ
  by_cases q1 : l1 ≤ p1 <;> by_cases q2 : p1 ≤ h1 <;> by_cases bO : l2 ≤ p2 <;> by_cases dj : p2 ≤ h2 <;> simp [q1, q2, bO, dj]
 clear ab;rcases cs with ⟨q1, q2, bO, dj, rfl⟩ | ⟨q1, q2, bO, dj, rfl⟩ | ⟨q1, q2, bO, rfl⟩ | ⟨q1, q2, rfl⟩ | ⟨q1, rfl⟩
 all_goals
  refine bm (f := 190) Tryz.func190 rfl rfl rfl rfl ?_;(repeat first | refine ez ?_ | (with_reducible apply cW (c := true)); rfl; rfl; (exact cw (by omega)) | (with_reducible apply cW (c := false)); rfl; rfl; (exact c3 (by omega)))
  ((refine bc rfl (bf rfl aN) ?_))
  first | exact ah.aQ.refl _ | exact ah.aQ.of_eq (by rw [cw dj]; rfl) | exact ah.aQ.of_eq (by rw [c3 dj]; rfl)
def l6 (p1 p2 a1 a2 b1 b2 : Int) : Bool := cf p1 p2 && cf a1 a2 && cf b1 b2 && eJ (fU a1 b1) (fU a2 b2) (fT a1 b1) (fT a2 b2) p1 p2 && decide (bW a1 a2 b1 b2 p1 p2 = 0)
theorem afU {n : Int} : ra n = 0 ↔ n = 0 := by unfold ra; repeat' split <;> omega
theorem acQ {p1 p2 a1 a2 b1 b2 : Int} {b : Bool} (ab : l6 p1 p2 a1 a2 b1 b2 = b) : aC ag 165 [aK p1 p2, aK a1 a2, aK b1 b2] (bk b) := by
 have ba := sw (x := p1) (y := p2) rfl;have ec := sw (x := a1) (y := a2) rfl;have gr := sw (x := b1) (y := b2) rfl;have H1 := acr (a1 := a1) (a2 := a2) (b1 := b1) (b2 := b2);have c9 := acD (l1 := fU a1 b1) (l2 := fU a2 b2) (h1 := fT a1 b1) (h2 := fT a2 b2) (p1 := p1) (p2 := p2) rfl;have s0 := ac0 (o1 := a1) (o2 := a2) (a1 := b1) (a2 := b2) (b1 := p1) (b2 := p2);unfold l6 at ab
 have cs : (cf p1 p2 = false ∧ b = false) ∨ (cf p1 p2 = true ∧ cf a1 a2 = false ∧ b = false) ∨ (cf p1 p2 = true ∧ cf a1 a2 = true ∧ cf b1 b2 = false ∧ b = false)
   ∨ (cf p1 p2 = true ∧ cf a1 a2 = true ∧ cf b1 b2 = true ∧ eJ (fU a1 b1) (fU a2 b2) (fT a1 b1) (fT a2 b2) p1 p2 = false ∧ b = false)
   ∨ (cf p1 p2 = true ∧ cf a1 a2 = true ∧ cf b1 b2 = true ∧ eJ (fU a1 b1) (fU a2 b2) (fT a1 b1) (fT a2 b2) p1 p2 = true ∧ b = decide (ra (hU a1 a2 b1 b2 p1 p2) = 0)) := by
  have e : decide (ra (hU a1 a2 b1 b2 p1 p2) = 0) = decide (hU a1 a2 b1 b2 p1 p2 = 0) := by rw [lD, cq, cq, afU]
  rw [e];unfold hU;generalize bW a1 a2 b1 b2 p1 p2 = c at *;generalize cf p1 p2 = ct at *;generalize cf a1 a2 = cz at *;generalize cf b1 b2 = h4 at *;generalize eJ _ _ _ _ p1 p2 = ml at *;cases ct <;> cases cz <;> cases h4 <;> cases ml <;> simp_all
 clear ab;generalize eJ _ _ _ _ p1 p2 = ml at *;generalize fU a1 b1 = i1 at *;generalize fU a2 b2 = i2 at *;generalize fT a1 b1 = i3 at *;generalize fT a2 b2 = i4 at *;generalize ra (hU a1 a2 b1 b2 p1 p2) = t at *;rcases cs with ⟨h1, rfl⟩ | ⟨h1, h2, rfl⟩ | ⟨h1, h2, an, rfl⟩ | ⟨h1, h2, an, rfl, rfl⟩ | ⟨h1, h2, an, rfl, rfl⟩ <;> simp only [*] at ba ec gr
 all_goals
  refine bm (f := 165) Tryz.func165 rfl rfl rfl rfl ?_;(refine bY ?_)
  ((refine bc rfl (bf rfl aN) ?_))
  exact ah.aQ.refl _
end Go.Proofs.YtbcecodakfejaaaGreat
