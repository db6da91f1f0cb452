/-
  My own texts, without what this claim does not need. My own text.
-/
import Derived.Tactics
import Derived.IntWalk
import Derived.Test.YtpochbhajmbfdaaGreatProg
import Derived.ProofKit
import Derived.Laws.StructEq
import Derived.Test.YtpochbhajmbfdaaGreatSEndsK2
set_option maxRecDepth 100000
set_option maxHeartbeats 64000000
set_option linter.unusedVariables false
set_option linter.unusedSimpArgs false
set_option linter.unusedSectionVars false
open Go.Proofs.Tryz renaming prog → ai
namespace Go.Proofs.YtpochbhajmbfdaaGreat
open Go.RowKit
abbrev aQ (v : Value) : aj := .w (.one (.c v))
abbrev aT (n : Int) : aj := aQ (.int .i64 n)
abbrev bE (b : Bool) : aj := aQ (.bool b)
abbrev mA (k off : Nat) : aj := .w (.one (.own k off))
def j5 (P : Program) (ty : TypeId) : Option (Bool × Nat) :=
 match P.underlying ty, P.info? ty with
 | some (.struct _), some i | some (.array _ _), some i => some (true, i.size)
 | some _, some i => some (false, i.size)
 | _, _ => none
class fO (P : Program) (ty : TypeId) (agg : outParam Bool) (n : outParam Nat) : Prop where
 h : j5 P ty = some (agg, n)
def zeroOf (P : Program) (ty : TypeId) : Option (List Value) := ((P.info? ty).bind (·.zero)).map fun z => z.cells.toList
class Bn (P : Program) (ty : TypeId) (vs : outParam (List Value)) : Prop where
 h : zeroOf P ty = some vs
def te (P : Program) (ty : TypeId) (i : Nat) : Option Nat :=
 match P.underlying ty with
 | some (.struct bm) => (bm[i]?).bind fun f => (P.info? f.type).bind fun t => if t.size = 0 then none else some f.offset
 | _ => none
class mC (P : Program) (ty : TypeId) (i : Nat) (off : outParam Nat) : Prop where
 h : te P ty i = some off
def Bw (P : Program) (ty : TypeId) : Option (Nat × Nat) :=
 match P.underlying ty with
 | some (.array n e) => (P.info? e).map fun t => (n, t.size)
 | _ => none
class Ji (P : Program) (ty : TypeId) (n size : outParam Nat) : Prop where
 h : Bw P ty = some (n, size)
def sB (P : Program) (ty : TypeId) : Option Nat :=
 match P.underlying ty with
 | some (.slice e) => (P.info? e).map fun t => t.size
 | _ => none
class h5 (P : Program) (ty : TypeId) (size : outParam Nat) : Prop where
 h : sB P ty = some size
def DS (P : Program) (ty : TypeId) : Option (List (Nat × Nat)) :=
 match P.underlying ty with
 | some (.struct bm) => bm.toList.mapM fun f => (P.info? f.type).map fun t => (f.offset, t.size)
 | some (.array n e) => bif Nat.ble n 32 then (P.info? e).map fun t => (List.range n).map fun i => (i * t.size, t.size) else none
 | _ => none
class JF (P : Program) (ty : TypeId) (ps : outParam (List (Nat × Nat))) : Prop where
 h : DS P ty = some ps
class EU (P : Program) (ty : TypeId) (k : outParam IntKind) : Prop where
 h : P.underlying ty = some (.int k)
class Enters (P : Program) (f : FuncId) : Prop where
 h : enters P f = true
def takeN : List AC → Nat → Nat → Option (List AC)
 | _, 0, 0 => some []
 | [], _, _ => none
 | c :: cs, 0, n + 1 => match takeN cs 0 n with
  | some r => some (c :: r)
  | none => none
 | _ :: cs, off + 1, n => takeN cs off n
def oK : List AC → Nat → List AC → Option (List AC)
 | cs, 0, [] => some cs
 | [], _, _ => none
 | _ :: cs, 0, d :: ds => match oK cs 0 ds with
  | some r => some (d :: r)
  | none => none
 | c :: cs, off + 1, ds => match oK cs off ds with
  | some r => some (c :: r)
  | none => none
theorem Et : ∀ (cs : List AC) (off n : Nat) (r : List AC), takeN cs off n = some r → off + n ≤ cs.length ∧ (cs.drop off).take n = r
 | cs, 0, 0, r, h => by
  cases cs <;> (simp only [takeN, hK] at h; subst h; simp)
 | [], 0, n + 1, r, h => by simp [takeN] at h
 | [], off + 1, n, r, h => by cases n <;> simp [takeN] at h
 | c :: cs, 0, n + 1, r, h => by
  simp only [takeN] at h
  split at h
  ·rename_i a7 aq;cases h;have := Et cs 0 n a7 aq;simp at this ⊢;exact this
  ·cases h
 | c :: cs, off + 1, n, r, h => by
  have aF : takeN cs off n = some r := by cases n <;> simpa [takeN] using h
  have := Et cs off n r aF;exact ⟨by have := this.1; simp; omega, by simpa using this.2⟩
theorem zW : ∀ (cs : List AC) (off : Nat) (ds : List AC) (r : List AC), oK cs off ds = some r → off + ds.length ≤ cs.length ∧ eA cs off ds = r
 | cs, 0, [], r, h => by
  cases cs <;> (simp only [oK, hK] at h; subst h; simp [eA])
 | [], 0, d :: ds, r, h => by simp [oK] at h
 | [], off + 1, ds, r, h => by cases ds <;> simp [oK] at h
 | c :: cs, 0, d :: ds, r, h => by
  simp only [oK] at h
  split at h
  ·rename_i a7 aq;cases h;have := zW cs 0 ds a7 aq;simp [eA] at this ⊢;exact this
  ·cases h
 | c :: cs, off + 1, ds, r, h => by
  simp only [oK] at h
  split at h
  ·rename_i a7 aq;cases h;have := zW cs off ds a7 aq;simp [eA, Nat.add_right_comm] at this ⊢;exact this
  ·cases h
section
variable {P : Program} {s s' : aC} {o : Oper} {ops : Array Oper} {rest : List Oper} {K : aC → Prop}
theorem aB (h : K s) : bi P ops K [] s := h
theorem h6 {hJ : List (Nat × Nat)} (hs : hJ.all (lY s) = true) (h : K s) : bi P ops (fun s => hJ.all (lY s) = true ∧ K s) [] s := ⟨hs, h⟩
theorem qf {e : cm} (hw : want ops o s = some true) (he : eU P s.n s.look s.mem o true e) (hd : ∀ d, o.dst = some d → d < s.n) (h : bi P ops K rest (e.on o.dst s)) : bi P ops K (o :: rest) s := ⟨true, hw, e, he, hd, h⟩
section
variable {d ty : Nat} {op : Op} {pos : String} {after : Array Edge} {guard : Option (Nat × Bool)}
theorem kG {d : Nat} (hd : Nat.blt d s.n = true) : ∀ d', some d = some d' → d' < s.n := fun d' e => by cases e; simpa [Nat.blt_eq] using hd
theorem Kl {dst : Option Nat} (hw : want ops ⟨dst, op, ty, pos, after, guard⟩ s = some false) (hd : ∀ d, dst = some d → Nat.blt d s.n = true) (h : bi P ops K rest (s.put dst (.cZ []))) : bi P ops K (⟨dst, op, ty, pos, after, guard⟩ :: rest) s :=
 ⟨false, hw, _, .skip, fun d e => by have := hd d e; simpa [Nat.blt_eq] using this, h⟩
theorem fP {av : aj} (hw : want ops ⟨some d, op, ty, pos, after, guard⟩ s = some true) (al : vS P s.look ⟨some d, op, ty, pos, after, guard⟩ av) (hd : Nat.blt d s.n = true) (h : bi P ops K rest (s.put (some d) av)) : bi P ops K (⟨some d, op, ty, pos, after, guard⟩ :: rest) s :=
 qf hw (.quiet av al) (kG hd) h
theorem Tq {x : Operand} {av : aj} (hw : want ops ⟨some d, .move x, ty, pos, after, guard⟩ s = some true) (aa : s.look x = some av) (hd : Nat.blt d s.n = true) (h : bi P ops K rest (s.put (some d) av)) : bi P ops K (⟨some d, .move x, ty, pos, after, guard⟩ :: rest) s := by
 refine fP hw ⟨fun _ _ h => (by cases h), fun y ah => ?_, fun U ad W env he => ⟨env x, rfl, he x (by simp [Op.operands]) av aa⟩, fun j ae => ⟨x, by simp [Op.operands], av, aa, ae⟩⟩ hd h;simp [Op.operands] at ah;subst ah;exact ⟨av, aa⟩
theorem S2 {x : Operand} {av : aj} (hw : want ops ⟨some d, .assign x, ty, pos, after, guard⟩ s = some true) (aa : s.look x = some av) (hd : Nat.blt d s.n = true) (h : bi P ops K rest (s.put (some d) av)) : bi P ops K (⟨some d, .assign x, ty, pos, after, guard⟩ :: rest) s := by
 refine fP hw ⟨fun _ _ h => (by cases h), fun y ah => ?_, fun U ad W env he => ⟨env x, rfl, he x (by simp [Op.operands]) av aa⟩, fun j ae => ⟨x, by simp [Op.operands], av, aa, ae⟩⟩ hd h;simp [Op.operands] at ah;subst ah;exact ⟨av, aa⟩
theorem Tc {x : Operand} {i : Nat} {xs : List bI} {y : bI} (hw : want ops ⟨some d, .extract x i, ty, pos, after, guard⟩ s = some true) (aa : s.look x = some (.cZ xs)) (hi : xs[i]? = some y) (hd : Nat.blt d s.n = true) (h : bi P ops K rest (s.put (some d) (.w y))) : bi P ops K (⟨some d, .extract x i, ty, pos, after, guard⟩ :: rest) s := by
 refine fP (av := .w y) hw ⟨fun _ _ h => (by cases h), fun y ah => ?_, fun U ad W env he => ?_, fun j ae => ⟨x, by simp [Op.operands], _, aa, ⟨y, dG hi, ae⟩⟩⟩ hd h
 ·simp [Op.operands] at ah;subst ah;exact ⟨_, aa⟩
 ·obtain ⟨vs, e, ao, hv⟩ := he x (by simp [Op.operands]) _ aa;have bj : i < vs.length := by rw [← ao]; exact (bX.1 hi).1
  refine ⟨vs[i], ?_, hv i y _ hi (cp bj)⟩;simp only [execOp, Instr.extract, e];simp [bj]
theorem Tf {x : Operand} {pW i k off hR : Nat} [F : mC P pW i hR] (hw : want ops ⟨some d, .fieldAddr pW x i, ty, pos, after, guard⟩ s = some true) (aa : s.look x = some (mA k off)) (hd : Nat.blt d s.n = true) (h : bi P ops K rest (s.put (some d) (mA k (off + hR)))) : bi P ops K (⟨some d, .fieldAddr pW x i, ty, pos, after, guard⟩ :: rest) s := by
 refine fP hw ⟨fun _ _ h => (by cases h), fun y ah => ?_, fun U ad W env he => ?_, fun j ae => ⟨x, by simp [Op.operands], _, aa, ?_⟩⟩ hd h
 ·simp [Op.operands] at ah;subst ah;exact ⟨_, aa⟩
 ·have hp : env x = .pointer (some ⟨ad k, off, none⟩) := he x (by simp [Op.operands]) _ aa;have hF := F.h;unfold te at hF
  split at hF
  ·rename_i bm hu;cases ar : bm[i]? with
   | none => rw [ar] at hF; cases hF
   | some f =>
    rw [ar] at hF;simp only [j2] at hF;cases hi : P.info? f.type with
    | none => rw [hi] at hF; cases hF
    | some t =>
     rw [hi] at hF;simp only [j2] at hF
     split at hF
     ·cases hF
     ·rename_i cq;cases hF;refine ⟨.pointer (some ⟨ad k, off + f.offset, none⟩), ?_, rfl⟩;have ki : (⟨ad k, off, none⟩ : Addr).add f.offset = ⟨ad k, off + f.offset, none⟩ := by unfold Addr.add; split <;> simp_all
      simp only [execOp, Instr.fieldAt, hp, Instr.sureAddr, Sem.run_bind, Sem.run_pure, Result.andThen_ok, run_underlying hu, ar, fieldPlace, hq hi, if_neg cq, ki]
  ·cases hF
 ·obtain ⟨y, ah, lP⟩ := ae;exact ⟨.own k off, by simp [bI.cells], by simp [bI.cells] at ah; subst ah; exact lP⟩
theorem Ti {x y : Operand} {Fo k off n size : Nat} {gG : IntKind} {i : Int} [A : Ji P Fo n size] (hw : want ops ⟨some d, .indexAddr Fo x y, ty, pos, after, guard⟩ s = some true) (aa : s.look x = some (mA k off)) (ah : s.look y = some (aQ (.int gG i))) (aH : 0 ≤ i) (h1 : i < n) (hd : Nat.blt d s.n = true) (h : bi P ops K rest (s.put (some d) (mA k (off + i.toNat * size)))) : bi P ops K (⟨some d, .indexAddr Fo x y, ty, pos, after, guard⟩ :: rest) s := by
 refine fP hw ⟨fun _ _ h => (by cases h), fun z aZ => ?_, fun U ad W env he => ?_, fun j ae => ⟨x, by simp [Op.operands], _, aa, ?_⟩⟩ hd h
 ·simp [Op.operands] at aZ;rcases aZ with rfl | rfl
  ·exact ⟨_, aa⟩
  ·exact ⟨_, ah⟩
 ·have hp : env x = .pointer (some ⟨ad k, off, none⟩) := he x (by simp [Op.operands]) _ aa;have hi : env y = .int gG i := (he y (by simp [Op.operands]) _ ah).1;have dU := A.h;unfold Bw at dU
  split at dU
  ·rename_i n' e hu;cases dd : P.info? e with
   | none => rw [dd] at dU; cases dU
   | some t =>
    rw [dd] at dU;cases dU;refine ⟨.pointer (some ⟨ad k, off + i.toNat * t.size, none⟩), ?_, rfl⟩;have ki : (⟨ad k, off, none⟩ : Addr).add (i.toNat * t.size) = ⟨ad k, off + i.toNat * t.size, none⟩ := by unfold Addr.add; split <;> simp_all
    simp only [execOp, Instr.indexAt, hp, hi, asIntOf, Instr.sureAddr, Sem.run_bind, Sem.run_pure, Result.andThen_ok, run_underlying hu, hq dd, if_pos (And.intro aH h1), ki]
  ·cases dU
 ·obtain ⟨y, ah, lP⟩ := ae;exact ⟨.own k off, by simp [bI.cells], by simp [bI.cells] at ah; subst ah; exact lP⟩
theorem afo {ty n : Nat} (h : j5 P ty = some (false, n)) {cs : List AC} {off : Nat} {y : AC} (ak : cs[off]? = some y) : pick P ty cs off = some (.one y) := by
 unfold j5 at h;unfold pick;cases hu : P.underlying ty with
 | none => rw [hu] at h; cases h
 | some D =>
  cases hi : P.info? ty with
  | none => rw [hu, hi] at h; cases D <;> cases h
  | some i =>
   rw [hu, hi] at h;cases D <;> first | (simp only [ak, gL]; done) | (exfalso; cases h)
theorem QU {ty n : Nat} (h : j5 P ty = some (true, n)) {cs aU : List AC} {off : Nat} (ak : takeN cs off n = some aU) : pick P ty cs off = some (.agg aU) := by
 obtain ⟨h1, h2⟩ := Et _ _ _ _ ak;unfold j5 at h;unfold pick
 split at h
 ·rename_i i hu hi; cases h; simp only [hu, hi, j2, if_pos h1, h2]
 ·rename_i i hu hi; cases h; simp only [hu, hi, j2, if_pos h1, h2]
 ·cases h
 ·cases h
theorem afn {ty n : Nat} {b : Bool} (h : j5 P ty = some (b, n)) : ∃ i, P.info? ty = some i ∧ i.size = n := by
 unfold j5 at h
 split at h
 ·rename_i i hu hi; cases h; exact ⟨i, hi, rfl⟩
 ·rename_i i hu hi; cases h; exact ⟨i, hi, rfl⟩
 ·rename_i i _ _ hu hi; cases h; exact ⟨_, hi, rfl⟩
 ·cases h
theorem Tm {x : Operand} {lt k off n : Nat} {cs : List AC} {y : AC} [T : fO P lt false n] (hw : want ops ⟨some d, .load lt x, ty, pos, after, guard⟩ s = some true) (aa : s.look x = some (mA k off)) (hm : s.mem k = some cs) (ak : cs[off]? = some y) (hd : Nat.blt d s.n = true) (h : bi P ops K rest (s.put (some d) (.w (.one y)))) : bi P ops K (⟨some d, .load lt x, ty, pos, after, guard⟩ :: rest) s :=
 qf hw (.load lt x k off cs _ rfl aa hm (afo T.h ak)) (kG hd) h
theorem Tn {x : Operand} {lt k off n : Nat} {cs aU : List AC} [T : fO P lt true n] (hw : want ops ⟨some d, .load lt x, ty, pos, after, guard⟩ s = some true) (aa : s.look x = some (mA k off)) (hm : s.mem k = some cs) (ak : takeN cs off n = some aU) (hd : Nat.blt d s.n = true) (h : bi P ops K rest (s.put (some d) (.w (.agg aU)))) : bi P ops K (⟨some d, .load lt x, ty, pos, after, guard⟩ :: rest) s :=
 qf hw (.load lt x k off cs _ rfl aa hm (QU T.h ak)) (kG hd) h
theorem Tz {x y : Operand} {st k off n : Nat} {b : Bool} {cs ds : List AC} {z : bI} [T : fO P st b n] (hw : want ops ⟨none, .store st x y, ty, pos, after, guard⟩ s = some true) (aa : s.look x = some (mA k off)) (ah : s.look y = some (.w z)) (hm : s.mem k = some cs) (aE : Nat.beq n z.cells.length = true) (hp : oK cs off z.cells = some ds) (h : bi P ops K rest (s.dX k ds)) : bi P ops K (⟨none, .store st x y, ty, pos, after, guard⟩ :: rest) s := by
 obtain ⟨i, hi, hs⟩ := afn T.h;obtain ⟨h1, h2⟩ := zW _ _ _ _ hp;refine qf hw (.store st x y k off cs z i rfl aa ah hm hi (by rw [hs]; exact gZ aE) h1) (fun d e => by cases e) ?_;simp only [cm.on, h2];exact h
theorem S0 {h7 : Nat} {vs : List Value} [Z : Bn P h7 vs] (hw : want ops ⟨some d, .alloc h7, ty, pos, after, guard⟩ s = some true) (hm : s.mem d = none) (h1 : (vs.all fun v => v.oneCell') = true) (hd : Nat.blt d s.n = true) (h : bi P ops K rest ((s.dX d (vs.map .c)).put (some d) (mA d 0))) : bi P ops K (⟨some d, .alloc h7, ty, pos, after, guard⟩ :: rest) s := by
 have aZ := Z.h;unfold zeroOf at aZ;cases hi : P.info? h7 with
 | none => rw [hi] at aZ; cases aZ
 | some i =>
  rw [hi] at aZ;simp only [j2] at aZ;cases hk : i.zero with
  | none => rw [hk] at aZ; cases aZ
  | some z =>
   rw [hk] at aZ;cases aZ;exact qf hw (.new _ d rfl hm (.alloc h7 i z _ rfl hi hk rfl h1)) (kG hd) h
theorem S3 {Fx : Nat} {x : Operand} {z : bI} (hw : want ops ⟨some d, .box Fx x, ty, pos, after, guard⟩ s = some true) (aa : s.look x = some (.w z)) (hm : s.mem d = none) (hd : Nat.blt d s.n = true) (h : bi P ops K rest ((s.dX d z.cells).put (some d) (mA d 0))) : bi P ops K (⟨some d, .box Fx x, ty, pos, after, guard⟩ :: rest) s :=
 qf hw (.new _ d rfl hm (.box Fx x z rfl aa)) (kG hd) h
def wA : List AC → Option (List Value)
 | [] => some []
 | .c v :: xs => match wA xs with
  | some r => some (v :: r)
  | none => none
 | _ :: _ => none
def np : bI → Option Value
 | .one (.c v) => some v
 | .one _ => none
 | .agg xs => match wA xs with
  | some r => some (.agg r.toArray)
  | none => none
theorem LB {U : Nat → Prop} {ad : Nat → Nat} {W : World} : ∀ (xs : List AC) (vs r : List Value), bV U ad W xs vs → wA xs = some r → vs = r
 | [], vs, r, h, he => by cases he; have := h.1; exact mv this.symm
 | .c v :: xs, vs, r, h, he => by
  simp only [wA] at he
  split at he
  ·rename_i a7 aq;cases he;cases vs with
   | nil => have := h.1; cases this
   | cons u us =>
    have aH : u = v := (h.2 0 _ _ rfl rfl).1;have := LB xs us a7 ⟨by have := h.1; simpa using this, fun i x w aa hw => h.2 (i + 1) x w (by simpa using aa) (by simpa using hw)⟩ aq;rw [aH, this]
  ·cases he
 | .own _ _ :: _, _, _, _, he => by cases he
 | .p _ :: _, _, _, _, he => by cases he
theorem B6 {U : Nat → Prop} {ad : Nat → Nat} {W : World} {x : bI} {v u : Value} (h : gC U ad W x v) (he : np x = some u) : v = u := by
 cases x with
 | one y => cases y with
  | c w => cases he; exact h.1
  | own => cases he
  | p => cases he
 | agg xs =>
  simp only [np] at he
  split at he
  ·rename_i r aq;cases he;obtain ⟨vs, rfl, ao⟩ := h;rw [LB xs vs r ao aq]
  ·cases he
theorem iO (v : Value) (j : Nat) : ¬ (aQ v).owns j := fun ⟨y, ah, h⟩ => by simp [bI.cells] at ah; subst ah; cases h
theorem rp {ry : BinOp} {c0 dK : Nat} {x y : Operand} {a b : bI} {iy fm v : Value} (hw : want ops ⟨some d, .binOp ry c0 x y dK, ty, pos, after, guard⟩ s = some true) (aa : s.look x = some (.w a)) (ah : s.look y = some (.w b)) (ia : np a = some iy) (lI : np b = some fm)
  (aw : ∀ W, (eqGuard ry c0 x y iy fm).run P W = .ok () W) (aq : ∀ W, (binOp ry c0 iy fm).run P W = .ok v W) (h1 : v.oneCell' = true) (hd : Nat.blt d s.n = true) (h : bi P ops K rest (s.put (some d) (aQ v))) : bi P ops K (⟨some d, .binOp ry c0 x y dK, ty, pos, after, guard⟩ :: rest) s := by
 refine fP (av := aQ v) hw ⟨fun _ _ h => (by cases h), fun z aZ => ?_, fun U ad W env he => ⟨v, ?_, ⟨rfl, h1⟩⟩, fun j ae => absurd ae (iO v j)⟩ hd h
 ·simp [Op.operands] at aZ;rcases aZ with rfl | rfl
  ·exact ⟨_, aa⟩
  ·exact ⟨_, ah⟩
 ·have aI : env x = iy := B6 (he x (by simp [Op.operands]) _ aa) ia;have aO : env y = fm := B6 (he y (by simp [Op.operands]) _ ah) lI;simp only [execOp, aI, aO, Sem.run_bind, aw, Result.andThen_ok, aq, Sem.run_pure]
theorem qe {ry : BinOp} {c0 dK : Nat} {x y : Operand} {k : IntKind} {a b : Int} {v : Value} (hw : want ops ⟨some d, .binOp ry c0 x y dK, ty, pos, after, guard⟩ s = some true) (aa : s.look x = some (aQ (.int k a))) (ah : s.look y = some (aQ (.int k b)))
  (aq : ∀ W, (binOp ry c0 (.int k a) (.int k b)).run P W = .ok v W) (h1 : v.oneCell' = true) (hd : Nat.blt d s.n = true) (h : bi P ops K rest (s.put (some d) (aQ v))) : bi P ops K (⟨some d, .binOp ry c0 x y dK, ty, pos, after, guard⟩ :: rest) s :=
 rp hw aa ah rfl rfl (fun W => by unfold eqGuard; cases ry <;> rfl) aq h1 hd h
theorem To {c0 dK : Nat} {x y : Operand} {k : IntKind} {a b : Int} (hw : want ops ⟨some d, .binOp .lss c0 x y dK, ty, pos, after, guard⟩ s = some true) (aa : s.look x = some (aQ (.int k a))) (ah : s.look y = some (aQ (.int k b))) (hd : Nat.blt d s.n = true) (h : bi P ops K rest (s.put (some d) (bE (decide (a < b))))) : bi P ops K (⟨some d, .binOp .lss c0 x y dK, ty, pos, after, guard⟩ :: rest) s :=
 qe hw aa ah (fun W => by cases k <;> rfl) rfl hd h
theorem Tl {c0 dK : Nat} {x y : Operand} {k : IntKind} {a b : Int} (hw : want ops ⟨some d, .binOp .leq c0 x y dK, ty, pos, after, guard⟩ s = some true) (aa : s.look x = some (aQ (.int k a))) (ah : s.look y = some (aQ (.int k b))) (hd : Nat.blt d s.n = true) (h : bi P ops K rest (s.put (some d) (bE (decide (a ≤ b))))) : bi P ops K (⟨some d, .binOp .leq c0 x y dK, ty, pos, after, guard⟩ :: rest) s :=
 qe hw aa ah (fun W => by cases k <;> rfl) rfl hd h
theorem Th {c0 dK : Nat} {x y : Operand} {k : IntKind} {a b : Int} (hw : want ops ⟨some d, .binOp .gtr c0 x y dK, ty, pos, after, guard⟩ s = some true) (aa : s.look x = some (aQ (.int k a))) (ah : s.look y = some (aQ (.int k b))) (hd : Nat.blt d s.n = true) (h : bi P ops K rest (s.put (some d) (bE (decide (b < a))))) : bi P ops K (⟨some d, .binOp .gtr c0 x y dK, ty, pos, after, guard⟩ :: rest) s :=
 qe hw aa ah (fun W => by cases k <;> rfl) rfl hd h
theorem Tg {c0 dK : Nat} {x y : Operand} {k : IntKind} {a b : Int} (hw : want ops ⟨some d, .binOp .geq c0 x y dK, ty, pos, after, guard⟩ s = some true) (aa : s.look x = some (aQ (.int k a))) (ah : s.look y = some (aQ (.int k b))) (hd : Nat.blt d s.n = true) (h : bi P ops K rest (s.put (some d) (bE (decide (b ≤ a))))) : bi P ops K (⟨some d, .binOp .geq c0 x y dK, ty, pos, after, guard⟩ :: rest) s :=
 qe hw aa ah (fun W => by cases k <;> rfl) rfl hd h
theorem Tb {c0 dK : Nat} {x y : Operand} {k : IntKind} {a b : Int} (hw : want ops ⟨some d, .binOp .eql c0 x y dK, ty, pos, after, guard⟩ s = some true) (aa : s.look x = some (aQ (.int k a))) (ah : s.look y = some (aQ (.int k b))) (hd : Nat.blt d s.n = true) (h : bi P ops K rest (s.put (some d) (bE (decide (a = b))))) : bi P ops K (⟨some d, .binOp .eql c0 x y dK, ty, pos, after, guard⟩ :: rest) s :=
 qe hw aa ah (fun W => by cases k <;> rfl) rfl hd h
theorem Tr {c0 dK : Nat} {x y : Operand} {k : IntKind} {a b : Int} (hw : want ops ⟨some d, .binOp .neq c0 x y dK, ty, pos, after, guard⟩ s = some true) (aa : s.look x = some (aQ (.int k a))) (ah : s.look y = some (aQ (.int k b))) (hd : Nat.blt d s.n = true) (h : bi P ops K rest (s.put (some d) (bE (!decide (a = b))))) : bi P ops K (⟨some d, .binOp .neq c0 x y dK, ty, pos, after, guard⟩ :: rest) s :=
 qe hw aa ah (fun W => by cases k <;> rfl) rfl hd h
theorem fe {c0 dK : Nat} {x y : Operand} {k : IntKind} {a b c : Int} (hw : want ops ⟨some d, .binOp .add c0 x y dK, ty, pos, after, guard⟩ s = some true) (aa : s.look x = some (aQ (.int k a))) (ah : s.look y = some (aQ (.int k b))) (ak : k.wrap (a + b) = c) (hd : Nat.blt d s.n = true) (h : bi P ops K rest (s.put (some d) (aQ (.int k c)))) : bi P ops K (⟨some d, .binOp .add c0 x y dK, ty, pos, after, guard⟩ :: rest) s :=
 qe hw aa ah (fun W => by rw [← ak]; cases k <;> rfl) rfl hd h
theorem n2 {c0 dK : Nat} {x y : Operand} {k : IntKind} {a b c : Int} (hw : want ops ⟨some d, .binOp .sub c0 x y dK, ty, pos, after, guard⟩ s = some true) (aa : s.look x = some (aQ (.int k a))) (ah : s.look y = some (aQ (.int k b))) (ak : k.wrap (a - b) = c) (hd : Nat.blt d s.n = true) (h : bi P ops K rest (s.put (some d) (aQ (.int k c)))) : bi P ops K (⟨some d, .binOp .sub c0 x y dK, ty, pos, after, guard⟩ :: rest) s :=
 qe hw aa ah (fun W => by rw [← ak]; cases k <;> rfl) rfl hd h
theorem rq {c0 dK : Nat} {x y : Operand} {k : IntKind} {a b c : Int} (hw : want ops ⟨some d, .binOp .mul c0 x y dK, ty, pos, after, guard⟩ s = some true) (aa : s.look x = some (aQ (.int k a))) (ah : s.look y = some (aQ (.int k b))) (ak : k.wrap (a * b) = c) (hd : Nat.blt d s.n = true) (h : bi P ops K rest (s.put (some d) (aQ (.int k c)))) : bi P ops K (⟨some d, .binOp .mul c0 x y dK, ty, pos, after, guard⟩ :: rest) s :=
 qe hw aa ah (fun W => by rw [← ak]; cases k <;> rfl) rfl hd h
theorem cX {n : Int} (h : -9223372036854775808 ≤ n ∧ n < 9223372036854775808) : IntKind.i64.wrap n = n := IntWalk.i64_in n (by omega)
theorem Tt {c0 : Nat} {x : Operand} {b : Bool} (hw : want ops ⟨some d, .unOp .not c0 x, ty, pos, after, guard⟩ s = some true) (aa : s.look x = some (bE b)) (hd : Nat.blt d s.n = true) (h : bi P ops K rest (s.put (some d) (bE (!b)))) : bi P ops K (⟨some d, .unOp .not c0 x, ty, pos, after, guard⟩ :: rest) s := by
 refine fP (av := bE (!b)) hw ⟨fun _ _ h => (by cases h), fun z aZ => ?_, fun U ad W env he => ⟨.bool (!b), ?_, ⟨rfl, rfl⟩⟩, fun j ae => absurd ae (iO _ j)⟩ hd h
 ·simp [Op.operands] at aZ; subst aZ; exact ⟨_, aa⟩
 ·have aI : env x = .bool b := (he x (by simp [Op.operands]) _ aa).1;simp only [execOp, aI, Sem.run_bind, Op.unary];rfl
theorem TA {I8 : UnOp} {c0 : Nat} {x : Operand} {iy v : Value} (hw : want ops ⟨some d, .unOp I8 c0 x, ty, pos, after, guard⟩ s = some true) (aa : s.look x = some (aQ iy)) (aq : ∀ W, (Op.unary I8 iy).run P W = .ok v W) (h1 : v.oneCell' = true) (hd : Nat.blt d s.n = true) (h : bi P ops K rest (s.put (some d) (aQ v))) : bi P ops K (⟨some d, .unOp I8 c0 x, ty, pos, after, guard⟩ :: rest) s := by
 refine fP (av := aQ v) hw ⟨fun _ _ h => (by cases h), fun z aZ => ?_, fun U ad W env he => ⟨v, ?_, ⟨rfl, h1⟩⟩, fun j ae => absurd ae (iO v j)⟩ hd h
 ·simp [Op.operands] at aZ; subst aZ; exact ⟨_, aa⟩
 ·have aI : env x = iy := (he x (by simp [Op.operands]) _ aa).1;simp only [execOp, aI, Sem.run_bind, aq, Result.andThen_ok, Sem.run_pure]
theorem S8 {src dst : Nat} {x : Operand} {iy v : Value} (hw : want ops ⟨some d, .convert src dst x, ty, pos, after, guard⟩ s = some true) (aa : s.look x = some (aQ iy)) (aq : ∀ W, (convert src dst iy).run P W = .ok v W) (h1 : v.oneCell' = true) (hd : Nat.blt d s.n = true) (h : bi P ops K rest (s.put (some d) (aQ v))) : bi P ops K (⟨some d, .convert src dst x, ty, pos, after, guard⟩ :: rest) s := by
 refine fP (av := aQ v) hw ⟨fun _ _ h => (by cases h), fun z aZ => ?_, fun U ad W env he => ⟨v, ?_, ⟨rfl, h1⟩⟩, fun j ae => absurd ae (iO v j)⟩ hd h
 ·simp [Op.operands] at aZ; subst aZ; exact ⟨_, aa⟩
 ·have aI : env x = iy := (he x (by simp [Op.operands]) _ aa).1;simp only [execOp, aI, Sem.run_bind, aq, Result.andThen_ok, Sem.run_pure]
theorem Ff {src dst n : Nat} {b : Bool} {k k' : IntKind} {x : Operand} {a c : Int} [S : fO P src b n] [I : EU P dst k'] (hw : want ops ⟨some d, .convert src dst x, ty, pos, after, guard⟩ s = some true) (aa : s.look x = some (aQ (.int k a))) (ak : k'.wrap a = c) (hd : Nat.blt d s.n = true) (h : bi P ops K rest (s.put (some d) (aQ (.int k' c)))) : bi P ops K (⟨some d, .convert src dst x, ty, pos, after, guard⟩ :: rest) s := by
 refine S8 hw aa (fun W => ?_) rfl hd h
 have hs : ∃ D, P.underlying src = some D := by
  have := S.h;unfold j5 at this;cases hu : P.underlying src with
  | none => rw [hu] at this; cases this
  | some D => exact ⟨D, rfl⟩
 obtain ⟨D, hs⟩ := hs;unfold convert;simp only [Sem.run_bind, run_underlying hs, run_underlying I.h, Result.andThen_ok];rw [← ak];cases D <;> rfl
theorem Tv {c x y : Operand} {av : aj} (hw : want ops ⟨some d, .pick c x y, ty, pos, after, guard⟩ s = some true) (ak : s.look c = some (bE true)) (aa : s.look x = some av) {bv : aj} (ah : s.look y = some bv) (hd : Nat.blt d s.n = true) (h : bi P ops K rest (s.put (some d) av)) : bi P ops K (⟨some d, .pick c x y, ty, pos, after, guard⟩ :: rest) s := by
 refine fP hw ⟨fun _ _ h => (by cases h), fun z aZ => ?_, fun U ad W env he => ⟨env x, ?_, he x (by simp [Op.operands]) av aa⟩, fun j ae => ⟨x, by simp [Op.operands], av, aa, ae⟩⟩ hd h
 ·simp [Op.operands] at aZ;rcases aZ with rfl | rfl | rfl
  ·exact ⟨_, ak⟩
  ·exact ⟨_, aa⟩
  ·exact ⟨_, ah⟩
 ·have aI : env c = .bool true := (he c (by simp [Op.operands]) _ ak).1;simp [execOp, aI, asBool]
theorem Tu {c x y : Operand} {av : aj} (hw : want ops ⟨some d, .pick c x y, ty, pos, after, guard⟩ s = some true) (ak : s.look c = some (bE false)) (aa : s.look y = some av) {bv : aj} (ah : s.look x = some bv) (hd : Nat.blt d s.n = true) (h : bi P ops K rest (s.put (some d) av)) : bi P ops K (⟨some d, .pick c x y, ty, pos, after, guard⟩ :: rest) s := by
 refine fP hw ⟨fun _ _ h => (by cases h), fun z aZ => ?_, fun U ad W env he => ⟨env y, ?_, he y (by simp [Op.operands]) av aa⟩, fun j ae => ⟨y, by simp [Op.operands], av, aa, ae⟩⟩ hd h
 ·simp [Op.operands] at aZ;rcases aZ with rfl | rfl | rfl
  ·exact ⟨_, ak⟩
  ·exact ⟨_, ah⟩
  ·exact ⟨_, aa⟩
 ·have aI : env c = .bool false := (he c (by simp [Op.operands]) _ ak).1;simp [execOp, aI, asBool]
theorem vZ {f : FuncId} {g : Operand} {aS : Array TypeId} {l : List Operand} {args : List aj} {r : aj} [E : Enters P f] (hw : want ops ⟨some d, .call ⟨.value g, l.toArray, aS⟩, ty, pos, after, guard⟩ s = some true) (aw : s.look g = some (aQ (.func (.func f) #[] #[]))) (aK : l.map s.look = args.map some) (hp : aR P f args r) (hd : Nat.blt d s.n = true) (h : bi P ops K rest (s.put (some d) r)) :
  bi P ops K (⟨some d, .call ⟨.value g, l.toArray, aS⟩, ty, pos, after, guard⟩ :: rest) s :=
 qf hw (.call f args r ⟨⟨_, g, rfl, rfl, .inl ⟨[], aw, by simpa using aK, rfl⟩⟩, E.h⟩ hp) (kG hd) h
theorem S6 {f : FuncId} {g : Operand} {aS : Array TypeId} {l : List Operand} {bs : List Value} {args : List aj} {r : aj} [E : Enters P f] (hw : want ops ⟨some d, .call ⟨.value g, l.toArray, aS⟩, ty, pos, after, guard⟩ s = some true) (aw : s.look g = some (aQ (.func (.func f) bs.toArray #[]))) (ab : bs.all BC = true) (aK : l.map s.look = args.map some) (hp : aR P f (bs.map xj ++ args) r) (hd : Nat.blt d s.n = true) (h : bi P ops K rest (s.put (some d) r)) :
  bi P ops K (⟨some d, .call ⟨.value g, l.toArray, aS⟩, ty, pos, after, guard⟩ :: rest) s :=
 qf hw (.call f _ r ⟨⟨_, g, rfl, rfl, .inl ⟨bs, aw, by rw [List.toList_toArray, aK, List.map_append, List.map_map]; rfl, ab⟩⟩, E.h⟩ hp) (kG hd) h
theorem Ki {f : FuncId} {g : Operand} {aS : Array TypeId} {l : List Operand} {cs : List AC} {args : List aj} {r : aj} [E : Enters P f] (hw : want ops ⟨some d, .call ⟨.value g, l.toArray, aS⟩, ty, pos, after, guard⟩ s = some true) (aw : s.look g = some (.w (.one (.p (oX (.func f) cs))))) (aK : l.map s.look = args.map some) (hp : aR P f (args ++ cs.map fun x => .w (.one x)) r) (hd : Nat.blt d s.n = true) (h : bi P ops K rest (s.put (some d) r)) :
  bi P ops K (⟨some d, .call ⟨.value g, l.toArray, aS⟩, ty, pos, after, guard⟩ :: rest) s :=
 qf hw (.call f _ r ⟨⟨_, g, rfl, rfl, .inr ⟨cs, aw, by rw [List.toList_toArray, aK, List.map_append, List.map_map]; rfl⟩⟩, E.h⟩ hp) (kG hd) h
theorem x9 {fn : Fn} {x : Operand} {a : bI} {iy : Value} (hw : want ops ⟨some d, .makeFunc fn #[x] #[], ty, pos, after, guard⟩ s = some true) (aa : s.look x = some (.w a)) (ia : np a = some iy) (hd : Nat.blt d s.n = true) (h : bi P ops K rest (s.put (some d) (aQ (.func fn #[iy] #[])))) : bi P ops K (⟨some d, .makeFunc fn #[x] #[], ty, pos, after, guard⟩ :: rest) s := by
 refine fP (av := aQ (.func fn #[iy] #[])) hw ⟨fun _ _ h => (by cases h), fun z aZ => ?_, fun U ad W env he => ⟨.func fn #[iy] #[], ?_, ⟨rfl, rfl⟩⟩, fun j ae => absurd ae (iO _ j)⟩ hd h
 ·simp [Op.operands] at aZ; subst aZ; exact ⟨_, aa⟩
 ·have aI : env x = iy := B6 (he x (by simp [Op.operands]) _ aa) ia;have em : (#[x] : Array Operand).map env = #[iy] := by simp [aI]
  simp only [execOp, em, Array.map_empty, Instr.makeFunc, Sem.run_bind, Sem.run_pure, Result.andThen_ok]
theorem Bu {f : FuncId} {g : Operand} {aS : Array TypeId} {r : aj} [E : Enters P f] (hw : want ops ⟨some d, .call ⟨.value g, #[], aS⟩, ty, pos, after, guard⟩ s = some true) (aw : s.look g = some (aQ (.func (.func f) #[] #[]))) (hp : aR P f [] r) (hd : Nat.blt d s.n = true) (h : bi P ops K rest (s.put (some d) r)) : bi P ops K (⟨some d, .call ⟨.value g, #[], aS⟩, ty, pos, after, guard⟩ :: rest) s :=
 vZ (l := []) hw aw rfl hp hd h
theorem eO {f : FuncId} {g : Operand} {aS : Array TypeId} {c5 : Operand} {a1 : aj} {r : aj} [E : Enters P f] (hw : want ops ⟨some d, .call ⟨.value g, #[c5], aS⟩, ty, pos, after, guard⟩ s = some true) (aw : s.look g = some (aQ (.func (.func f) #[] #[]))) (h1 : s.look c5 = some a1) (hp : aR P f [a1] r) (hd : Nat.blt d s.n = true) (h : bi P ops K rest (s.put (some d) r)) : bi P ops K (⟨some d, .call ⟨.value g, #[c5], aS⟩, ty, pos, after, guard⟩ :: rest) s :=
 vZ (l := [c5]) hw aw (by simp [h1]) hp hd h
theorem dI {f : FuncId} {g : Operand} {aS : Array TypeId} {c5 dt : Operand} {a1 a2 : aj} {r : aj} [E : Enters P f] (hw : want ops ⟨some d, .call ⟨.value g, #[c5, dt], aS⟩, ty, pos, after, guard⟩ s = some true) (aw : s.look g = some (aQ (.func (.func f) #[] #[]))) (h1 : s.look c5 = some a1) (h2 : s.look dt = some a2) (hp : aR P f [a1, a2] r) (hd : Nat.blt d s.n = true) (h : bi P ops K rest (s.put (some d) r)) : bi P ops K (⟨some d, .call ⟨.value g, #[c5, dt], aS⟩, ty, pos, after, guard⟩ :: rest) s :=
 vZ (l := [c5, dt]) hw aw (by simp [h1, h2]) hp hd h
theorem jS {f : FuncId} {g : Operand} {aS : Array TypeId} {c5 dt kw : Operand} {a1 a2 a3 : aj} {r : aj} [E : Enters P f] (hw : want ops ⟨some d, .call ⟨.value g, #[c5, dt, kw], aS⟩, ty, pos, after, guard⟩ s = some true) (aw : s.look g = some (aQ (.func (.func f) #[] #[]))) (h1 : s.look c5 = some a1) (h2 : s.look dt = some a2) (ap : s.look kw = some a3) (hp : aR P f [a1, a2, a3] r) (hd : Nat.blt d s.n = true) (h : bi P ops K rest (s.put (some d) r)) : bi P ops K (⟨some d, .call ⟨.value g, #[c5, dt, kw], aS⟩, ty, pos, after, guard⟩ :: rest) s :=
 vZ (l := [c5, dt, kw]) hw aw (by simp [h1, h2, ap]) hp hd h
theorem nl {f : FuncId} {g : Operand} {aS : Array TypeId} {c5 dt kw mY : Operand} {a1 a2 a3 a4 : aj} {r : aj} [E : Enters P f] (hw : want ops ⟨some d, .call ⟨.value g, #[c5, dt, kw, mY], aS⟩, ty, pos, after, guard⟩ s = some true) (aw : s.look g = some (aQ (.func (.func f) #[] #[]))) (h1 : s.look c5 = some a1) (h2 : s.look dt = some a2) (ap : s.look kw = some a3) (aL : s.look mY = some a4) (hp : aR P f [a1, a2, a3, a4] r) (hd : Nat.blt d s.n = true) (h : bi P ops K rest (s.put (some d) r)) : bi P ops K (⟨some d, .call ⟨.value g, #[c5, dt, kw, mY], aS⟩, ty, pos, after, guard⟩ :: rest) s :=
 vZ (l := [c5, dt, kw, mY]) hw aw (by simp [h1, h2, ap, aL]) hp hd h
theorem S5 {f : FuncId} {g : Operand} {aS : Array TypeId} {c5 dt kw mY EG : Operand} {a1 a2 a3 a4 a5 : aj} {r : aj} [E : Enters P f] (hw : want ops ⟨some d, .call ⟨.value g, #[c5, dt, kw, mY, EG], aS⟩, ty, pos, after, guard⟩ s = some true) (aw : s.look g = some (aQ (.func (.func f) #[] #[]))) (h1 : s.look c5 = some a1) (h2 : s.look dt = some a2) (ap : s.look kw = some a3) (aL : s.look mY = some a4) (dk : s.look EG = some a5) (hp : aR P f [a1, a2, a3, a4, a5] r) (hd : Nat.blt d s.n = true) (h : bi P ops K rest (s.put (some d) r)) : bi P ops K (⟨some d, .call ⟨.value g, #[c5, dt, kw, mY, EG], aS⟩, ty, pos, after, guard⟩ :: rest) s :=
 vZ (l := [c5, dt, kw, mY, EG]) hw aw (by simp [h1, h2, ap, aL, dk]) hp hd h
def qh (ps : List (Nat × Nat)) : List AC → List (Nat × bI) → Option (List AC)
 | cs, [] => some cs
 | cs, (i, z) :: rest => match ps[i]? with
  | some (off, size) => bif Nat.beq size z.cells.length then match oK cs off z.cells with
    | some r => qh ps r rest
    | none => none
   else none
  | none => none
def mQ (look : Operand → Option aj) : List (Nat × Operand) → Option (List (Nat × bI))
 | [] => some []
 | (i, x) :: rest => match look x, mQ look rest with
  | some (.w z), some r => some ((i, z) :: r)
  | _, _ => none
theorem LO (off : Nat) : ∀ (zs : List Value) (k : Nat) (mI : Array Value), off + k + zs.length ≤ mI.size → ((zs.zipIdx k).foldl (fun cs (c, j) => cs.setIfInBounds (off + j) c) mI).toList = mI.toList.take (off + k) ++ zs ++ mI.toList.drop (off + k + zs.length)
 | [], k, mI, _ => by simp
 | z :: zs, k, mI, h => by
  simp only [List.zipIdx_cons, List.foldl_cons];rw [LO off zs (k + 1) _ (by simp at h ⊢; omega)];have e := list_seg_step mI.toList (off + k) z zs (by simp at h ⊢; omega);simpa [Array.toList_setIfInBounds, Nat.add_assoc] using e
theorem yD {U : Nat → Prop} {ad : Nat → Nat} {W : World} {ps : List (Nat × Nat)} {place : Nat → Option (Nat × Nat)} (hp : ∀ i q, ps[i]? = some q → place i = some q) {look : Operand → Option aj} {env : Operand → Value} : ∀ (parts : List (Nat × Operand)) (cs : List AC) (vs : List Value) (zs : List (Nat × bI)) (r : List AC), bV U ad W cs vs → mQ look parts = some zs → (∀ p ∈ parts, ∀ a, look p.2 = some a → c9 U ad W a (env p.2)) → qh ps cs zs = some r →
  ∃ us : List Value, Instr.fill place vs.toArray (parts.map fun p => (p.1, env p.2)) = some us.toArray ∧ bV U ad W r us
 | [], cs, vs, zs, r, ao, aZ, _, ab => by cases aZ; cases ab; exact ⟨vs, rfl, ao⟩
 | (i, x) :: parts, cs, vs, zs, r, ao, aZ, he, ab => by
  simp only [mQ] at aZ
  split at aZ
  ·rename_i z AE aa aq;cases aZ;simp only [qh] at ab
   split at ab
   ·rename_i off size wZ;cases wM : Nat.beq size z.cells.length with
    | false => rw [wM] at ab; cases ab
    | true =>
     rw [wM] at ab;simp only [cond_true] at ab
     split at ab
     ·rename_i au G6;have aZ : gC U ad W z (env x) := he (i, x) (by simp) _ aa;have oq := aZ.cells;obtain ⟨q1, q2⟩ := zW _ _ _ _ G6;have hs := gZ wM;have yX : (env x).cells.size = z.cells.length := by have := oq.1; simp at this; exact this.symm
      have MA := ao.1;have lO := ao.eA oq off q1;rw [q2] at lO;obtain ⟨us, g1, g2⟩ := yD hp parts au _ AE r lO aq (fun p oi => he p (by simp [oi])) ab;refine ⟨us, ?_, g2⟩;simp only [kU, Instr.fill, hp i _ wZ];rw [if_neg (by simp [yX, hs]; omega)];rw [← g1];congr 1;apply Array.ext';have := LO off (env x).cells.toList 0 vs.toArray (by simp [yX]; omega);rw [← Array.foldl_toList, Array.toList_zipIdx];simpa using this
     ·cases ab
   ·cases ab
  ·cases aZ
theorem HN {look : Operand → Option aj} : ∀ (parts : List (Nat × Operand)) (zs : List (Nat × bI)), mQ look parts = some zs → ∀ p ∈ parts, ∃ z, look p.2 = some (.w z) ∧ (p.1, z) ∈ zs
 | [], _, _, p, hp => by cases hp
 | (i, x) :: parts, zs, h, p, hp => by
  simp only [mQ] at h
  split at h
  ·rename_i z AE aa aq;cases h;rcases gM.1 hp with rfl | hp
   ·exact ⟨z, aa, by simp⟩
   ·obtain ⟨afJ, h1, h2⟩ := HN parts AE aq p hp;exact ⟨afJ, h1, by simp [h2]⟩
  ·cases h
theorem NR {look : Operand → Option aj} : ∀ (parts : List (Nat × Operand)) (zs : List (Nat × bI)), mQ look parts = some zs → ∀ q ∈ zs, ∃ p ∈ parts, look p.2 = some (.w q.2)
 | [], _, h, q, al => by cases h; cases al
 | (i, x) :: parts, zs, h, q, al => by
  simp only [mQ] at h
  split at h
  ·rename_i z AE aa aq;cases h;rcases gM.1 al with rfl | al
   ·exact ⟨(i, x), by simp, aa⟩
   ·obtain ⟨p, h1, h2⟩ := NR parts AE aq q al;exact ⟨p, by simp [h1], h2⟩
  ·cases h
theorem adk {cs ds r : List AC} {off : Nat} (h : oK cs off ds = some r) : ∀ x ∈ r, x ∈ cs ∨ x ∈ ds := by
 obtain ⟨_, rfl⟩ := zW _ _ _ _ h;intro x aa;unfold eA at aa;simp only [kT] at aa;rcases aa with (h1 | h1) | h1
 ·exact .inl (oN h1)
 ·exact .inr h1
 ·exact .inl (mW h1)
theorem KE {ps : List (Nat × Nat)} : ∀ (zs : List (Nat × bI)) (cs r : List AC), qh ps cs zs = some r → ∀ x ∈ r, x ∈ cs ∨ ∃ q ∈ zs, x ∈ q.2.cells
 | [], cs, r, h, x, aa => by cases h; exact .inl aa
 | (i, z) :: zs, cs, r, h, x, aa => by
  simp only [qh] at h
  split at h
  ·rename_i off size wZ;cases wM : Nat.beq size z.cells.length with
   | false => rw [wM] at h; cases h
   | true =>
    rw [wM] at h;simp only [cond_true] at h
    split at h
    ·rename_i au G6;rcases KE zs au r h x aa with h1 | ⟨q, h1, h2⟩
     ·rcases adk G6 x h1 with h2 | h2
      ·exact .inl h2
      ·exact .inr ⟨(i, z), by simp, h2⟩
     ·exact .inr ⟨q, by simp [h1], h2⟩
    ·cases h
  ·cases h
theorem Qp {α β : Type} {f : α → Sem β} {W : World} : ∀ (l : List α) (vs : List β), l.length = vs.length → (∀ (i : Nat) x v, l[i]? = some x → vs[i]? = some v → (f x).run P W = .ok v W) → (l.mapM f).run P W = .ok vs W
 | [], [], _, _ => rfl
 | [], _ :: _, h, _ => by cases h
 | _ :: _, [], h, _ => by cases h
 | x :: l, v :: vs, ao, h => by
  have aH := h 0 x v rfl rfl;have cw := Qp l vs (by simpa using ao) (fun i x v aa hv => h (i + 1) x v (by simpa using aa) (by simpa using hv));rw [List.mapM_cons];simp only [Sem.run_bind, aH, Result.andThen_ok, cw];rfl
theorem N0 {α β : Type} {f : α → Option β} : ∀ (l : List α) (vs : List β), l.mapM f = some vs → l.length = vs.length ∧ ∀ (i : Nat) x v, l[i]? = some x → vs[i]? = some v → f x = some v
 | [], vs, h => by cases h; exact ⟨rfl, fun i x v aa => by simp at aa⟩
 | a :: l, vs, h => by
  rw [List.mapM_cons] at h;cases aK : f a with
  | none => rw [aK] at h; cases h
  | some b =>
   rw [aK] at h;cases ao : l.mapM f with
   | none => rw [ao] at h; cases h
   | some bs =>
    rw [ao] at h;cases h;obtain ⟨h1, h2⟩ := N0 l bs ao;refine ⟨by simp [h1], fun i x v aa hv => ?_⟩;cases i with
    | zero => simp at aa hv; subst aa; subst hv; exact aK
    | succ i => exact h2 i x v (by simpa using aa) (by simpa using hv)
theorem S4 {t : Nat} {parts : List (Nat × Operand)} {vs : List Value} {ps : List (Nat × Nat)} {zs : List (Nat × bI)} {r : List AC} [Z : Bn P t vs] [L : JF P t ps] (hw : want ops ⟨some d, .build t parts.toArray, ty, pos, after, guard⟩ s = some true) (aZ : mQ s.look parts = some zs) (ab : qh ps (vs.map .c) zs = some r) (h1 : (vs.all fun v => v.oneCell') = true) (hd : Nat.blt d s.n = true) (h : bi P ops K rest (s.put (some d) (.w (.agg r)))) : bi P ops K (⟨some d, .build t parts.toArray, ty, pos, after, guard⟩ :: rest) s := by
 refine fP (av := .w (.agg r)) hw ⟨fun _ _ h => (by cases h), fun z zn => ?_, fun U ad W env he => ?_, fun j ae => ?_⟩ hd h
 ·simp only [Op.operands, List.mem_toArray, ir] at zn;obtain ⟨p, hp, rfl⟩ := zn;obtain ⟨z, h1, _⟩ := HN parts zs aZ p hp;exact ⟨_, h1⟩
 ·have dE := Z.h;have iH := L.h;unfold zeroOf at dE;unfold DS at iH;cases hi : P.info? t with
  | none => rw [hi] at dE; cases dE
  | some i =>
   rw [hi] at dE;simp only [j2] at dE;cases hk : i.zero with
   | none => rw [hk] at dE; cases dE
   | some z =>
    rw [hk] at dE;cases dE
    split at iH
    ·rename_i bm hu;obtain ⟨m1, m2⟩ := N0 _ _ iH;have r0 : (zeroValue t).run P W = .ok z W := by simp [zeroValue, typeInfo, program, Sem.run_bind, Sem.run, hi, Result.andThen, hk]
     have oj : (bm.mapM fun f => (do pure (f.offset, ← sizeOf f.type) : Sem (Nat × Nat))).run P W = .ok ps.toArray W := by
      rw [Array.mapM_eq_mapM_toList]
      have := Qp (P := P) (W := W) (f := fun f : Field => (do pure (f.offset, ← sizeOf f.type) : Sem (Nat × Nat))) bm.toList ps m1 (fun j x v aa hv => by
       have := m2 j x v aa hv;cases GM : P.info? x.type with
       | none => rw [GM] at this; cases this
       | some eB =>
        rw [GM] at this;cases this;simp only [Sem.run_bind, hq GM, Result.andThen_ok, Sem.run_pure])
      simp only [map_eq_pure_bind, Sem.run_bind, this, Result.andThen_ok, Sem.run_pure]
     have jx : bV U ad W (z.cells.toList.map .c) z.cells.toList := ⟨by simp, fun j x v aa hv => by
      rw [eG, hv] at aa;cases aa;exact ⟨rfl, ct.1 h1 v (dG hv)⟩⟩
     obtain ⟨us, g1, g2⟩ := yD (U := U) (ad := ad) (W := W) (ps := ps) (place := fun i => ps.toArray[i]?) (fun i q h => by simpa using h) (look := s.look) (env := env) parts _ _ zs r jx aZ (fun p hp a aK => he p.2 (by simp only [Op.operands, List.mem_toArray, ir]; exact ⟨p, hp, rfl⟩) a aK) ab;refine ⟨.agg us.toArray, ?_, us, rfl, g2⟩;have tz : (parts.toArray.map fun (i, x) => (i, env x)).toList = parts.map fun p => (p.1, env p.2) := by simp
     have tD : z.cells.toList.toArray = z.cells := by simp
     rw [tD] at g1;simp only [execOp, Instr.build, Sem.run_bind, r0, Result.andThen_ok, run_underlying hu, oj, tz, g1, Sem.run_pure]
    ·rename_i n el hu;have r0 : (zeroValue t).run P W = .ok z W := by simp [zeroValue, typeInfo, program, Sem.run_bind, Sem.run, hi, Result.andThen, hk]
     have jx : bV U ad W (z.cells.toList.map .c) z.cells.toList := ⟨by simp, fun j x v aa hv => by
      rw [eG, hv] at aa;cases aa;exact ⟨rfl, ct.1 h1 v (dG hv)⟩⟩
     cases aE : Nat.ble n 32 with
     | false => rw [aE] at iH; cases iH
     | true =>
      rw [aE] at iH;simp only [cond_true] at iH;cases GL : P.info? el with
      | none => rw [GL] at iH; cases iH
      | some eB =>
       rw [GL] at iH;simp only [gL, hK] at iH
       obtain ⟨us, g1, g2⟩ := yD (U := U) (ad := ad) (W := W) (ps := ps) (place := fun i => some (i * eB.size, eB.size)) (fun i q h => by
        rw [← iH, eG] at h;rcases iQ i n with bj | lf
        ·rw [cp (by simpa using bj)] at h;simpa using h
        ·rw [qM (by simpa using lf)] at h;cases h) (look := s.look) (env := env) parts _ _ zs r jx aZ (fun p hp a aK => he p.2 (by simp only [Op.operands, List.mem_toArray, ir]; exact ⟨p, hp, rfl⟩) a aK) ab
       refine ⟨.agg us.toArray, ?_, us, rfl, g2⟩;have tz : (parts.toArray.map fun (i, x) => (i, env x)).toList = parts.map fun p => (p.1, env p.2) := by simp
       have tD : z.cells.toList.toArray = z.cells := by simp
       rw [tD] at g1;simp only [execOp, Instr.build, Sem.run_bind, r0, Result.andThen_ok, run_underlying hu, hq GL, tz, g1, Sem.run_pure]
    ·cases iH
 ·obtain ⟨y, ah, lP⟩ := ae;rcases KE zs _ r ab y ah with h2 | ⟨q, h2, ap⟩
  ·obtain ⟨v, _, rfl⟩ := ir.1 h2; cases lP
  ·obtain ⟨p, hp, ao⟩ := NR parts zs aZ q h2;exact ⟨p.2, by simp only [Op.operands, List.mem_toArray, ir]; exact ⟨p, hp, rfl⟩, _, ao, ⟨y, ap, lP⟩⟩
theorem Kh {Fv : Builtin} {aS : Array TypeId} {x y : Operand} {iy fm v : Value} (hw : want ops ⟨some d, .call ⟨.builtin Fv, #[x, y], aS⟩, ty, pos, after, guard⟩ s = some true) (aa : s.look x = some (aQ iy)) (ah : s.look y = some (aQ fm)) (aq : ∀ cs W, (builtin Fv aS ty cs #[iy, fm]).run P W = .ok (.value v) W) (h1 : v.oneCell' = true) (hd : Nat.blt d s.n = true) (h : bi P ops K rest (s.put (some d) (aQ v))) : bi P ops K (⟨some d, .call ⟨.builtin Fv, #[x, y], aS⟩, ty, pos, after, guard⟩ :: rest) s := by
 refine fP (av := aQ v) hw ⟨fun _ _ h => (by cases h), fun z aZ => ?_, fun U ad W env he => ⟨v, ?_, ⟨rfl, h1⟩⟩, fun j ae => absurd ae (iO v j)⟩ hd h
 ·simp [Op.operands, Call.operands] at aZ;rcases aZ with rfl | rfl
  ·exact ⟨_, aa⟩
  ·exact ⟨_, ah⟩
 ·have aI : env x = iy := (he x (by simp [Op.operands, Call.operands]) _ aa).1;have aO : env y = fm := (he y (by simp [Op.operands, Call.operands]) _ ah).1;have em : (#[x, y] : Array Operand).map env = #[iy, fm] := by simp [aI, aO]
  simp only [execOp, resolve, em, Sem.run_bind, Sem.run_pure, Result.andThen_ok, invoke, aq]
theorem v8 {aS : Array TypeId} {x y : Operand} {k : IntKind} {a b : Int} (hw : want ops ⟨some d, .call ⟨.builtin .min, #[x, y], aS⟩, ty, pos, after, guard⟩ s = some true) (aa : s.look x = some (aQ (.int k a))) (ah : s.look y = some (aQ (.int k b))) (hd : Nat.blt d s.n = true) (h : bi P ops K rest (s.put (some d) (aQ (.int k (if b < a then b else a))))) : bi P ops K (⟨some d, .call ⟨.builtin .min, #[x, y], aS⟩, ty, pos, after, guard⟩ :: rest) s :=
 Kh hw aa ah (fun cs W => by go_simp; all_goals (first | rfl | (split <;> omega))) rfl hd h
theorem sR {aS : Array TypeId} {x y : Operand} {k : IntKind} {a b : Int} (hw : want ops ⟨some d, .call ⟨.builtin .max, #[x, y], aS⟩, ty, pos, after, guard⟩ s = some true) (aa : s.look x = some (aQ (.int k a))) (ah : s.look y = some (aQ (.int k b))) (hd : Nat.blt d s.n = true) (h : bi P ops K rest (s.put (some d) (aQ (.int k (if b > a then b else a))))) : bi P ops K (⟨some d, .call ⟨.builtin .max, #[x, y], aS⟩, ty, pos, after, guard⟩ :: rest) s :=
 Kh hw aa ah (fun cs W => by go_simp; all_goals (first | rfl | (split <;> omega))) rfl hd h
theorem S7 {t : Nat} {b : Bool} {l : List Oper} (hs : s.tmps t = some (bE b)) (h1 : b = true → bi P ops K l (s.put (some t) (bE true))) (aH : b = false → bi P ops K l (s.put (some t) (bE false))) : bi P ops K l s := by
 have same : ∀ c, b = c → s.put (some t) (bE c) = s := fun c e => by
  subst e;simp only [aC.put];congr 1;funext j
  by_cases ae : j = t
  ·subst ae; rw [cr, hs]
  ·rw [cl _ _ ae]
 cases b with
 | true => rw [← same true rfl]; exact h1 rfl
 | false => rw [← same false rfl]; exact aH rfl
end
theorem bf : ([] : List ResultVar).map (iw P s) = ([] : List bI).map some := rfl
theorem bC {t : Nat} {x : bI} {l : List ResultVar} {xs : List bI} (h : s.tmps t = some (.w x)) (ao : l.map (iw P s) = xs.map some) : (ResultVar.tmp t :: l).map (iw P s) = (x :: xs).map some := by
 simp only [kU, ao]; rw [show iw P s (.tmp t) = some x by simp only [iw, h]]
theorem e0 {a ty k off n : Nat} [T : fO P ty true n] {cs aU : List AC} {l : List ResultVar} {xs : List bI} (h : s.tmps a = some (mA k off)) (hm : s.mem k = some cs) (ak : takeN cs off n = some aU) (ao : l.map (iw P s) = xs.map some) : (ResultVar.cell a ty :: l).map (iw P s) = (.agg aU :: xs).map some := by
 simp only [kU, ao]; rw [show iw P s (.cell a ty) = some (.agg aU) by simp only [iw, h, hm, j2, QU T.h ak]]
theorem bR {fn : Func} {l : List ResultVar} {xs : List bI} {r : aj} (aq : fn.results = l.toArray) (h : l.map (iw P s) = xs.map some) (hle : (packed xs).bp r) : yd P fn r .ret s := ⟨xs, by rw [aq]; exact h, hle⟩
theorem ac2 {f : FuncId} {args : List aj} {r : aj} {kv : List Value} (he : args.map (fun x => match x with | .w y => np y | _ => none) = kv.map some) (jn : ∀ x ∈ args, x.closed) (cj : r.closed)
  (h : ∀ W, Calls P f kv.toArray W fun e bo => ∃ v, e = .returned v ∧ (∀ U, (∀ b, W.heap.size ≤ b → U b) → c9 U id bo r v) ∧ Below W.heap.size W bo) : aR P f args r := by
 refine ⟨jn, cj, fun U W vs dJ => ?_⟩
 have e : vs = kv := by
  apply List.ext_getElem?;intro i;have ao := dJ.1;have mL : args.length = kv.length := by have := congrArg List.length he; simpa using this
  rcases iQ i args.length with hi | hi
  ·have h1 : (args.map (fun x => match x with | .w y => np y | _ => none))[i]? = (kv.map some)[i]? := by rw [he]
   rw [eG, eG, cp hi, cp (by omega : i < kv.length)] at h1;simp only [gL, hK] at h1;rw [cp (by omega : i < vs.length), cp (by omega : i < kv.length)];have h2 := dJ.2 i args[i] vs[i] (cp hi) (cp (by omega));cases aa : args[i] with
   | w y =>
    rw [aa] at h1 h2;rw [B6 h2 h1]
   | cZ xs => rw [aa] at h1; cases h1
  ·rw [qM (by omega), qM (by omega)]
 subst e;refine (h W).mono ?_;rintro e bo ⟨v, h1, h2, ap⟩;exact ⟨v, h1, h2 _ fun b ab => .inr ab, ap⟩
def AC.bb : AC → Bool
 | .own _ _ => false
 | _ => true
def bI.bb : bI → Bool
 | .one x => x.bb
 | .agg xs => xs.all AC.bb
def aj.bb : aj → Bool
 | .w x => x.bb
 | .cZ xs => xs.all bI.bb
theorem AC.dy {x : AC} (h : x.bb = true) (j : Nat) : ¬ x.owns j := by cases x <;> simp_all [AC.bb, AC.owns]
theorem bI.dy {x : bI} (h : x.bb = true) (j : Nat) : ¬ x.owns j := by
 rintro ⟨y, ah, ae⟩;cases x with
 | one z => simp [bI.cells] at ah; subst ah; exact AC.dy h j ae
 | agg xs => exact AC.dy (ct.1 h y ah) j ae
theorem aj.dy {x : aj} (h : x.bb = true) : x.closed := fun j => by
 cases x with
 | w y => exact bI.dy h j
 | cZ xs => rintro ⟨y, ah, ae⟩; exact bI.dy (ct.1 h y ah) j ae
theorem cc {f : FuncId} {fn : Func} {c : Code} {args : List aj} {r : aj} (ar : P.funcs[f]? = some fn) (ab : fn.body = some c) (aE : Nat.ble args.length fn.ntmps = true) (jn : args.all aj.bb = true) (cj : r.bb = true)
  (h : fp P c (yd P fn r) (start fn.ntmps args)) : aR P f args r :=
 ac3 ar ab (by simpa [Nat.ble_eq] using aE) (fun x aa => aj.dy (ct.1 jn x aa)) (aj.dy cj) h
theorem ac1 {f : FuncId} {fn : Func} {c : Code} {args : List aj} {r : aj} (ar : P.funcs[f]? = some fn) (ab : fn.body = some c) (aE : Nat.ble args.length fn.ntmps = true) (jn : args.all aj.bb = true) (cj : r.bb = true)
  (h : sI P c (yd P fn r) (start fn.ntmps args)) : aR P f args r :=
 PB ar ab (by simpa [Nat.ble_eq] using aE) (fun x aa => aj.dy (ct.1 jn x aa)) (aj.dy cj) h
theorem ac5 {f : FuncId} {args : List aj} {r : aj} (kv : List Value) (he : args.map (fun x => match x with | .w y => np y | _ => none) = kv.map some) (jn : args.all aj.bb = true) (cj : r.bb = true)
  (h : ∀ W, Calls P f kv.toArray W fun e bo => ∃ v, e = .returned v ∧ (∀ U, (∀ b, W.heap.size ≤ b → U b) → c9 U id bo r v) ∧ Below W.heap.size W bo) : aR P f args r :=
 ac2 he (fun x aa => aj.dy (ct.1 jn x aa)) (aj.dy cj) h
theorem bH {next : aC → Prop} {Q : Exit → aC → Prop} (h : next s) : rv next Q .normal s := h
theorem uF {next : aC → Prop} {Q : Exit → aC → Prop} {id : Nat} (h : Q (.exit id) s) : rv next Q (.exit id) s := h
theorem fC {next : aC → Prop} {Q : Exit → aC → Prop} (h : Q .ret s) : rv next Q .ret s := h
theorem mG {Q : Exit → aC → Prop} {id : Nat} (h : Q .normal s) : vY id Q .normal s := h
theorem l6 {Q : Exit → aC → Prop} {id : Nat} (h : Q .ret s) : vY id Q .ret s := h
theorem uC {Q : Exit → aC → Prop} {id : Nat} (h : Q .normal s) : vY id Q (.exit id) s := by simp only [vY, Nat.beq_refl, cond_true]; exact h
theorem dv {dst : Option Nat} {op : Op} {ty : Nat} {pos : String} {after : Array Edge} {g t : Nat} {b Kw c : Bool} (hd : (ops[g]?).bind (·.dst) = some t) (hs : s.tmps t = some (bE Kw)) (ab : Kw = c)
  (h1 : bi P ops K (⟨dst, op, ty, pos, after, some (g, b)⟩ :: rest) (s.put (some t) (bE c))) : bi P ops K (⟨dst, op, ty, pos, after, some (g, b)⟩ :: rest) s := by
 subst ab;exact S7 hs (fun e => by subst e; exact h1) (fun e => by subst e; exact h1)
theorem Ks {c : Operand} {t u : Bool} {x y : Code} {Q : Exit → aC → Prop} (ak : s.look c = some (bE t)) (aD : t = u) (h : fp P (bif u then x else y) Q s) : fp P (.cond c x y) Q s := by
 subst aD;cases t with
 | true => exact h8 ak h
 | false => exact hA ak h
theorem gf {c : Operand} {t : Bool} {x y : Code} {Q : Exit → aC → Prop} (ak : s.look c = some (bE t)) (aD : t = true) (h : fp P x Q s) : fp P (.cond c x y) Q s := Ks ak aD h
theorem hz {c : Operand} {t : Bool} {x y : Code} {Q : Exit → aC → Prop} (ak : s.look c = some (bE t)) (aD : t = false) (h : fp P y Q s) : fp P (.cond c x y) Q s := Ks ak aD h
end
abbrev bh (x y : Int) : aj := .w (.agg [.c (.int .i64 x), .c (.int .i64 y)])
def F3 (w : World) : AC → Value → Nat → Prop
 | .p R, x, b => R.lc w x b
 | _, _, _ => False
theorem x3 (a : Addr) (m j : Nat) : (a.add m).add j = a.add (m + j) := by
 unfold Addr.add
 by_cases h1 : m = 0 <;> by_cases h2 : j = 0 <;> simp [h1, h2, Nat.add_assoc]
theorem block_add (a : Addr) (m : Nat) : (a.add m).block = a.block := by unfold Addr.add; split <;> rfl
structure ky (w : World) (a : Addr) (xs : List AC) (vs : List Value) : Prop where
 lt : a.block < w.heap.size
 nP : bV (fun _ => True) id w xs vs
 at_ : ∀ (j : Nat) v, vs[j]? = some v → w.cell? (a.add j) = some v
 pd : ∀ y ∈ xs, y.bb = true
def mJ (w : World) (a : Addr) (xs : List AC) (b : Nat) : Prop := a.block = b ∨ ∃ (j : Nat) (y : AC) (v : Value), xs[j]? = some y ∧ w.cell? (a.add j) = some v ∧ F3 w y v b
theorem ky.frame {w w' : World} {a : Addr} {xs : List AC} {vs : List Value} (h : ky w a xs vs) (ar : ∀ b, mJ w a xs b → w'.heap[b]? = w.heap[b]?) : ky w' a xs vs ∧ ∀ b, mJ w' a xs b → mJ w a xs b := by
 have ab : w'.heap[a.block]? = w.heap[a.block]? := ar _ (.inl rfl);have ak : ∀ j, w'.cell? (a.add j) = w.cell? (a.add j) := fun j => World.cell?_of_block (w := w) (by rw [block_add]; exact ab)
 have key : ∀ (j : Nat) (y : AC) (v : Value), xs[j]? = some y → w.cell? (a.add j) = some v → gn (fun _ => True) id w y v → gn (fun _ => True) id w' y v ∧ ∀ b, F3 w' y v b → F3 w y v b := by
  intro j y v ah hv aq;cases y with
  | c u => exact ⟨aq, fun b h => h⟩
  | own k o => exact ⟨aq, fun b h => h⟩
  | p R =>
   have := R.frame w w' v aq.1 fun b ab => ar b (.inr ⟨j, _, v, ah, hv, ab⟩);exact ⟨⟨this.1, fun _ _ => trivial⟩, this.2⟩
 refine ⟨⟨?_, ⟨h.nP.1, fun i y v ah hv => (key i y v ah (h.at_ i v hv) (h.nP.2 i y v ah hv)).1⟩, fun j v hv => by rw [ak]; exact h.at_ j v hv, h.pd⟩, ?_⟩
 ·have dk := Array.getElem?_eq_getElem h.lt;exact (kr.1 (ab.trans dk)).1
 ·rintro b (h1 | ⟨j, y, v, ah, hv, gh⟩)
  ·exact .inl h1
  ·rw [ak] at hv;have bj : j < vs.length := by rw [← h.nP.1]; exact (bX.1 ah).1
   have h2 := h.at_ j _ (cp bj);rw [hv] at h2;cases h2;exact .inr ⟨j, y, _, ah, hv, (key j y _ ah hv (h.nP.2 j y _ ah (cp bj))).2 b gh⟩
theorem ky.ik {w : World} {a : Addr} {xs : List AC} {vs : List Value} {b : Nat} (h : ky w a xs vs) (ar : mJ w a xs b) : b < w.heap.size := by
 rcases ar with rfl | ⟨j, y, v, ah, hv, gh⟩
 ·exact h.lt
 ·have bj : j < vs.length := by rw [← h.nP.1]; exact (bX.1 ah).1
  have h2 := h.at_ j _ (cp bj);rw [hv] at h2;cases h2;have := h.nP.2 j y _ ah (cp bj);cases y with
  | c u => cases gh
  | own k o => cases gh
  | p R => exact R.ik _ _ _ this.1 gh
theorem ky.sub {w : World} {a : Addr} {xs : List AC} {vs : List Value} (h : ky w a xs vs) (off n : Nat) : ky w (a.add off) ((xs.drop off).take n) ((vs.drop off).take n) := by
 refine ⟨by rw [block_add]; exact h.lt, h.nP.sub off n, fun j v hv => ?_, fun y ah => h.pd y (mW (oN ah))⟩;rw [x3]
 have ae : j < n := by
  have := (bX.1 hv).1;simp at this; omega
 rw [fN ae, gl] at hv;exact h.at_ _ v hv
theorem mJ.sub {w : World} {a : Addr} {xs : List AC} {off n b : Nat} (h : mJ w (a.add off) ((xs.drop off).take n) b) : mJ w a xs b := by
 rcases h with h | ⟨j, y, v, ah, hv, gh⟩
 ·rw [block_add] at h; exact .inl h
 ·rw [x3] at hv
  have ae : j < n := by
   have := (bX.1 ah).1;simp at this; omega
  rw [fN ae, gl] at ah;exact .inr ⟨_, y, v, ah, hv, gh⟩
theorem ky.II {w : World} {a : Addr} {xs : List AC} {vs : List Value} {U : Nat → Prop} {ad : Nat → Nat} (h : ky w a xs vs) (dz : ∀ b, mJ w a xs b → U b) : bV U ad w xs vs := by
 refine ⟨h.nP.1, fun i y v ah hv => ?_⟩;have h1 := h.nP.2 i y v ah hv;have h2 := h.pd y (dG ah);cases y with
 | c u => exact h1
 | own k o => cases h2
 | p R => exact ⟨h1.1, fun b ab => dz b (.inr ⟨i, _, v, ah, h.at_ i v hv, ab⟩)⟩
def EX (xs : List AC) : e2 where
 holds w v := ∃ a vs, v = .pointer (some a) ∧ ky w a xs vs
 lc w v b := ∃ a, v = .pointer (some a) ∧ mJ w a xs b
 frame w w' v := by
  rintro ⟨a, vs, rfl, h⟩ ar;obtain ⟨h1, h2⟩ := h.frame fun b ab => ar b ⟨a, rfl, ab⟩;exact ⟨⟨a, vs, rfl, h1⟩, fun b ⟨a', e, ab⟩ => by cases e; exact ⟨a, rfl, h2 b ab⟩⟩
 ik w v b := by
  rintro ⟨a, vs, rfl, h⟩ ⟨a', e, ab⟩;cases e;exact h.ik ab
 cell w v := by rintro ⟨a, vs, rfl, h⟩; rfl
def cB (sz n : Nat) (xs : List AC) : e2 where
 holds w v := ∃ A c, v = .slice A n c ∧ n ≤ c ∧ xs.length = n * sz ∧ (0 < n → ∃ a vs, A = some a ∧ ky w a xs vs)
 lc w v b := ∃ c a, v = .slice (some a) n c ∧ 0 < n ∧ mJ w a xs b
 frame w w' v := by
  rintro ⟨A, c, rfl, ak, ao, h⟩ ar;refine ⟨⟨A, c, rfl, ak, ao, fun aE => ?_⟩, ?_⟩
  ·obtain ⟨a, vs, rfl, aF⟩ := h aE;exact ⟨a, vs, rfl, (aF.frame fun b ab => ar b ⟨c, a, rfl, aE, ab⟩).1⟩
  ·rintro b ⟨c', a', e, aE, ab⟩;cases e;obtain ⟨a, vs, e, aF⟩ := h aE;cases e;exact ⟨c, a', rfl, aE, (aF.frame fun b ab => ar b ⟨c, a', rfl, aE, ab⟩).2 b ab⟩
 ik w v b := by
  rintro ⟨A, c, rfl, ak, ao, h⟩ ⟨c', a', e, aE, ab⟩;cases e;obtain ⟨a, vs, e, aF⟩ := h aE;cases e;exact aF.ik ab
 cell w v := by rintro ⟨A, c, rfl, _⟩; rfl
abbrev cM (sz n : Nat) (xs : List AC) : aj := .w (.one (.p (cB sz n xs)))
abbrev Ax (xs : List AC) : aj := .w (.one (.p (EX xs)))
theorem ll (R : e2) (j : Nat) : ¬ (aj.w (.one (.p R))).owns j := fun ⟨y, ah, h⟩ => by simp [bI.cells] at ah; subst ah; cases h
section
variable {P : Program} {s : aC} {o : Oper} {ops : Array Oper} {K : aC → Prop} {rest : List Oper} {op : Op} {ty : Nat} {pos : String} {after : Array Edge} {guard : Option (Nat × Bool)} {d : Nat}
theorem Fh {av : aj} (hw : want ops ⟨some d, op, ty, pos, after, guard⟩ s = some true) (al : vO P s.look ⟨some d, op, ty, pos, after, guard⟩ av) (hd : Nat.blt d s.n = true) (h : bi P ops K rest (s.put (some d) av)) : bi P ops K (⟨some d, op, ty, pos, after, guard⟩ :: rest) s :=
 qf (e := ⟨av, none⟩) hw (.fresh av al) (kG hd) h
theorem my {t sz : Nat} (h : sB P t = some sz) : ∃ e i, P.underlying t = some (.slice e) ∧ P.info? e = some i ∧ i.size = sz := by
 unfold sB at h
 split at h
 ·rename_i e hu;cases hi : P.info? e with
  | none => rw [hi] at h; cases h
  | some i => rw [hi] at h; cases h; exact ⟨e, i, hu, hi, rfl⟩
 ·cases h
theorem kd {t e : Nat} (h : P.underlying t = some (.slice e)) : P.elem t = e := by simp [Program.elem, h]
theorem db {t sz ae3 n : Nat} {xs : List AC} {x : Operand} [S : h5 P t ae3] (hw : want ops ⟨some d, .call ⟨.builtin .len, #[x], #[t]⟩, ty, pos, after, guard⟩ s = some true) (aa : s.look x = some (cM sz n xs)) (hd : Nat.blt d s.n = true)
  (h : bi P ops K rest (s.put (some d) (aT n))) : bi P ops K (⟨some d, .call ⟨.builtin .len, #[x], #[t]⟩, ty, pos, after, guard⟩ :: rest) s := by
 refine fP (av := aT n) hw ⟨fun _ _ h => (by cases h), fun y ah => ?_, fun U ad W env he => ⟨.int .i64 n, ?_, rfl, rfl⟩, fun j ae => absurd ae (iO _ j)⟩ hd h
 ·simp [Op.operands, Call.operands] at ah;subst ah;exact ⟨_, aa⟩
 ·obtain ⟨⟨A, c, aI, _⟩, _⟩ := he x (by simp [Op.operands, Call.operands]) _ aa;obtain ⟨e, i, hu, hi, _⟩ := my S.h;have e5 : P.underlying t = some (.slice (P.elem t)) := by rw [kd hu]; exact hu
  have em : (#[x] : Array Operand).map env = #[.slice A n c] := by simp [aI]
  simp only [execOp, resolve, em, Sem.run_bind, Sem.run_pure, Result.andThen_ok, invoke, builtin];rw [run_len_slice W t ty A n c e5];rfl
theorem fB {x y : Operand} {t sz n : Nat} {gG : IntKind} {i : Int} {xs aU : List AC} [S : h5 P t sz] (hw : want ops ⟨some d, .indexAddr t x y, ty, pos, after, guard⟩ s = some true) (aa : s.look x = some (cM sz n xs)) (ah : s.look y = some (aQ (.int gG i))) (aH : 0 ≤ i) (h1 : i < n)
  (he : (xs.drop (i.toNat * sz)).take sz = aU) (hd : Nat.blt d s.n = true) (h : bi P ops K rest (s.put (some d) (Ax aU))) : bi P ops K (⟨some d, .indexAddr t x y, ty, pos, after, guard⟩ :: rest) s := by
 subst he;refine fP hw ⟨fun _ _ h => (by cases h), fun z aZ => ?_, fun U ad W env he => ?_, fun j ae => absurd ae (ll _ j)⟩ hd h
 ·simp [Op.operands] at aZ;rcases aZ with rfl | rfl
  ·exact ⟨_, aa⟩
  ·exact ⟨_, ah⟩
 ·obtain ⟨⟨A, c, aI, ak, ao, dU⟩, dz⟩ := he x (by simp [Op.operands]) _ aa;have hi : env y = .int gG i := (he y (by simp [Op.operands]) _ ah).1;obtain ⟨e, eB, hu, dd, hs⟩ := my S.h;obtain ⟨a, vs, rfl, ev⟩ := dU (by omega);refine ⟨.pointer (some (a.add (i.toNat * sz))), ?_, ⟨_, _, rfl, ev.sub _ _⟩, ?_⟩
  ·simp only [execOp, Instr.indexAt, aI, hi, asIntOf, Sem.run_bind, Sem.run_pure, Result.andThen_ok, run_underlying hu, hq dd, if_pos (And.intro aH h1), hs]
  ·rintro b ⟨a', e, ab⟩;cases e;exact dz b ⟨c, a, aI, by omega, ab.sub⟩
theorem sP {x : Operand} {pW i hR : Nat} {xs : List AC} [F : mC P pW i hR] (hw : want ops ⟨some d, .fieldAddr pW x i, ty, pos, after, guard⟩ s = some true) (aa : s.look x = some (Ax xs)) (hd : Nat.blt d s.n = true) (h : bi P ops K rest (s.put (some d) (Ax (xs.drop hR)))) : bi P ops K (⟨some d, .fieldAddr pW x i, ty, pos, after, guard⟩ :: rest) s := by
 refine fP hw ⟨fun _ _ h => (by cases h), fun y ah => ?_, fun U ad W env he => ?_, fun j ae => absurd ae (ll _ j)⟩ hd h
 ·simp [Op.operands] at ah;subst ah;exact ⟨_, aa⟩
 ·obtain ⟨⟨a, vs, aI, ev⟩, dz⟩ := he x (by simp [Op.operands]) _ aa;have hF := F.h;unfold te at hF
  split at hF
  ·rename_i bm hu;cases ar : bm[i]? with
   | none => rw [ar] at hF; cases hF
   | some f =>
    rw [ar] at hF;simp only [j2] at hF;cases hi : P.info? f.type with
    | none => rw [hi] at hF; cases hF
    | some t =>
     rw [hi] at hF;simp only [j2] at hF
     split at hF
     ·cases hF
     ·rename_i cq;cases hF;have u7 := ev.sub f.offset xs.length;rw [h0 (by simp), h0 (by have := ev.nP.1; simp; omega)] at u7;refine ⟨.pointer (some (a.add f.offset)), ?_, ⟨_, _, rfl, u7⟩, ?_⟩
      ·simp only [execOp, Instr.fieldAt, aI, Instr.sureAddr, Sem.run_bind, Sem.run_pure, Result.andThen_ok, run_underlying hu, ar, fieldPlace, hq hi, if_neg cq]
      ·rintro b ⟨a', e, ab⟩;cases e;refine dz b ⟨a, aI, mJ.sub (off := f.offset) (n := xs.length) ?_⟩;rw [h0 (by simp)];exact ab
  ·cases hF
theorem l7 {x : Operand} {lt n : Nat} {xs : List AC} {y : AC} [T : fO P lt false n] (hw : want ops ⟨some d, .load lt x, ty, pos, after, guard⟩ s = some true) (aa : s.look x = some (Ax xs)) (ak : xs[0]? = some y) (cO : y.bb = true) (hd : Nat.blt d s.n = true) (h : bi P ops K rest (s.put (some d) (.w (.one y)))) : bi P ops K (⟨some d, .load lt x, ty, pos, after, guard⟩ :: rest) s := by
 refine fP hw ⟨fun _ _ h => (by cases h), fun y ah => ?_, fun U ad W env he => ?_, fun j ae => ?_⟩ hd h
 ·simp [Op.operands] at ah;subst ah;exact ⟨_, aa⟩
 ·obtain ⟨⟨a, vs, aI, ev⟩, dz⟩ := he x (by simp [Op.operands]) _ aa;have aq := ev.II (U := U) (ad := ad) fun b ab => dz b ⟨a, aI, ab⟩;have bj : 0 < vs.length := by rw [← aq.1]; exact (bX.1 ak).1
  have hv := cp bj;refine ⟨_, ?_, aq.2 0 y _ ak hv⟩;have dZ := T.h;have nv : W.cell? a = some vs[0] := ev.at_ 0 _ hv;unfold j5 at dZ;cases hu : P.underlying lt with
  | none => rw [hu] at dZ; cases dZ
  | some D =>
   have key : (loadVar lt a).run P W = .ok vs[0] W := by
    refine IL hu (fun bm e => ?_) (fun m bw e => ?_) nv
    ·subst e;cases hi : P.info? lt with
     | none => simp [hu, hi] at dZ
     | some eB => simp [hu, hi] at dZ
    ·subst e;cases hi : P.info? lt with
     | none => simp [hu, hi] at dZ
     | some eB => simp [hu, hi] at dZ
   simp only [execOp, Instr.loadAt, aI, Instr.sureAddr, Sem.run_bind, Sem.run_pure, Result.andThen_ok, key]
 ·exact absurd ae (aj.dy (x := .w (.one y)) cO j)
theorem ha {x : Operand} {lt n : Nat} {xs aU : List AC} [T : fO P lt true n] (hw : want ops ⟨some d, .load lt x, ty, pos, after, guard⟩ s = some true) (aa : s.look x = some (Ax xs)) (ak : takeN xs 0 n = some aU) (cO : (bI.agg aU).bb = true) (hd : Nat.blt d s.n = true) (h : bi P ops K rest (s.put (some d) (.w (.agg aU)))) : bi P ops K (⟨some d, .load lt x, ty, pos, after, guard⟩ :: rest) s := by
 refine fP hw ⟨fun _ _ h => (by cases h), fun y ah => ?_, fun U ad W env he => ?_, fun j ae => ?_⟩ hd h
 ·simp [Op.operands] at ah;subst ah;exact ⟨_, aa⟩
 ·obtain ⟨⟨a, vs, aI, ev⟩, dz⟩ := he x (by simp [Op.operands]) _ aa;obtain ⟨q1, q2⟩ := Et _ _ _ _ ak;have u7 := ev.sub 0 n;have aq := u7.II (U := U) (ad := ad) fun b ab => dz b ⟨a, aI, mJ.sub ab⟩;rw [q2] at aq;have aK : a.add 0 = a := rfl;refine ⟨.agg ((vs.drop 0).take n).toArray, ?_, _, rfl, aq⟩;have dZ := T.h;unfold j5 at dZ;have hlen : ((vs.drop 0).take n).length = n := by have := ev.nP.1; simp; omega
  have nv := u7.at_;rw [aK] at nv;cases hu : P.underlying lt with
  | none => rw [hu] at dZ; cases dZ
  | some D =>
   cases hi : P.info? lt with
   | none => rw [hu, hi] at dZ; cases D <;> cases dZ
   | some eB =>
    rw [hu, hi] at dZ;have key : ((∃ bm, D = .struct bm) ∨ ∃ n e, D = .array n e) ∧ eB.size = n := by cases D <;> simp at dZ <;> simp [dZ]
    have := IK (P := P) (w := W) (A := a) hu key.1 hi (by rw [hlen, key.2]) nv;simp only [execOp, Instr.loadAt, aI, Instr.sureAddr, Sem.run_bind, Sem.run_pure, Result.andThen_ok, this]
 ·exact absurd ae (aj.dy (x := .w (.agg aU)) cO j)
def xA (P : Program) (t : TypeId) : Option (List Value) :=
 match P.underlying t with
 | some (.slice e) => zeroOf P e
 | _ => none
class o7 (P : Program) (t : TypeId) (vs : outParam (List Value)) : Prop where
 h : xA P t = some vs
def hN (n sz : Nat) (vs : List Value) : List AC := (List.range (n * sz)).map fun j => .c (vs.toArray[j % vs.length]!)
def xn (n sz : Nat) : List (Nat × Nat) := (List.range n).map fun i => (i * sz, sz)
theorem TC {w : World} {sx : List AC} {us : List Value} {ty : TypeId} {U : Nat → Prop} {ad : Nat → Nat} (h : bV U ad w sx us) (cO : ∀ y ∈ sx, y.bb = true) : ky (w.alloc (.cells us.toArray ty)) ⟨w.heap.size, 0, none⟩ sx us := by
 refine ⟨by show w.heap.size < (w.heap.push _).size; simp, ⟨h.1, fun i y v ah hv => ?_⟩, fun j v hv => ?_, cO⟩
 ·refine (h.2 i y v ah hv).map (fun b ab ao => ⟨trivial, Below.heap_alloc _ _ _ ao⟩) fun j ae => ?_;exact absurd ae (AC.dy (cO y (dG ah)) j)
 ·have ki : (⟨w.heap.size, 0, none⟩ : Addr).add j = ⟨w.heap.size, j, none⟩ := by unfold Addr.add; split <;> simp_all
  rw [ki];have : (w.alloc (.cells us.toArray ty)).heap[w.heap.size]? = some (.cells us.toArray ty (0, 0)) := by show (w.heap.push _)[w.heap.size]? = _; simp
  simp only [World.cell?, this];simpa using hv
theorem TD {w : World} {sx : List AC} {us : List Value} {ty : TypeId} {U : Nat → Prop} {ad : Nat → Nat} {b : Nat} (h : bV U ad w sx us) (ar : mJ (w.alloc (.cells us.toArray ty)) ⟨w.heap.size, 0, none⟩ sx b) : U b ∨ w.heap.size ≤ b := by
 rcases ar with rfl | ⟨j, y, v, ah, hv, gh⟩
 ·exact .inr (dW _)
 ·have ki : (⟨w.heap.size, 0, none⟩ : Addr).add j = ⟨w.heap.size, j, none⟩ := by unfold Addr.add; split <;> simp_all
  rw [ki] at hv;have : (w.alloc (.cells us.toArray ty)).heap[w.heap.size]? = some (.cells us.toArray ty (0, 0)) := by show (w.heap.push _)[w.heap.size]? = _; simp
  simp only [World.cell?, this] at hv;have b8 : us[j]? = some v := by simpa using hv
  have aq := h.2 j y v ah b8;cases y with
  | c u => cases gh
  | own k o => cases gh
  | p R =>
   refine .inl (aq.2 b ?_);exact (R.frame w _ v aq.1 fun bO df => Below.heap_alloc _ _ _ (R.ik _ _ _ aq.1 df)).2 b gh
theorem mH {t n sz : Nat} {parts : List (Nat × Operand)} {vs : List Value} {zs : List (Nat × bI)} {r : List AC} [S : h5 P t sz] [Z : o7 P t vs] (hw : want ops ⟨some d, .buildSlice t n parts.toArray, ty, pos, after, guard⟩ s = some true) (aZ : mQ s.look parts = some zs) (ab : qh (xn n sz) (hN n sz vs) zs = some r)
  (h1 : (vs.all fun v => v.oneCell') = true) (hs : Nat.beq vs.length sz = true) (aH : Nat.blt 0 (n * sz) = true) (h2 : Nat.ble (n * sz) 16777216 = true) (aq : Nat.beq r.length (n * sz) = true) (cO : r.all AC.bb = true) (hd : Nat.blt d s.n = true) (h : bi P ops K rest (s.put (some d) (cM sz n r))) : bi P ops K (⟨some d, .buildSlice t n parts.toArray, ty, pos, after, guard⟩ :: rest) s := by
 refine Fh (av := cM sz n r) hw ⟨fun z zn => ?_, fun j ae => ll _ j ae, fun U ad W env he => ?_⟩ hd h
 ·simp only [Op.operands, List.mem_toArray, ir] at zn;obtain ⟨p, hp, rfl⟩ := zn;obtain ⟨z, h1, _⟩ := HN parts zs aZ p hp;exact ⟨_, h1⟩
 ·obtain ⟨e, i, hu, hi, bW⟩ := my S.h;have dE := Z.h;unfold xA at dE;rw [hu] at dE;simp only at dE;unfold zeroOf at dE;rw [hi] at dE;simp only [j2] at dE;cases hk : i.zero with
  | none => rw [hk] at dE; cases dE
  | some z =>
   rw [hk] at dE;cases dE;have hlen : z.cells.toList.length = sz := gZ hs;have yG : 0 < n * sz := by simpa [Nat.blt_eq] using aH
   have wI : n * sz ≤ 16777216 := by simpa [Nat.ble_eq] using h2
   have CN : r.length = n * sz := gZ aq;have rN : ∀ y ∈ r, y.bb = true := ct.1 cO;have r0 : (zeroValue e).run P W = .ok z W := by simp [zeroValue, typeInfo, program, Sem.run_bind, Sem.run, hi, Result.andThen, hk]
   have jx : bV U ad W (hN n sz z.cells.toList) ((List.range (n * sz)).map fun j => z.cells[j % z.cells.size]!) := by
    refine ⟨by simp [hN], fun j x v aa hv => ?_⟩;have ae : j < n * sz := by have := (bX.1 hv).1; simpa using this
    simp only [hN, eG, List.getElem?_range ae, gL, hK] at aa hv;subst aa; subst hv;have va : z.cells.size = sz := by simpa using hlen
    have G5 : 0 < sz := Nat.pos_of_mul_pos_left yG |> fun h => by
     rcases vx sz with q | q
     ·rw [q] at yG; simp at yG
     ·exact q
    have bj : j % z.cells.size < z.cells.size := Nat.mod_lt _ (by omega);have aO : z.cells.toList.toArray[j % z.cells.toList.length]! = z.cells[j % z.cells.size]! := by simp
    refine ⟨aO.symm, ?_⟩;rw [aO, getElem!_pos z.cells _ bj];exact ct.1 h1 _ (by simp)
   obtain ⟨us, g1, g2⟩ := yD (U := U) (ad := ad) (W := W) (ps := xn n sz) (place := fun i => some (i * sz, sz)) (fun i q al => by
     simp only [xn, eG] at al;cases aq : (List.range n)[i]? with
     | none => rw [aq] at al; cases al
     | some m =>
      rw [aq] at al;cases al;have := bX.1 aq;obtain ⟨ap, aL⟩ := this;simp at aL;rw [aL]) (look := s.look) (env := env) parts _ _ zs r jx aZ (fun p hp a aK => he p.2 (by simp only [Op.operands, List.mem_toArray, ir]; exact ⟨p, hp, rfl⟩) a aK) ab
   refine ⟨.slice (some ⟨W.heap.size, 0, none⟩) n n, W.alloc (.cells us.toArray e), ?_, ⟨⟨some ⟨W.heap.size, 0, none⟩, n, rfl, dW _, CN, fun aE => ⟨_, us, rfl, TC g2 rN⟩⟩, ?_⟩, (Below.refl _ _).alloc (dW _) _⟩
   ·have tz : (parts.toArray.map fun (i, x) => (i, env x)).toList = parts.map fun p => (p.1, env p.2) := by simp
    have cD : (Array.range (n * sz)).map (fun j => z.cells[j % z.cells.size]!) = ((List.range (n * sz)).map fun j => z.cells[j % z.cells.size]!).toArray := by simp [← List.toArray_range]
    simp only [execOp, Instr.buildSlice, Sem.run_bind, run_underlying hu, Result.andThen_ok, hq hi, bW];rw [if_neg (by omega), if_neg (by omega)];simp only [Sem.run_bind, Sem.run_pure, r0, Result.andThen_ok, cD, tz, g1, newRow, newObj, Sem.run];rfl
   ·rintro b ⟨c, a, e, aE, ab⟩;cases e;exact TD g2 ab
end
def jY {α : Type} : List (Nat × α) → Nat → Option α
 | [], _ => none
 | (k, v) :: r, t => bif Nat.beq t k then some v else jY r t
def tI (n : Nat) (aS : List (Nat × aj)) (bF : List (Nat × List AC)) : aC := ⟨n, jY aS, jY bF⟩
def n3 {α : Type} (f : Nat → Option α) : List (Nat × α) → Prop
 | [] => True
 | (k, v) :: r => f k = some v ∧ n3 f r
theorem Fl {α : Type} {f : Nat → Option α} : ∀ (l : List (Nat × α)), n3 f l → ∀ t v, jY l t = some v → f t = some v
 | [], _, t, v, h => by cases h
 | (k, u) :: r, aK, t, v, h => by
  simp only [jY] at h;cases ab : Nat.beq t k with
  | true => rw [ab] at h; cases h; rw [gZ ab]; exact aK.1
  | false => rw [ab] at h; exact Fl r aK.2 t v h
theorem Dp {s : aC} {n : Nat} {aS : List (Nat × aj)} {bF : List (Nat × List AC)} (aE : n = s.n) (aD : n3 s.tmps aS) (hm : n3 s.mem bF) : s.bp (tI n aS bF) :=
 ⟨aE, Fl aS aD, Fl bF hm⟩
def Da {α : Type} (bF : List (Nat × α)) (k : Nat) : Bool := bF.any fun p => Nat.beq k p.1
def Bo (bF : List (Nat × List AC)) : AC → Bool
 | .own k _ => Da bF k
 | _ => true
def TI (bF : List (Nat × List AC)) : aj → Bool
 | .w x => x.cells.all (Bo bF)
 | .cZ xs => xs.all fun x => x.cells.all (Bo bF)
def okB (aS : List (Nat × aj)) (bF : List (Nat × List AC)) : Bool := aS.all (fun p => TI bF p.2) && bF.all fun p => p.2.all (Bo bF)
theorem NG {α : Type} {k : Nat} : ∀ (bF : List (Nat × α)), Da bF k = true → ∃ v, jY bF k = some v
 | [], h => by cases h
 | (j, u) :: r, h => by
  simp only [Da, List.any_cons, qN] at h;simp only [jY];cases ab : Nat.beq k j with
  | true => exact ⟨u, rfl⟩
  | false => rw [ab] at h; exact NG r (by simpa [Da] using h)
theorem HL {α : Type} {k : Nat} {v : α} : ∀ (bF : List (Nat × α)), jY bF k = some v → (k, v) ∈ bF
 | [], h => by cases h
 | (j, u) :: r, h => by
  simp only [jY] at h;cases ab : Nat.beq k j with
  | true => rw [ab] at h; cases h; rw [gZ ab]; simp
  | false => rw [ab] at h; exact pI _ (HL r h)
theorem Fb {bF : List (Nat × List AC)} {x : AC} {j : Nat} (h : Bo bF x = true) (ae : x.owns j) : ∃ cs, jY bF j = some cs := by
 cases x with
 | c v => cases ae
 | p R => cases ae
 | own k o => cases ae; exact NG bF h
theorem HU {n : Nat} {aS : List (Nat × aj)} {bF : List (Nat × List AC)} (h : okB aS bF = true) : (tI n aS bF).cN := by
 unfold okB at h;rw [dS] at h;refine ⟨fun t av j aD ae => ?_, fun k cs x j af aa ae => ?_⟩
 ·have h1 := ct.1 h.1 _ (HL aS aD);cases av with
  | w x =>
   obtain ⟨y, ah, lP⟩ := ae;exact Fb (ct.1 h1 y ah) lP
  | cZ xs =>
   obtain ⟨z, aZ, y, ah, lP⟩ := ae;exact Fb (ct.1 (ct.1 h1 z aZ) y ah) lP
 ·have h1 := ct.1 h.2 _ (HL bF af);exact Fb (ct.1 h1 x aa) ae
section
variable {P : Program} {s : aC} {x : Code}
theorem wg {Q : Exit → aC → Prop} (N : Nat) (I : Nat → List (Nat × aj) → List (Nat × List AC) → Prop) (k : Nat) (aS : List (Nat × aj)) (bF : List (Nat × List AC)) (br : I k aS bF) (aE : N = s.n) (aD : n3 s.tmps aS) (hm : n3 s.mem bF) (ok : okB aS bF = true)
  (round : ∀ k aS bF, I k aS bF → okB aS bF = true → fp P x (rv (fun s' => ∃ k' oT oz, k' < k ∧ I k' oT oz ∧ N = s'.n ∧ n3 s'.tmps oT ∧ n3 s'.mem oz ∧ okB oT oz = true) Q) (tI N aS bF)) : fp P (.loop x) Q s := by
 refine Kt (fun k s => ∃ aS bF, I k aS bF ∧ okB aS bF = true ∧ s = tI N aS bF) k (tI N aS bF) (Dp aE aD hm) (HU ok) ⟨aS, bF, br, ok, rfl⟩ ?_;rintro k s ⟨aS, bF, br, ok, rfl⟩;intro dC B A ad a w ax;refine sG (round k aS bF br ok dC B A ad a w ax) ?_;rintro e a' w' ⟨s', bg, vr, cu, al⟩;refine ⟨s', bg, vr, cu, ?_⟩;cases e with
 | normal =>
  obtain ⟨k', oT, oz, h1, h2, ap, aL, dk, fV⟩ := al;exact ⟨k', h1, tI N oT oz, Dp ap aL dk, HU fV, oT, oz, h2, fV, rfl⟩
 | _ => exact al
def Ab (P : Program) (x : Code) (Q : Exit → aC → Prop) : Nat → aC → Prop
 | 0, _ => False
 | n + 1, s => fp P x (rv (Ab P x Q n) Q) s
theorem adX {Q : Exit → aC → Prop} {n : Nat} (h : fp P x (rv (Ab P x Q n) Q) s) : Ab P x Q (n + 1) s := h
theorem TJ (n : Nat) {Q : Exit → aC → Prop} (h : Ab P x Q n s) : fp P (.loop x) Q s := by
 intro ok;refine Kt (fun k s => s.cN ∧ Ab P x Q k s) n s ⟨rfl, fun _ _ h => h, fun _ _ h => h⟩ ok ⟨ok, h⟩ ?_ ok;rintro k s ⟨ok, h⟩;cases k with
 | zero => cases h
 | succ k =>
  intro dC B A ad a w ax;refine sG (h dC B A ad a w ax) ?_;rintro e a' w' ⟨s', bg, vr, cu, al⟩;refine ⟨s', bg, vr, cu, ?_⟩;cases e with
  | normal => exact ⟨k, Nat.lt_succ_self k, s', ⟨rfl, fun _ _ h => h, fun _ _ h => h⟩, vr, vr, al⟩
  | _ => exact al
end
def okW (x : bI) : Bool := x.cells.all fun y => match y with | .c v => v.oneCell' | _ => true
def B5 : List bI → Option (List Value)
 | [] => some []
 | x :: xs => match np x, B5 xs with
  | some v, some r => some (v :: r)
  | _, _ => none
def FX : aj → Option Value
 | .w x => np x
 | .cZ xs => match B5 xs with
  | some r => some (.tuple r.toArray)
  | none => none
def O0 : aj → Bool
 | .w x => okW x
 | .cZ xs => xs.all okW
section
variable {U : Nat → Prop} {ad : Nat → Nat} {W : World}
theorem Qg : ∀ (xs : List AC) (r : List Value), wA xs = some r → (xs.all fun y => match y with | .c v => v.oneCell' | _ => true) = true → bV U ad W xs r
 | [], r, h, _ => by cases h; exact ⟨rfl, fun i x v h => by simp at h⟩
 | .c v :: xs, r, h, ok => by
  simp only [wA] at h
  split at h
  ·rename_i a7 aq;cases h;simp only [j3, dS] at ok;have cw := Qg xs a7 aq ok.2;refine ⟨by simp [cw.1], fun i x u aa hu => ?_⟩;cases i with
   | zero => simp at aa hu; subst aa; subst hu; exact ⟨rfl, ok.1⟩
   | succ i => exact cw.2 i x u (by simpa using aa) (by simpa using hu)
  ·cases h
 | .own _ _ :: _, _, h, _ => by cases h
 | .p _ :: _, _, h, _ => by cases h
theorem Qj {x : bI} {u : Value} (h : np x = some u) (ok : okW x = true) : gC U ad W x u := by
 cases x with
 | one y => cases y with
  | c v => cases h; simp [okW, bI.cells] at ok; exact ⟨rfl, ok⟩
  | own => cases h
  | p => cases h
 | agg xs =>
  simp only [np] at h
  split at h
  ·rename_i r aq; cases h; exact ⟨r, rfl, Qg xs r aq ok⟩
  ·cases h
theorem Qh : ∀ (xs : List bI) (r : List Value), B5 xs = some r → xs.all okW = true → xs.length = r.length ∧ ∀ (i : Nat) (x : bI) (v : Value), xs[i]? = some x → r[i]? = some v → gC U ad W x v
 | [], r, h, _ => by cases h; exact ⟨rfl, fun i x v h => by simp at h⟩
 | x :: xs, r, h, ok => by
  simp only [B5] at h
  split at h
  ·rename_i v a7 hv aq;cases h;simp only [j3, dS] at ok;obtain ⟨h1, h2⟩ := Qh xs a7 aq ok.2;refine ⟨by simp [h1], fun i y u ah hu => ?_⟩;cases i with
   | zero => simp at ah hu; subst ah; subst hu; exact Qj hv ok.1
   | succ i => exact h2 i y u (by simpa using ah) (by simpa using hu)
  ·cases h
theorem IH {x : aj} {u : Value} (h : FX x = some u) (ok : O0 x = true) : c9 U ad W x u := by
 cases x with
 | w y => exact Qj h ok
 | cZ xs =>
  simp only [FX] at h
  split at h
  ·rename_i r aq; cases h; exact ⟨r, rfl, Qh xs r aq ok⟩
  ·cases h
end
theorem mS {P : Program} {f : FuncId} {args : List aj} {r : aj} (kv : List Value) (ca : Value) (he : args.map (fun x => match x with | .w y => np y | _ => none) = kv.map some) (aq : FX r = some ca) (jn : args.all aj.bb = true) (cj : r.bb = true) (ok : O0 r = true)
  (h : ∀ W, Calls P f kv.toArray W fun e bo => e = .returned ca ∧ Below W.heap.size W bo) : aR P f args r :=
 ac5 kv he jn cj fun W => (h W).mono fun e w' ⟨h1, h2⟩ => ⟨ca, h1, fun _ _ => IH aq ok, h2⟩
structure x0 where
 ty : List (Nat × Bool × Nat)
 zero : List (Nat × List Value)
 nr : List (Nat × List (Nat × Nat))
 mI : List (Nat × Nat × Nat)
 il : List (Nat × List (Nat × Nat))
def k6 {α : Type} (R : α → Prop) : List α → Prop
 | [] => True
 | a :: l => R a ∧ k6 R l
theorem qg {α : Type} {R : Nat × α → Prop} {k : Nat} {v : α} : ∀ (l : List (Nat × α)), k6 R l → jY l k = some v → R (k, v)
 | [], _, h => by cases h
 | (j, u) :: l, ao, h => by
  simp only [jY] at h;cases ab : Nat.beq k j with
  | true => rw [ab] at h; cases h; obtain rfl := gZ ab; exact ao.1
  | false => rw [ab] at h; exact qg l ao.2 h
class EZ (P : Program) (T : outParam x0) : Prop where
 ty : k6 (fun p => j5 P p.1 = some p.2) T.ty
 zero : k6 (fun p => zeroOf P p.1 = some p.2) T.zero
 nr : k6 (fun p => k6 (fun q => te P p.1 q.1 = some q.2) p.2) T.nr
 mI : k6 (fun p => Bw P p.1 = some p.2) T.mI
 il : k6 (fun p => DS P p.1 = some p.2) T.il
def PX (b : BinOp) (m n : Int) : Option Bool :=
 match b with
 | .lss => some (decide (m < n))
 | .leq => some (decide (m ≤ n))
 | .gtr => some (decide (n < m))
 | .geq => some (decide (n ≤ m))
 | .eql => some (decide (m = n))
 | .neq => some (!decide (m = n))
 | _ => none
def mq (T : x0) (s : aC) (d : Nat) : Op → Option aC
 | .move x => match s.look x with
  | some av => some (s.put (some d) av)
  | none => none
 | .assign x => match s.look x with
  | some av => some (s.put (some d) av)
  | none => none
 | .pick c x y => match s.look c, s.look x, s.look y with
  | some (.w (.one (.c (.bool true)))), some av, some _ => some (s.put (some d) av)
  | some (.w (.one (.c (.bool false)))), some _, some bv => some (s.put (some d) bv)
  | _, _, _ => none
 | .alloc t => match jY T.zero t, s.mem d with
  | some vs, none => bif vs.all fun v => v.oneCell' then some ((s.dX d (vs.map .c)).put (some d) (mA d 0)) else none
  | _, _ => none
 | .box _ x => match s.look x, s.mem d with
  | some (.w z), none => some ((s.dX d z.cells).put (some d) (mA d 0))
  | _, _ => none
 | .load t x => match s.look x with
  | some (.w (.one (.own k off))) => match s.mem k with
   | some cs => match jY T.ty t with
    | some (false, _) => match cs[off]? with
     | some y => some (s.put (some d) (.w (.one y)))
     | none => none
    | some (true, n) => match takeN cs off n with
     | some aU => some (s.put (some d) (.w (.agg aU)))
     | none => none
    | none => none
   | none => none
  | _ => none
 | .fieldAddr t x i => match s.look x with
  | some (.w (.one (.own k off))) => match jY T.nr t with
   | some l => match jY l i with
    | some hR => some (s.put (some d) (mA k (off + hR)))
    | none => none
   | none => none
  | _ => none
 | .indexAddr t x y => match s.look x, s.look y with
  | some (.w (.one (.own k off))), some (.w (.one (.c (.int _ i)))) => match jY T.mI t with
   | some (n, size) => bif decide (0 ≤ i) && decide (i < n) then some (s.put (some d) (mA k (off + i.toNat * size))) else none
   | none => none
  | _, _ => none
 | .extract x i => match s.look x with
  | some (.cZ xs) => match xs[i]? with
   | some y => some (s.put (some d) (.w y))
   | none => none
  | _ => none
 | .build t parts => match mQ s.look parts.toList, jY T.zero t, jY T.il t with
  | some zs, some vs, some ps => match qh ps (vs.map .c) zs with
   | some r => bif vs.all fun v => v.oneCell' then some (s.put (some d) (.w (.agg r))) else none
   | none => none
  | _, _, _ => none
 | .binOp b _ x y _ => match s.look x, s.look y with
  | some (.w (.one (.c (.int k m)))), some (.w (.one (.c (.int k' n)))) => match decEq k k' with
   | isTrue _ => match PX b m n with
    | some r => some (s.put (some d) (bE r))
    | none => none
   | isFalse _ => none
  | _, _ => none
 | .unOp .not _ x => match s.look x with
  | some (.w (.one (.c (.bool b)))) => some (s.put (some d) (bE (!b)))
  | _ => none
 | _ => none
def PZ (T : x0) (ops : Array Oper) (s : aC) (o : Oper) : Option aC :=
 match want ops o s with
 | some true => match o.dst with
  | some d => bif Nat.blt d s.n then mq T s d o.op else none
  | none => match o.op with
   | .store t x y => match s.look x, s.look y with
    | some (.w (.one (.own k off))), some (.w z) => match s.mem k, jY T.ty t with
     | some cs, some (_, n) => bif Nat.beq n z.cells.length then (match oK cs off z.cells with
      | some ds => some (s.dX k ds)
      | none => none) else none
     | _, _ => none
    | _, _ => none
   | _ => none
 | some false => match o.dst with
  | some d => bif Nat.blt d s.n then some (s.put (some d) (.cZ [])) else none
  | none => some s
 | none => none
section
variable {P : Program} {T : x0} {s s' : aC} {ops : Array Oper} {K : aC → Prop} {rest : List Oper}
theorem Tw [Q : EZ P T] {d ty : Nat} {op : Op} {pos : String} {after : Array Edge} {guard : Option (Nat × Bool)} (hw : want ops ⟨some d, op, ty, pos, after, guard⟩ s = some true) (hd : Nat.blt d s.n = true) (h : mq T s d op = some s') (k : bi P ops K rest s') :
  bi P ops K (⟨some d, op, ty, pos, after, guard⟩ :: rest) s := by
 cases op with
 | move x =>
  simp only [mq] at h
  split at h
  ·rename_i av aa; cases h; exact Tq hw aa hd k
  ·cases h
 | assign x =>
  simp only [mq] at h
  split at h
  ·rename_i av aa; cases h; exact S2 hw aa hd k
  ·cases h
 | pick c x y =>
  simp only [mq] at h
  split at h
  ·rename_i av bv ak aa ah; cases h; exact Tv hw ak aa ah hd k
  ·rename_i av bv ak aa ah; cases h; exact Tu hw ak ah aa hd k
  ·cases h
 | alloc t =>
  simp only [mq] at h
  split at h
  ·rename_i vs aZ hm;have dE := qg _ Q.zero aZ;cases h1 : (vs.all fun v => v.oneCell') with
   | true =>
    rw [h1] at h;cases h;have : Bn P t vs := ⟨dE⟩;exact S0 hw hm h1 hd k
   | false => rw [h1] at h; cases h
  ·cases h
 | box t x =>
  simp only [mq] at h
  split at h
  ·rename_i z aa hm; cases h; exact S3 hw aa hm hd k
  ·cases h
 | load t x =>
  simp only [mq] at h
  split at h
  ·rename_i j off aa
   split at h
   ·rename_i cs hm
    split at h
    ·rename_i n dZ;have yM := qg _ Q.ty dZ
     split at h
     ·rename_i y ak; cases h; have : fO P t false n := ⟨yM⟩; exact Tm hw aa hm ak hd k
     ·cases h
    ·rename_i n dZ;have yM := qg _ Q.ty dZ
     split at h
     ·rename_i aU ak; cases h; have : fO P t true n := ⟨yM⟩; exact Tn hw aa hm ak hd k
     ·cases h
    ·cases h
   ·cases h
  ·cases h
 | fieldAddr t x i =>
  simp only [mq] at h
  split at h
  ·rename_i j off aa
   split at h
   ·rename_i l ao
    split at h
    ·rename_i hR ar;have hF := qg _ (qg _ Q.nr ao) ar;cases h;have : mC P t i hR := ⟨hF⟩;exact Tf hw aa hd k
    ·cases h
   ·cases h
  ·cases h
 | indexAddr t x y =>
  simp only [mq] at h
  split at h
  ·rename_i j off gG i aa ah
   split at h
   ·rename_i n size dU;have yH := qg _ Q.mI dU;cases h1 : (decide (0 ≤ i) && decide (i < (n : Int))) with
    | true =>
     rw [h1] at h;cases h;rw [dS, cE, cE] at h1;have : Ji P t n size := ⟨yH⟩;exact Ti hw aa ah h1.1 h1.2 hd k
    | false => rw [h1] at h; cases h
   ·cases h
  ·cases h
 | extract x i =>
  simp only [mq] at h
  split at h
  ·rename_i xs aa
   split at h
   ·rename_i y ah; cases h; exact Tc hw aa ah hd k
   ·cases h
  ·cases h
 | build t parts =>
  simp only [mq] at h
  split at h
  ·rename_i zs vs ps aZ hv hp;have dE := qg _ Q.zero hv;have iH := qg _ Q.il hp
   split at h
   ·rename_i r aq;cases h1 : (vs.all fun v => v.oneCell') with
    | true =>
     rw [h1] at h;cases h;have : Bn P t vs := ⟨dE⟩;have : JF P t ps := ⟨iH⟩;have g : bi P ops K (⟨some d, .build t parts.toList.toArray, ty, pos, after, guard⟩ :: rest) s := S4 (by rw [Array.toArray_toList]; exact hw) aZ aq h1 hd k;rwa [Array.toArray_toList] at g
    | false => rw [h1] at h; cases h
   ·cases h
  ·cases h
 | binOp b c0 x y dK =>
  simp only [mq] at h
  split at h
  ·rename_i gG m ahK n aa ah
   split at h
   ·rename_i e he;subst e;cases b <;> simp only [PX] at h <;> cases h
    ·exact Tb hw aa ah hd k
    ·exact Tr hw aa ah hd k
    ·exact To hw aa ah hd k
    ·exact Tl hw aa ah hd k
    ·exact Th hw aa ah hd k
    ·exact Tg hw aa ah hd k
   ·cases h
  ·cases h
 | unOp u c0 x =>
  cases u <;> simp only [mq] at h <;> try (cases h; done)
  split at h
  ·rename_i b aa; cases h; exact Tt hw aa hd k
  ·cases h
 | _ => simp only [mq] at h; cases h
theorem aA [Q : EZ P T] {o : Oper} (h : PZ T ops s o = some s') (k : bi P ops K rest s') : bi P ops K (o :: rest) s := by
 obtain ⟨dst, op, ty, pos, after, guard⟩ := o;unfold PZ at h
 split at h
 ·rename_i hw;cases dst with
  | some d =>
   simp only at h;cases hd : Nat.blt d s.n with
   | true => rw [hd] at h; exact Tw hw hd h k
   | false => rw [hd] at h; cases h
  | none =>
   simp only at h
   split at h
   ·rename_i t x y
    split at h
    ·rename_i j off z aa ah
     split at h
     ·rename_i cs b n hm dZ;have yM := qg _ Q.ty dZ;cases aE : Nat.beq n z.cells.length with
      | true =>
       rw [aE] at h;simp only [cond_true] at h
       split at h
       ·rename_i ds hp;cases h;have : fO P t b n := ⟨yM⟩;exact Tz hw aa ah hm aE hp k
       ·cases h
      | false => rw [aE] at h; cases h
     ·cases h
    ·cases h
   ·cases h
 ·rename_i hw;cases dst with
  | some d =>
   simp only at h;cases hd : Nat.blt d s.n with
   | true => rw [hd] at h; cases h; exact Kl hw (fun d' e => by cases e; exact hd) k
   | false => rw [hd] at h; cases h
  | none => cases h; exact Kl hw (fun d' e => by cases e) k
 ·cases h
end
end Go.Proofs.YtpochbhajmbfdaaGreat
namespace Go.Proofs.YtpochbhajmbfdaaGreat
instance : fO ai 3 false 1 := ⟨by kernel_rfl⟩
instance : EU ai 3 .i64 := ⟨by kernel_rfl⟩
instance : fO ai 4 false 1 := ⟨by kernel_rfl⟩
instance : h5 ai 22 5 := ⟨by kernel_rfl⟩
instance : o7 ai 28 [.int .i64 0, .int .i64 0, .int .i64 0, .int .i64 0, .int .i64 0] := ⟨by kernel_rfl⟩
instance : h5 ai 28 5 := ⟨by kernel_rfl⟩
instance : fO ai 42 false 1 := ⟨by kernel_rfl⟩
instance : o7 ai 42 [.int .i64 0, .int .i64 0] := ⟨by kernel_rfl⟩
instance : h5 ai 42 2 := ⟨by kernel_rfl⟩
instance : o7 ai 43 [.slice none 0 0, .slice none 0 0] := ⟨by kernel_rfl⟩
instance : h5 ai 43 2 := ⟨by kernel_rfl⟩
instance : fO ai 45 true 10 := ⟨by kernel_rfl⟩
instance : mC ai 45 2 2 := ⟨by kernel_rfl⟩
instance : fO ai 51 false 1 := ⟨by kernel_rfl⟩
instance : o7 ai 51 [.int .i64 0] := ⟨by kernel_rfl⟩
instance : h5 ai 51 1 := ⟨by kernel_rfl⟩
instance : fO ai 53 true 2 := ⟨by kernel_rfl⟩
instance : mC ai 53 0 0 := ⟨by kernel_rfl⟩
instance : mC ai 53 1 1 := ⟨by kernel_rfl⟩
instance : fO ai 59 true 2 := ⟨by kernel_rfl⟩
instance : fO ai 61 true 2 := ⟨by kernel_rfl⟩
instance : mC ai 61 0 0 := ⟨by kernel_rfl⟩
instance : mC ai 61 1 1 := ⟨by kernel_rfl⟩
instance : fO ai 63 true 5 := ⟨by kernel_rfl⟩
instance : mC ai 63 0 0 := ⟨by kernel_rfl⟩
instance : mC ai 63 1 2 := ⟨by kernel_rfl⟩
instance : fO ai 91 true 5 := ⟨by kernel_rfl⟩
instance : o7 ai 96 [.int .i64 0, .int .i64 0, .int .i64 0, .int .i64 0] := ⟨by kernel_rfl⟩
instance : h5 ai 96 4 := ⟨by kernel_rfl⟩
instance : mC ai 98 1 1 := ⟨by kernel_rfl⟩
instance : fO ai 126 true 6 := ⟨by kernel_rfl⟩
instance : o7 ai 137 [.int .i64 0, .int .i64 0, .int .i64 0] := ⟨by kernel_rfl⟩
instance : h5 ai 137 3 := ⟨by kernel_rfl⟩
instance : fO ai 161 true 4 := ⟨by kernel_rfl⟩
instance : fO ai 163 true 13 := ⟨by kernel_rfl⟩
instance : fO ai 167 true 4 := ⟨by kernel_rfl⟩
instance : fO ai 216 true 4 := ⟨by kernel_rfl⟩
instance : fO ai 253 false 1 := ⟨by kernel_rfl⟩
instance : EU ai 253 .u64 := ⟨by kernel_rfl⟩
instance : o7 ai 256 [.slice none 0 0] := ⟨by kernel_rfl⟩
instance : h5 ai 256 1 := ⟨by kernel_rfl⟩
instance : o7 ai 257 [.slice none 0 0] := ⟨by kernel_rfl⟩
instance : h5 ai 257 1 := ⟨by kernel_rfl⟩
instance : fO ai 261 true 3 := ⟨by kernel_rfl⟩
instance : mC ai 261 1 2 := ⟨by kernel_rfl⟩
instance : fO ai 282 true 3 := ⟨by kernel_rfl⟩
instance : fO ai 284 true 10 := ⟨by kernel_rfl⟩
instance : fO ai 307 true 4 := ⟨by kernel_rfl⟩
instance : Enters ai 15 := ⟨by kernel_rfl⟩
instance : Enters ai 16 := ⟨by kernel_rfl⟩
instance : Enters ai 17 := ⟨by kernel_rfl⟩
instance : Enters ai 18 := ⟨by kernel_rfl⟩
instance : Enters ai 19 := ⟨by kernel_rfl⟩
instance : Enters ai 23 := ⟨by kernel_rfl⟩
instance : Enters ai 24 := ⟨by kernel_rfl⟩
instance : Enters ai 25 := ⟨by kernel_rfl⟩
instance : Enters ai 27 := ⟨by kernel_rfl⟩
instance : Enters ai 28 := ⟨by kernel_rfl⟩
instance : Enters ai 32 := ⟨by kernel_rfl⟩
instance : Enters ai 37 := ⟨by kernel_rfl⟩
instance : Enters ai 41 := ⟨by kernel_rfl⟩
instance : Enters ai 42 := ⟨by kernel_rfl⟩
instance : Enters ai 43 := ⟨by kernel_rfl⟩
instance : Enters ai 49 := ⟨by kernel_rfl⟩
instance : Enters ai 50 := ⟨by kernel_rfl⟩
instance : Enters ai 53 := ⟨by kernel_rfl⟩
instance : Enters ai 54 := ⟨by kernel_rfl⟩
instance : Enters ai 55 := ⟨by kernel_rfl⟩
instance : Enters ai 56 := ⟨by kernel_rfl⟩
instance : Enters ai 57 := ⟨by kernel_rfl⟩
instance : Enters ai 58 := ⟨by kernel_rfl⟩
instance : Enters ai 65 := ⟨by kernel_rfl⟩
instance : Enters ai 66 := ⟨by kernel_rfl⟩
instance : Enters ai 67 := ⟨by kernel_rfl⟩
instance : Enters ai 68 := ⟨by kernel_rfl⟩
instance : Enters ai 69 := ⟨by kernel_rfl⟩
instance : Enters ai 70 := ⟨by kernel_rfl⟩
instance : Enters ai 72 := ⟨by kernel_rfl⟩
instance : Enters ai 77 := ⟨by kernel_rfl⟩
instance : Enters ai 78 := ⟨by kernel_rfl⟩
instance : Enters ai 83 := ⟨by kernel_rfl⟩
instance : Enters ai 84 := ⟨by kernel_rfl⟩
instance : Enters ai 85 := ⟨by kernel_rfl⟩
instance : Enters ai 88 := ⟨by kernel_rfl⟩
instance : Enters ai 91 := ⟨by kernel_rfl⟩
instance : Enters ai 98 := ⟨by kernel_rfl⟩
instance : Enters ai 99 := ⟨by kernel_rfl⟩
instance : Enters ai 100 := ⟨by kernel_rfl⟩
instance : Enters ai 101 := ⟨by kernel_rfl⟩
instance : Enters ai 102 := ⟨by kernel_rfl⟩
instance : Enters ai 115 := ⟨by kernel_rfl⟩
instance : Enters ai 116 := ⟨by kernel_rfl⟩
instance : Enters ai 117 := ⟨by kernel_rfl⟩
instance : Enters ai 118 := ⟨by kernel_rfl⟩
instance : Enters ai 119 := ⟨by kernel_rfl⟩
instance : Enters ai 120 := ⟨by kernel_rfl⟩
instance : Enters ai 121 := ⟨by kernel_rfl⟩
instance : Enters ai 122 := ⟨by kernel_rfl⟩
instance : Enters ai 123 := ⟨by kernel_rfl⟩
instance : Enters ai 124 := ⟨by kernel_rfl⟩
instance : Enters ai 125 := ⟨by kernel_rfl⟩
instance : Enters ai 126 := ⟨by kernel_rfl⟩
instance : Enters ai 127 := ⟨by kernel_rfl⟩
instance : Enters ai 128 := ⟨by kernel_rfl⟩
instance : Enters ai 129 := ⟨by kernel_rfl⟩
instance : Enters ai 130 := ⟨by kernel_rfl⟩
instance : Enters ai 131 := ⟨by kernel_rfl⟩
instance : Enters ai 132 := ⟨by kernel_rfl⟩
instance : Enters ai 133 := ⟨by kernel_rfl⟩
instance : Enters ai 154 := ⟨by kernel_rfl⟩
instance : Enters ai 163 := ⟨by kernel_rfl⟩
instance : Enters ai 170 := ⟨by kernel_rfl⟩
instance : Enters ai 171 := ⟨by kernel_rfl⟩
instance : Enters ai 172 := ⟨by kernel_rfl⟩
instance : Enters ai 173 := ⟨by kernel_rfl⟩
instance : Enters ai 174 := ⟨by kernel_rfl⟩
instance : Enters ai 175 := ⟨by kernel_rfl⟩
instance : Enters ai 176 := ⟨by kernel_rfl⟩
instance : Enters ai 177 := ⟨by kernel_rfl⟩
instance : Enters ai 178 := ⟨by kernel_rfl⟩
instance : Enters ai 179 := ⟨by kernel_rfl⟩
instance : Enters ai 180 := ⟨by kernel_rfl⟩
instance : Enters ai 181 := ⟨by kernel_rfl⟩
instance : Enters ai 182 := ⟨by kernel_rfl⟩
instance : Enters ai 183 := ⟨by kernel_rfl⟩
instance : Enters ai 184 := ⟨by kernel_rfl⟩
instance : Enters ai 185 := ⟨by kernel_rfl⟩
instance : Enters ai 186 := ⟨by kernel_rfl⟩
instance : Enters ai 187 := ⟨by kernel_rfl⟩
instance : Enters ai 200 := ⟨by kernel_rfl⟩
instance : Enters ai 201 := ⟨by kernel_rfl⟩
instance : Enters ai 202 := ⟨by kernel_rfl⟩
instance : Enters ai 215 := ⟨by kernel_rfl⟩
instance : Enters ai 216 := ⟨by kernel_rfl⟩
instance : Enters ai 217 := ⟨by kernel_rfl⟩
instance : Enters ai 218 := ⟨by kernel_rfl⟩
instance : Enters ai 219 := ⟨by kernel_rfl⟩
instance : Enters ai 220 := ⟨by kernel_rfl⟩
instance : Enters ai 221 := ⟨by kernel_rfl⟩
instance : Enters ai 222 := ⟨by kernel_rfl⟩
instance : Enters ai 223 := ⟨by kernel_rfl⟩
instance : Enters ai 224 := ⟨by kernel_rfl⟩
instance : Enters ai 225 := ⟨by kernel_rfl⟩
instance : Enters ai 226 := ⟨by kernel_rfl⟩
instance : Enters ai 227 := ⟨by kernel_rfl⟩
instance : Enters ai 229 := ⟨by kernel_rfl⟩
instance : Enters ai 230 := ⟨by kernel_rfl⟩
instance : Enters ai 231 := ⟨by kernel_rfl⟩
instance : Enters ai 242 := ⟨by kernel_rfl⟩
instance : Enters ai 243 := ⟨by kernel_rfl⟩
instance : Enters ai 244 := ⟨by kernel_rfl⟩
instance : Enters ai 249 := ⟨by kernel_rfl⟩
instance : Enters ai 250 := ⟨by kernel_rfl⟩
instance : Enters ai 251 := ⟨by kernel_rfl⟩
instance : Enters ai 252 := ⟨by kernel_rfl⟩
instance : Enters ai 253 := ⟨by kernel_rfl⟩
instance : Enters ai 254 := ⟨by kernel_rfl⟩
instance : Enters ai 255 := ⟨by kernel_rfl⟩
instance : Enters ai 256 := ⟨by kernel_rfl⟩
instance : Enters ai 258 := ⟨by kernel_rfl⟩
instance : Enters ai 259 := ⟨by kernel_rfl⟩
instance : Enters ai 260 := ⟨by kernel_rfl⟩
instance : Enters ai 261 := ⟨by kernel_rfl⟩
instance : Enters ai 273 := ⟨by kernel_rfl⟩
instance : Enters ai 274 := ⟨by kernel_rfl⟩
instance : Enters ai 275 := ⟨by kernel_rfl⟩
instance : Enters ai 276 := ⟨by kernel_rfl⟩
instance : Enters ai 282 := ⟨by kernel_rfl⟩
instance : Enters ai 283 := ⟨by kernel_rfl⟩
instance : Enters ai 284 := ⟨by kernel_rfl⟩
instance : Enters ai 285 := ⟨by kernel_rfl⟩
instance : Enters ai 294 := ⟨by kernel_rfl⟩
instance : Enters ai 295 := ⟨by kernel_rfl⟩
def tab : x0 where
 ty := [(0, false, 1), (1, false, 1), (2, false, 1), (3, false, 1), (4, false, 1), (5, false, 1), (6, false, 1), (7, true, 4), (8, true, 4), (9, false, 1), (10, false, 1), (11, false, 1), (12, false, 1), (13, true, 2), (14, true, 2), (15, false, 1), (16, false, 1), (17, false, 1), (18, true, 1), (19, true, 1), (20, false, 1), (21, false, 1), (22, false, 1), (23, true, 2), (24, false, 1), (25, false, 1), (26, false, 1), (27, false, 1), (28, false, 1), (29, false, 1), (30, false, 1), (31, false, 1), (32, false, 1), (33, true, 11), (34, true, 11), (35, false, 1), (36, false, 1), (37, false, 1), (38, false, 1), (39, false, 1), (40, false, 1), (41, false, 1), (42, false, 1), (43, false, 1), (44, true, 10), (45, true, 10), (46, false, 1), (47, false, 1), (48, false, 1), (49, true, 2), (50, true, 2), (51, false, 1), (52, true, 2), (53, true, 2), (54, true, 2), (55, true, 2), (56, false, 1), (57, false, 1), (58, true, 2), (59, true, 2), (60, false, 1), (61, true, 2), (62, true, 5), (63, true, 5), (64, true, 2), (65, false, 1), (66, false, 1), (67, false, 1), (68, false, 1), (69, false, 1), (70, false, 1), (71, false, 1), (72, false, 1), (73, true, 4), (74, false, 1), (75, false, 1), (76, false, 1), (77, false, 1), (78, false, 1), (79, false, 1), (80, false, 1), (81, false, 1), (82, false, 1), (83, false, 1), (84, false, 1), (85, false, 1), (86, false, 1), (87, false, 1), (88, true, 4), (89, false, 1), (90, false, 1), (91, true, 5), (92, false, 1), (93, false, 1), (94, false, 1), (95, false, 1), (96, false, 1), (97, true, 13), (98, true, 13), (99, false, 1), (100, false, 1), (101, false, 1), (102, false, 1), (103, false, 1), (104, true, 4), (105, false, 1), (106, false, 1), (107, false, 1), (108, false, 1), (109, true, 2), (110, true, 2), (111, true, 4), (112, true, 4), (113, true, 9), (114, true, 9), (115, false, 1), (116, false, 1), (117, false, 1), (118, false, 1), (119, false, 1), (120, false, 1), (121, true, 13), (122, true, 13), (123, false, 1), (124, false, 1), (125, false, 1), (126, true, 6), (127, false, 1), (128, false, 1), (129, false, 1), (130, false, 1), (131, false, 1), (132, false, 1), (133, false, 1), (134, false, 1), (135, false, 1), (136, false, 1), (137, false, 1), (138, true, 1), (139, true, 1), (140, true, 2), (141, true, 2), (142, false, 1), (143, false, 1), (144, false, 1), (145, false, 1), (146, false, 1), (147, false, 1), (148, false, 1), (149, false, 1), (150, false, 1), (151, false, 1), (152, false, 1), (153, false, 1), (154, false, 1), (155, false, 1), (156, false, 1), (157, false, 1), (158, true, 2), (159, true, 2), (160, true, 4), (161, true, 4), (162, true, 13), (163, true, 13), (164, false, 1), (165, false, 1), (166, true, 4), (167, true, 4), (168, false, 1), (169, false, 1), (170, false, 1), (171, false, 1), (172, false, 1), (173, false, 1), (174, false, 1), (175, false, 1), (176, false, 1), (177, false, 1), (178, false, 1), (179, false, 1), (180, false, 1), (181, false, 1), (182, false, 1), (183, false, 1), (184, false, 1), (185, false, 1), (186, false, 1), (187, false, 1), (188, false, 1), (189, false, 1), (190, false, 1), (191, false, 1), (192, false, 1), (193, false, 1), (194, false, 1), (195, false, 1), (196, false, 1), (197, false, 1), (198, false, 1), (199, false, 1), (200, false, 1), (201, false, 1), (202, true, 6), (203, false, 1), (204, false, 1), (205, false, 1), (206, false, 1), (207, false, 1), (208, false, 1), (209, false, 1), (210, false, 1), (211, false, 1), (212, false, 1), (213, false, 1), (214, false, 1), (215, true, 4), (216, true, 4), (217, false, 1), (218, false, 1), (219, false, 1), (220, false, 1), (221, false, 1), (222, false, 1), (223, false, 1), (224, false, 1), (225, false, 1), (226, false, 1), (227, false, 1), (228, false, 1), (229, false, 1), (230, false, 1), (231, false, 1), (232, false, 1), (233, false, 1), (234, false, 1), (235, false, 1), (236, false, 1), (237, false, 1), (238, false, 1), (239, false, 1), (240, false, 1), (241, false, 1), (242, false, 1), (243, false, 1), (244, false, 1), (245, false, 1), (246, false, 1), (247, false, 1), (248, false, 1), (249, false, 1), (250, false, 1), (251, false, 1), (252, false, 1), (253, false, 1), (254, false, 1), (255, false, 1), (256, false, 1), (257, false, 1), (258, false, 1), (259, false, 1), (260, true, 3), (261, true, 3), (262, false, 1), (263, false, 1), (264, false, 1), (265, true, 5), (266, true, 5), (267, false, 1), (268, false, 1), (269, false, 1), (270, false, 1), (271, false, 1), (272, false, 1), (273, false, 1), (274, false, 1), (275, false, 1), (276, false, 1), (277, false, 1), (278, false, 1), (279, true, 6), (280, true, 6), (281, true, 3), (282, true, 3), (283, true, 10), (284, true, 10), (285, false, 1), (286, false, 1), (287, true, 4), (288, false, 1), (289, false, 1), (290, false, 1), (291, false, 1), (292, false, 1), (293, false, 1), (294, false, 1), (295, false, 1), (296, false, 1), (297, false, 1), (298, false, 1), (299, false, 1), (300, false, 1), (301, false, 1), (302, false, 1), (303, false, 1), (304, false, 1), (305, false, 1), (306, true, 4), (307, true, 4), (308, false, 1), (309, false, 1), (310, true, 2), (311, true, 2), (312, false, 1), (313, false, 1), (314, false, 1), (315, false, 1), (316, false, 1), (317, false, 1), (318, false, 1), (319, false, 1), (320, false, 1), (321, false, 1), (322, false, 1), (323, false, 1), (324, false, 1), (325, false, 1), (326, false, 1), (327, false, 1), (328, false, 1), (329, false, 1), (330, false, 1), (331, false, 1), (332, false, 1), (333, false, 1), (334, false, 1), (335, false, 1), (336, false, 1), (337, true, 4), (338, true, 4), (339, true, 0), (340, true, 0), (341, true, 0), (342, false, 1), (343, false, 1), (344, false, 1), (345, false, 1), (346, false, 1), (347, false, 1), (348, true, 11), (349, true, 11), (350, true, 1), (351, true, 1), (352, false, 1)]
 zero := [(1, [.nilFunc]), (2, [.int .i64 0]), (3, [.int .i64 0]), (4, [.bool false]), (5, [.int .u8 0]), (6, [.int .u8 0]), (7, [.int .i64 0, .int .i64 0, .bool false, .int .u8 0]), (8, [.int .i64 0, .int .i64 0, .bool false, .int .u8 0]), (9, [.string ByteArray.empty]), (10, [.string ByteArray.empty]), (11, [.string ByteArray.empty]), (12, [.int .u64 0]), (13, [.string ByteArray.empty, .int .u64 0]), (14, [.string ByteArray.empty, .int .u64 0]), (15, [.pointer none]), (16, [.pointer none]), (17, [.pointer none]), (18, [.pointer none]), (19, [.pointer none]), (20, [.nilIface]), (21, [.int .i32 0]), (22, [.slice none 0 0]), (23, [.int .i64 0, .int .i64 0]), (24, [.nilFunc]), (25, [.nilFunc]), (26, [.pointer none]), (27, [.nilFunc]), (28, [.slice none 0 0]), (29, [.nilFunc]), (30, [.nilFunc]), (31, [.slice none 0 0]), (32, [.slice none 0 0]), (33, [.slice none 0 0, .int .i64 0, .int .i64 0, .int .i64 0, .int .i64 0, .int .i64 0, .int .i64 0, .bool false, .slice none 0 0, .slice none 0 0, .slice none 0 0]), (34, [.slice none 0 0, .int .i64 0, .int .i64 0, .int .i64 0, .int .i64 0, .int .i64 0, .int .i64 0, .bool false, .slice none 0 0, .slice none 0 0, .slice none 0 0]), (35, [.nilFunc]), (37, [.nilFunc]), (38, [.nilFunc]), (39, [.nilFunc]), (40, [.nilFunc]), (41, [.nilFunc]), (42, [.slice none 0 0]), (43, [.slice none 0 0]), (44, [.int .i64 0, .int .i64 0, .int .i64 0, .int .i64 0, .int .i64 0, .int .i64 0, .bool false, .slice none 0 0, .slice none 0 0, .slice none 0 0]), (45, [.int .i64 0, .int .i64 0, .int .i64 0, .int .i64 0, .int .i64 0, .int .i64 0, .bool false, .slice none 0 0, .slice none 0 0, .slice none 0 0]), (46, [.nilFunc]), (47, [.nilFunc]), (48, [.nilFunc]), (49, [.int .i64 0, .slice none 0 0]), (50, [.int .i64 0, .slice none 0 0]), (51, [.slice none 0 0]), (52, [.slice none 0 0, .slice none 0 0]), (53, [.slice none 0 0, .slice none 0 0]), (54, [.slice none 0 0, .slice none 0 0]), (55, [.slice none 0 0, .slice none 0 0]), (56, [.nilFunc]), (57, [.nilFunc]), (58, [.int .i64 0, .int .i64 0]), (59, [.int .i64 0, .int .i64 0]), (60, [.nilFunc]), (61, [.int .i64 0, .int .i64 0]), (62, [.int .i64 0, .int .i64 0, .int .i64 0, .int .i64 0, .int .i64 0]), (63, [.int .i64 0, .int .i64 0, .int .i64 0, .int .i64 0, .int .i64 0]), (64, [.int .i64 0, .int .i64 0]), (65, [.nilFunc]), (66, [.nilFunc]), (67, [.nilFunc]), (68, [.nilFunc]), (69, [.nilFunc]), (70, [.slice none 0 0]), (71, [.nilFunc]), (72, [.nilFunc]), (73, [.int .i64 0, .int .i64 0, .int .i64 0, .int .i64 0]), (74, [.nilFunc]), (75, [.nilFunc]), (76, [.nilFunc]), (77, [.nilFunc]), (78, [.nilFunc]), (79, [.slice none 0 0]), (80, [.nilFunc]), (81, [.nilFunc]), (83, [.nilFunc]), (84, [.nilFunc]), (85, [.nilFunc]), (86, [.nilFunc]), (87, [.nilFunc]), (88, [.int .i64 0, .int .i64 0, .int .i64 0, .int .i64 0]), (89, [.nilFunc]), (90, [.nilFunc]), (91, [.int .i64 0, .int .i64 0, .int .i64 0, .int .i64 0, .int .i64 0]), (92, [.nilFunc]), (93, [.pointer none]), (94, [.nilFunc]), (95, [.nilFunc]), (96, [.slice none 0 0]), (97, [.slice none 0 0, .int .i64 0, .int .i64 0, .int .i64 0, .int .i64 0, .int .i64 0, .int .i64 0, .bool false, .slice none 0 0, .slice none 0 0, .slice none 0 0, .pointer none, .slice none 0 0]), (98, [.slice none 0 0, .int .i64 0, .int .i64 0, .int .i64 0, .int .i64 0, .int .i64 0, .int .i64 0, .bool false, .slice none 0 0, .slice none 0 0, .slice none 0 0, .pointer none, .slice none 0 0]), (99, [.nilFunc]), (100, [.nilFunc]), (101, [.nilFunc]), (102, [.nilFunc]), (103, [.nilFunc]), (104, [.nilFunc, .nilFunc, .nilFunc, .nilFunc]), (105, [.nilFunc]), (106, [.nilFunc]), (107, [.nilFunc]), (108, [.slice none 0 0]), (109, [.bool false, .slice none 0 0]), (110, [.bool false, .slice none 0 0]), (111, [.bool false, .slice none 0 0, .bool false, .slice none 0 0]), (112, [.bool false, .slice none 0 0, .bool false, .slice none 0 0]), (113, [.bool false, .slice none 0 0, .bool false, .slice none 0 0, .bool false, .slice none 0 0, .bool false, .slice none 0 0, .bool false]), (114, [.bool false, .slice none 0 0, .bool false, .slice none 0 0, .bool false, .slice none 0 0, .bool false, .slice none 0 0, .bool false]), (115, [.nilFunc]), (116, [.nilFunc]), (117, [.nilFunc]), (118, [.nilFunc]), (119, [.nilFunc]), (120, [.nilFunc]), (121, [.int .i64 0, .bool false, .slice none 0 0, .bool false, .slice none 0 0, .bool false, .slice none 0 0, .bool false, .slice none 0 0, .int .i64 0, .int .i64 0, .int .i64 0, .int .i64 0]), (122, [.int .i64 0, .bool false, .slice none 0 0, .bool false, .slice none 0 0, .bool false, .slice none 0 0, .bool false, .slice none 0 0, .int .i64 0, .int .i64 0, .int .i64 0, .int .i64 0]), (123, [.nilFunc]), (124, [.nilFunc]), (125, [.nilFunc]), (126, [.int .i64 0, .int .i64 0, .int .i64 0, .int .i64 0, .int .i64 0, .int .i64 0]), (127, [.nilFunc]), (128, [.nilFunc]), (129, [.nilFunc]), (130, [.nilFunc]), (131, [.nilFunc]), (132, [.nilFunc]), (133, [.nilFunc]), (134, [.nilFunc]), (135, [.nilFunc]), (136, [.nilFunc]), (137, [.slice none 0 0]), (138, [.slice none 0 0]), (139, [.slice none 0 0]), (140, [.slice none 0 0, .int .i64 0]), (141, [.slice none 0 0, .int .i64 0]), (142, [.nilFunc]), (143, [.nilFunc]), (144, [.nilFunc]), (145, [.nilFunc]), (146, [.nilFunc]), (147, [.nilFunc]), (148, [.nilFunc]), (149, [.nilFunc]), (150, [.nilFunc]), (152, [.nilFunc]), (154, [.nilFunc]), (155, [.nilFunc]), (156, [.nilFunc]), (157, [.int .u64 0]), (158, [.int .i64 0, .int .u64 0]), (159, [.int .i64 0, .int .u64 0]), (160, [.int .i64 0, .int .u64 0, .int .i64 0, .int .u64 0]), (161, [.int .i64 0, .int .u64 0, .int .i64 0, .int .u64 0]), (162, [.int .i64 0, .int .i64 0, .int .u64 0, .int .i64 0, .int .u64 0, .int .i64 0, .int .u64 0, .int .i64 0, .int .u64 0, .int .i64 0, .int .i64 0, .int .i64 0, .int .i64 0]), (163, [.int .i64 0, .int .i64 0, .int .u64 0, .int .i64 0, .int .u64 0, .int .i64 0, .int .u64 0, .int .i64 0, .int .u64 0, .int .i64 0, .int .i64 0, .int .i64 0, .int .i64 0]), (164, [.nilFunc]), (165, [.pointer none]), (166, [.int .i64 0, .int .i64 0, .int .i64 0, .int .i64 0]), (167, [.int .i64 0, .int .i64 0, .int .i64 0, .int .i64 0]), (168, [.nilFunc]), (170, [.nilFunc]), (171, [.nilFunc]), (172, [.nilFunc]), (173, [.nilFunc]), (175, [.nilFunc]), (176, [.nilFunc]), (177, [.nilFunc]), (178, [.nilFunc]), (179, [.nilFunc]), (180, [.nilFunc]), (181, [.nilFunc]), (182, [.nilFunc]), (183, [.nilFunc]), (184, [.nilFunc]), (185, [.slice none 0 0]), (186, [.nilFunc]), (187, [.nilFunc]), (188, [.nilFunc]), (189, [.nilFunc]), (190, [.nilFunc]), (191, [.nilFunc]), (193, [.nilFunc]), (194, [.nilFunc]), (195, [.nilFunc]), (196, [.nilFunc]), (197, [.nilFunc]), (198, [.nilFunc]), (199, [.int .i64 0]), (201, [.nilFunc]), (202, [.nilFunc, .nilFunc, .nilFunc, .nilFunc, .nilFunc, .nilFunc]), (203, [.nilFunc]), (204, [.nilFunc]), (205, [.nilFunc]), (207, [.nilFunc]), (208, [.nilFunc]), (210, [.nilFunc]), (211, [.nilFunc]), (212, [.nilFunc]), (214, [.nilFunc]), (215, [.int .i64 0, .int .i64 0, .int .i64 0, .int .i64 0]), (216, [.int .i64 0, .int .i64 0, .int .i64 0, .int .i64 0]), (217, [.nilFunc]), (218, [.nilFunc]), (219, [.nilFunc]), (220, [.nilFunc]), (221, [.nilFunc]), (222, [.nilFunc]), (223, [.nilFunc]), (224, [.nilFunc]), (225, [.nilFunc]), (226, [.nilFunc]), (227, [.nilFunc]), (228, [.nilFunc]), (229, [.nilFunc]), (230, [.nilFunc]), (231, [.nilFunc]), (232, [.nilFunc]), (233, [.nilFunc]), (234, [.nilFunc]), (236, [.nilFunc]), (237, [.nilFunc]), (238, [.slice none 0 0]), (239, [.nilFunc]), (240, [.nilFunc]), (241, [.nilFunc]), (242, [.nilFunc]), (243, [.nilFunc]), (244, [.nilFunc]), (245, [.nilFunc]), (247, [.nilFunc]), (248, [.nilFunc]), (250, [.nilFunc]), (251, [.nilFunc]), (252, [.nilFunc]), (253, [.int .u64 0]), (255, [.nilFunc]), (256, [.slice none 0 0]), (257, [.slice none 0 0]), (258, [.nilFunc]), (259, [.pointer none]), (260, [.int .i64 0, .int .i64 0, .int .i64 0]), (261, [.int .i64 0, .int .i64 0, .int .i64 0]), (262, [.nilFunc]), (263, [.nilFunc]), (264, [.nilFunc]), (265, [.int .i64 0, .int .i64 0, .int .i64 0, .int .i64 0, .int .i64 0]), (266, [.int .i64 0, .int .i64 0, .int .i64 0, .int .i64 0, .int .i64 0]), (267, [.nilFunc]), (268, [.map none]), (269, [.nilFunc]), (270, [.nilFunc]), (272, [.nilFunc]), (273, [.nilFunc]), (275, [.nilFunc]), (276, [.nilFunc]), (277, [.nilFunc]), (278, [.nilFunc]), (279, [.int .i64 0, .int .i64 0, .int .i64 0, .int .i64 0, .bool false, .bool false]), (280, [.int .i64 0, .int .i64 0, .int .i64 0, .int .i64 0, .bool false, .bool false]), (281, [.int .i64 0, .int .i64 0, .bool false]), (282, [.int .i64 0, .int .i64 0, .bool false]), (283, [.int .i64 0, .int .i64 0, .int .i64 0, .int .i64 0, .int .i64 0, .int .i64 0, .bool false, .int .i64 0, .int .i64 0, .bool false]), (284, [.int .i64 0, .int .i64 0, .int .i64 0, .int .i64 0, .int .i64 0, .int .i64 0, .bool false, .int .i64 0, .int .i64 0, .bool false]), (285, [.nilFunc]), (286, [.nilFunc]), (287, [.nilFunc, .nilFunc, .nilFunc, .nilFunc]), (288, [.int .u32 0]), (290, [.nilFunc]), (292, [.nilFunc]), (293, [.nilFunc]), (294, [.nilFunc]), (295, [.nilFunc]), (296, [.nilFunc]), (297, [.nilFunc]), (298, [.nilFunc]), (299, [.nilFunc]), (300, [.nilFunc]), (301, [.nilFunc]), (302, [.nilFunc]), (303, [.nilFunc]), (304, [.nilFunc]), (305, [.nilFunc]), (306, [.int .i64 0, .int .i64 0, .int .i64 0, .int .i64 0]), (307, [.int .i64 0, .int .i64 0, .int .i64 0, .int .i64 0]), (308, [.nilFunc]), (309, [.nilFunc]), (310, [.int .u64 0, .int .u64 0]), (311, [.int .u64 0, .int .u64 0]), (313, [.nilFunc]), (314, [.nilFunc]), (315, [.nilFunc]), (316, [.nilFunc]), (317, [.nilFunc]), (318, [.nilFunc]), (319, [.nilFunc]), (320, [.nilFunc]), (322, [.nilFunc]), (323, [.nilFunc]), (324, [.nilFunc]), (325, [.nilFunc]), (326, [.nilFunc]), (328, [.nilFunc]), (329, [.nilFunc]), (330, [.nilFunc]), (331, [.nilFunc]), (332, [.nilFunc]), (333, [.nilIface]), (334, [.nilIface]), (335, [.pointer none]), (336, [.nilFunc]), (337, [.pointer none, .pointer none, .pointer none, .string ByteArray.empty]), (338, [.pointer none, .pointer none, .pointer none, .string ByteArray.empty]), (339, []), (340, []), (341, []), (342, [.int .u8 0]), (343, [.int .u8 0]), (344, [.nilFunc]), (345, [.pointer none]), (346, [.int .i32 0]), (347, [.int .i32 0]), (348, [.int .u64 0, .int .u64 0, .int .u32 0, .int .u8 0, .int .u8 0, .int .u8 0, .int .u8 0, .nilFunc, .pointer none, .int .i32 0, .int .i32 0]), (349, [.int .u64 0, .int .u64 0, .int .u32 0, .int .u8 0, .int .u8 0, .int .u8 0, .int .u8 0, .nilFunc, .pointer none, .int .i32 0, .int .i32 0]), (350, [.string ByteArray.empty]), (351, [.string ByteArray.empty]), (352, [.pointer none])]
 nr := [(7, [(0, 0), (1, 1), (2, 2), (3, 3)]), (8, [(0, 0), (1, 1), (2, 2), (3, 3)]), (13, [(0, 0), (1, 1)]), (14, [(0, 0), (1, 1)]), (18, [(0, 0)]), (19, [(0, 0)]), (33, [(0, 0), (1, 1), (2, 2), (3, 3), (4, 4), (5, 5), (6, 6), (7, 7), (8, 8), (9, 9), (10, 10)]), (34, [(0, 0), (1, 1), (2, 2), (3, 3), (4, 4), (5, 5), (6, 6), (7, 7), (8, 8), (9, 9), (10, 10)]), (44, [(0, 0), (1, 1), (2, 2), (3, 3), (4, 4), (5, 5), (6, 6), (7, 7), (8, 8), (9, 9)]), (45, [(0, 0), (1, 1), (2, 2), (3, 3), (4, 4), (5, 5), (6, 6), (7, 7), (8, 8), (9, 9)]), (49, [(0, 0), (1, 1)]), (50, [(0, 0), (1, 1)]), (52, [(0, 0), (1, 1)]), (53, [(0, 0), (1, 1)]), (54, [(0, 0), (1, 1)]), (55, [(0, 0), (1, 1)]), (58, [(0, 0), (1, 1)]), (59, [(0, 0), (1, 1)]), (61, [(0, 0), (1, 1)]), (62, [(0, 0), (1, 2), (2, 4)]), (63, [(0, 0), (1, 2), (2, 4)]), (64, [(0, 0), (1, 1)]), (91, [(0, 0), (1, 2), (2, 4)]), (97, [(0, 0), (1, 1), (2, 11), (3, 12)]), (98, [(0, 0), (1, 1), (2, 11), (3, 12)]), (109, [(0, 0), (1, 1)]), (110, [(0, 0), (1, 1)]), (111, [(0, 0), (1, 2)]), (112, [(0, 0), (1, 2)]), (113, [(0, 0), (1, 4), (2, 8)]), (114, [(0, 0), (1, 4), (2, 8)]), (121, [(0, 0), (1, 1), (2, 5), (3, 9), (4, 11)]), (122, [(0, 0), (1, 1), (2, 5), (3, 9), (4, 11)]), (138, [(0, 0)]), (139, [(0, 0)]), (140, [(0, 0), (1, 1)]), (141, [(0, 0), (1, 1)]), (158, [(0, 0), (1, 1)]), (159, [(0, 0), (1, 1)]), (160, [(0, 0), (1, 2)]), (161, [(0, 0), (1, 2)]), (162, [(0, 0), (1, 1), (2, 5), (3, 9), (4, 11)]), (163, [(0, 0), (1, 1), (2, 5), (3, 9), (4, 11)]), (166, [(0, 0), (1, 2)]), (167, [(0, 0), (1, 2)]), (215, [(0, 0), (1, 2)]), (216, [(0, 0), (1, 2)]), (260, [(0, 0), (1, 2)]), (261, [(0, 0), (1, 2)]), (265, [(0, 0), (1, 4)]), (266, [(0, 0), (1, 4)]), (279, [(0, 0), (1, 2), (2, 4), (3, 5)]), (280, [(0, 0), (1, 2), (2, 4), (3, 5)]), (281, [(0, 0), (1, 1), (2, 2)]), (282, [(0, 0), (1, 1), (2, 2)]), (283, [(0, 0), (1, 2), (2, 4), (3, 7)]), (284, [(0, 0), (1, 2), (2, 4), (3, 7)]), (306, [(0, 0), (1, 2)]), (307, [(0, 0), (1, 2)]), (310, [(0, 0), (1, 1)]), (311, [(0, 0), (1, 1)]), (337, [(0, 0), (1, 1), (2, 2), (3, 3)]), (338, [(0, 0), (1, 1), (2, 2), (3, 3)]), (348, [(0, 0), (1, 1), (2, 2), (3, 3), (4, 4), (5, 5), (6, 6), (7, 7), (8, 8), (9, 9), (10, 10)]), (349, [(0, 0), (1, 1), (2, 2), (3, 3), (4, 4), (5, 5), (6, 6), (7, 7), (8, 8), (9, 9), (10, 10)]), (350, [(0, 0)]), (351, [(0, 0)])]
 mI := [(23, 2, 1), (73, 2, 2), (88, 4, 1), (104, 4, 1), (126, 6, 1), (202, 6, 1), (287, 4, 1), (339, 0, 1)]
 il := [(7, [(0, 1), (1, 1), (2, 1), (3, 1)]), (8, [(0, 1), (1, 1), (2, 1), (3, 1)]), (13, [(0, 1), (1, 1)]), (14, [(0, 1), (1, 1)]), (18, [(0, 1)]), (19, [(0, 1)]), (23, [(0, 1), (1, 1)]), (33, [(0, 1), (1, 1), (2, 1), (3, 1), (4, 1), (5, 1), (6, 1), (7, 1), (8, 1), (9, 1), (10, 1)]), (34, [(0, 1), (1, 1), (2, 1), (3, 1), (4, 1), (5, 1), (6, 1), (7, 1), (8, 1), (9, 1), (10, 1)]), (44, [(0, 1), (1, 1), (2, 1), (3, 1), (4, 1), (5, 1), (6, 1), (7, 1), (8, 1), (9, 1)]), (45, [(0, 1), (1, 1), (2, 1), (3, 1), (4, 1), (5, 1), (6, 1), (7, 1), (8, 1), (9, 1)]), (49, [(0, 1), (1, 1)]), (50, [(0, 1), (1, 1)]), (52, [(0, 1), (1, 1)]), (53, [(0, 1), (1, 1)]), (54, [(0, 1), (1, 1)]), (55, [(0, 1), (1, 1)]), (58, [(0, 1), (1, 1)]), (59, [(0, 1), (1, 1)]), (61, [(0, 1), (1, 1)]), (62, [(0, 2), (2, 2), (4, 1)]), (63, [(0, 2), (2, 2), (4, 1)]), (64, [(0, 1), (1, 1)]), (73, [(0, 2), (2, 2)]), (88, [(0, 1), (1, 1), (2, 1), (3, 1)]), (91, [(0, 2), (2, 2), (4, 1)]), (97, [(0, 1), (1, 10), (11, 1), (12, 1)]), (98, [(0, 1), (1, 10), (11, 1), (12, 1)]), (104, [(0, 1), (1, 1), (2, 1), (3, 1)]), (109, [(0, 1), (1, 1)]), (110, [(0, 1), (1, 1)]), (111, [(0, 2), (2, 2)]), (112, [(0, 2), (2, 2)]), (113, [(0, 4), (4, 4), (8, 1)]), (114, [(0, 4), (4, 4), (8, 1)]), (121, [(0, 1), (1, 4), (5, 4), (9, 2), (11, 2)]), (122, [(0, 1), (1, 4), (5, 4), (9, 2), (11, 2)]), (126, [(0, 1), (1, 1), (2, 1), (3, 1), (4, 1), (5, 1)]), (138, [(0, 1)]), (139, [(0, 1)]), (140, [(0, 1), (1, 1)]), (141, [(0, 1), (1, 1)]), (158, [(0, 1), (1, 1)]), (159, [(0, 1), (1, 1)]), (160, [(0, 2), (2, 2)]), (161, [(0, 2), (2, 2)]), (162, [(0, 1), (1, 4), (5, 4), (9, 2), (11, 2)]), (163, [(0, 1), (1, 4), (5, 4), (9, 2), (11, 2)]), (166, [(0, 2), (2, 2)]), (167, [(0, 2), (2, 2)]), (202, [(0, 1), (1, 1), (2, 1), (3, 1), (4, 1), (5, 1)]), (215, [(0, 2), (2, 2)]), (216, [(0, 2), (2, 2)]), (260, [(0, 2), (2, 1)]), (261, [(0, 2), (2, 1)]), (265, [(0, 4), (4, 1)]), (266, [(0, 4), (4, 1)]), (279, [(0, 2), (2, 2), (4, 1), (5, 1)]), (280, [(0, 2), (2, 2), (4, 1), (5, 1)]), (281, [(0, 1), (1, 1), (2, 1)]), (282, [(0, 1), (1, 1), (2, 1)]), (283, [(0, 2), (2, 2), (4, 3), (7, 3)]), (284, [(0, 2), (2, 2), (4, 3), (7, 3)]), (287, [(0, 1), (1, 1), (2, 1), (3, 1)]), (306, [(0, 2), (2, 2)]), (307, [(0, 2), (2, 2)]), (310, [(0, 1), (1, 1)]), (311, [(0, 1), (1, 1)]), (337, [(0, 1), (1, 1), (2, 1), (3, 1)]), (338, [(0, 1), (1, 1), (2, 1), (3, 1)]), (340, [(0, 0)]), (341, [(0, 0)]), (348, [(0, 1), (1, 1), (2, 1), (3, 1), (4, 1), (5, 1), (6, 1), (7, 1), (8, 1), (9, 1), (10, 1)]), (349, [(0, 1), (1, 1), (2, 1), (3, 1), (4, 1), (5, 1), (6, 1), (7, 1), (8, 1), (9, 1), (10, 1)]), (350, [(0, 1)]), (351, [(0, 1)])]
theorem wa {α β : Type} {g h : α → β} : ∀ l : List α, l.map g = l.map h → k6 (fun p => g p = h p) l
 | [], _ => trivial
 | a :: l, e => by
  rw [kU, kU, List.cons.injEq] at e;exact ⟨e.1, wa l e.2⟩
theorem Kn {α β γ : Type} {k : α → List γ} {g h : α → γ → β} : ∀ l : List α, (l.map fun p => (k p).map (g p)) = (l.map fun p => (k p).map (h p)) → k6 (fun p => k6 (fun q => g p q = h p q) (k p)) l
 | [], _ => trivial
 | a :: l, e => by
  rw [kU, kU, List.cons.injEq] at e;exact ⟨wa _ e.1, Kn l e.2⟩
theorem ae7 : k6 (fun p => j5 ai p.1 = some p.2) tab.ty := wa _ (by kernel_rfl)
theorem ae8 : k6 (fun p => zeroOf ai p.1 = some p.2) tab.zero := wa _ (by kernel_rfl)
theorem ae4 : k6 (fun p => Bw ai p.1 = some p.2) tab.mI := wa _ (by kernel_rfl)
theorem ae6 : k6 (fun p => DS ai p.1 = some p.2) tab.il := wa _ (by kernel_rfl)
theorem ae5 : k6 (fun p => k6 (fun q => te ai p.1 q.1 = some q.2) p.2) tab.nr := Kn _ (by kernel_rfl)
instance : EZ ai tab := ⟨ae7, ae8, ae5, ae4, ae6⟩
end Go.Proofs.YtpochbhajmbfdaaGreat
namespace Go.Proofs.YtpochbhajmbfdaaGreat
open Go.RowKit
section
variable {P : Program} {s : aC} {ops : Array Oper} {K : aC → Prop} {rest : List Oper} {ty : Nat} {pos : String} {after : Array Edge} {guard : Option (Nat × Bool)} {d : Nat}
theorem Kk {c0 : Nat} {x : Operand} {k : IntKind} {a c : Int} (hw : want ops ⟨some d, .unOp .neg c0 x, ty, pos, after, guard⟩ s = some true) (aa : s.look x = some (aQ (.int k a))) (ak : k.wrap (-a) = c) (hd : Nat.blt d s.n = true) (h : bi P ops K rest (s.put (some d) (aQ (.int k c)))) : bi P ops K (⟨some d, .unOp .neg c0 x, ty, pos, after, guard⟩ :: rest) s := by
 refine TA hw aa (fun W => ?_) rfl hd h;rw [← ak, show -a = 0 - a by omega];cases k <;> rfl
end
abbrev iS (l1 l2 h1 h2 : Int) : aj := .w (.agg [.c (.int .i64 l1), .c (.int .i64 l2), .c (.int .i64 h1), .c (.int .i64 h2)])
def dP (a b c d : Int) : Bool := decide (a = c) && decide (b = d)
theorem rG {a b c d : Int} : dP a b c d = true ↔ a = c ∧ b = d := by unfold dP; rw [dS, cE, cE]
def uO (a b c d a' bO c' d' : Int) : Bool := dP a b a' bO && dP c d c' d'
class AY (P : Program) (t : TypeId) : Prop where
 g : P.eqGuardType P.depth t = false
 h : ∀ (a b c d : Int) W, (Op.equalIn 10000 t (.agg #[.int .i64 a, .int .i64 b]) (.agg #[.int .i64 c, .int .i64 d])).run P W = .ok (dP a b c d) W
class Js (P : Program) (t : TypeId) : Prop where
 g : P.eqGuardType P.depth t = false
 h : ∀ (a b c d a' bO c' d' : Int) W, (Op.equalIn 10000 t (.agg #[.int .i64 a, .int .i64 b, .int .i64 c, .int .i64 d]) (.agg #[.int .i64 a', .int .i64 bO, .int .i64 c', .int .i64 d'])).run P W = .ok (uO a b c d a' bO c' d') W
theorem B3 {P : Program} {op : BinOp} {t : TypeId} {x y : Operand} {u v : Array Value} {W : World} (aw : P.eqGuardType P.depth t = false) : (eqGuard op t x y (.agg u) (.agg v)).run P W = .ok () W := by
 unfold eqGuard;cases op <;> first | rfl | simp [Sem.run_bind, program, Sem.run, Result.andThen, aw]
section
variable {P : Program} {s : aC} {ops : Array Oper} {K : aC → Prop} {rest : List Oper} {ty : Nat} {pos : String} {after : Array Edge} {guard : Option (Nat × Bool)} {d : Nat}
theorem v7 {t dK : Nat} {x y : Operand} {a b a' bO : Int} [E : AY P t] (hw : want ops ⟨some d, .binOp .eql t x y dK, ty, pos, after, guard⟩ s = some true) (aa : s.look x = some (bh a b)) (ah : s.look y = some (bh a' bO)) (hd : Nat.blt d s.n = true) (h : bi P ops K rest (s.put (some d) (bE (dP a b a' bO)))) : bi P ops K (⟨some d, .binOp .eql t x y dK, ty, pos, after, guard⟩ :: rest) s :=
 rp hw aa ah rfl rfl (fun W => B3 E.g) (fun W => by rw [run_eql_struct, E.h]; rfl) rfl hd h
theorem ya {t dK : Nat} {x y : Operand} {a b a' bO : Int} [E : AY P t] (hw : want ops ⟨some d, .binOp .neq t x y dK, ty, pos, after, guard⟩ s = some true) (aa : s.look x = some (bh a b)) (ah : s.look y = some (bh a' bO)) (hd : Nat.blt d s.n = true) (h : bi P ops K rest (s.put (some d) (bE (!dP a b a' bO)))) : bi P ops K (⟨some d, .binOp .neq t x y dK, ty, pos, after, guard⟩ :: rest) s :=
 rp hw aa ah rfl rfl (fun W => B3 E.g) (fun W => by rw [run_neq_struct, E.h]; rfl) rfl hd h
theorem S9 {t dK : Nat} {x y : Operand} {a b c e a' bO c' bw : Int} [E : Js P t] (hw : want ops ⟨some d, .binOp .eql t x y dK, ty, pos, after, guard⟩ s = some true) (aa : s.look x = some (iS a b c e)) (ah : s.look y = some (iS a' bO c' bw)) (hd : Nat.blt d s.n = true) (h : bi P ops K rest (s.put (some d) (bE (uO a b c e a' bO c' bw)))) : bi P ops K (⟨some d, .binOp .eql t x y dK, ty, pos, after, guard⟩ :: rest) s :=
 rp hw aa ah rfl rfl (fun W => B3 E.g) (fun W => by rw [run_eql_struct, E.h]; rfl) rfl hd h
end
theorem VD (a b c d : Int) (W : World) : (Op.equalIn 10000 59 (.agg #[.int .i64 a, .int .i64 b]) (.agg #[.int .i64 c, .int .i64 d])).run ai W = .ok (dP a b c d) W := by
 unfold dP
 go_simp
 by_cases h1 : a = c <;> by_cases h2 : b = d <;> simp [h1, h2]
instance ahA : AY ai 59 := ⟨by kernel_rfl, VD⟩
theorem VC (a b c d : Int) (W : World) : (Op.equalIn 10000 61 (.agg #[.int .i64 a, .int .i64 b]) (.agg #[.int .i64 c, .int .i64 d])).run ai W = .ok (dP a b c d) W := by
 unfold dP
 go_simp
 by_cases h1 : a = c <;> by_cases h2 : b = d <;> simp [h1, h2]
instance ahB : AY ai 61 := ⟨by kernel_rfl, VC⟩
end Go.Proofs.YtpochbhajmbfdaaGreat
