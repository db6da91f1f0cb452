/-
  My own texts, without what this claim does not need. My own text.
-/
import Derived.Tactics
import Derived.IntWalk
import Derived.Test.YtpochbhajmbfdaaGreatProg
import Derived.ProofKit
import Derived.Laws.StructEq
import Derived.Test.YtpochbhajmbfdaaGreatSLastK2
set_option maxRecDepth 100000
set_option maxHeartbeats 64000000
set_option linter.unusedVariables false
set_option linter.unusedSimpArgs false
set_option linter.unusedSectionVars false
open Go.Proofs.Tryz renaming prog → aj
namespace Go.Proofs.YtpochbhajmbfdaaGreat
open Go.RowKit
abbrev aQ (v : Value) : ai := .w (.one (.c v))
abbrev aW (n : Int) : ai := aQ (.int .i64 n)
abbrev bF (b : Bool) : ai := aQ (.bool b)
abbrev mu (k off : Nat) : ai := .w (.one (.own k off))
def j7 (P : Program) (ty : TypeId) : Option (Bool × Nat) :=
 match P.underlying ty, P.info? ty with
 | some (.struct _), some i | some (.array _ _), some i => some (true, i.size)
 | some _, some i => some (false, i.size)
 | _, _ => none
class fM (P : Program) (ty : TypeId) (agg : outParam Bool) (n : outParam Nat) : Prop where
 h : j7 P ty = some (agg, n)
def zeroOf (P : Program) (ty : TypeId) : Option (List Value) := ((P.info? ty).bind (·.zero)).map fun z => z.cells.toList
class Bk (P : Program) (ty : TypeId) (vs : outParam (List Value)) : Prop where
 h : zeroOf P ty = some vs
def th (P : Program) (ty : TypeId) (i : Nat) : Option Nat :=
 match P.underlying ty with
 | some (.struct bl) => (bl[i]?).bind fun f => (P.info? f.type).bind fun t => if t.size = 0 then none else some f.offset
 | _ => none
class p5 (P : Program) (ty : TypeId) (i : Nat) (off : outParam Nat) : Prop where
 h : th P ty i = some off
def Bs (P : Program) (ty : TypeId) : Option (Nat × Nat) :=
 match P.underlying ty with
 | some (.array n e) => (P.info? e).map fun t => (n, t.size)
 | _ => none
class Ja (P : Program) (ty : TypeId) (n size : outParam Nat) : Prop where
 h : Bs P ty = some (n, size)
def sG (P : Program) (ty : TypeId) : Option Nat :=
 match P.underlying ty with
 | some (.slice e) => (P.info? e).map fun t => t.size
 | _ => none
class hH (P : Program) (ty : TypeId) (size : outParam Nat) : Prop where
 h : sG P ty = some size
def DO (P : Program) (ty : TypeId) : Option (List (Nat × Nat)) :=
 match P.underlying ty with
 | some (.struct bl) => bl.toList.mapM fun f => (P.info? f.type).map fun t => (f.offset, t.size)
 | some (.array n e) => bif Nat.ble n 32 then (P.info? e).map fun t => (List.range n).map fun i => (i * t.size, t.size) else none
 | _ => none
class Jx (P : Program) (ty : TypeId) (ps : outParam (List (Nat × Nat))) : Prop where
 h : DO P ty = some ps
class ET (P : Program) (ty : TypeId) (k : outParam IntKind) : Prop where
 h : P.underlying ty = some (.int k)
class Enters (P : Program) (f : FuncId) : Prop where
 h : enters P f = true
def takeN : List AC → Nat → Nat → Option (List AC)
 | _, 0, 0 => some []
 | [], _, _ => none
 | c :: cs, 0, n + 1 => match takeN cs 0 n with
  | some r => some (c :: r)
  | none => none
 | _ :: cs, off + 1, n => takeN cs off n
def oJ : List AC → Nat → List AC → Option (List AC)
 | cs, 0, [] => some cs
 | [], _, _ => none
 | _ :: cs, 0, d :: ds => match oJ cs 0 ds with
  | some r => some (d :: r)
  | none => none
 | c :: cs, off + 1, ds => match oJ cs off ds with
  | some r => some (c :: r)
  | none => none
theorem Es : ∀ (cs : List AC) (off n : Nat) (r : List AC), takeN cs off n = some r → off + n ≤ cs.length ∧ (cs.drop off).take n = r
 | cs, 0, 0, r, h => by
  cases cs <;> (simp only [takeN, hR] at h; subst h; simp)
 | [], 0, n + 1, r, h => by simp [takeN] at h
 | [], off + 1, n, r, h => by cases n <;> simp [takeN] at h
 | c :: cs, 0, n + 1, r, h => by
  simp only [takeN] at h
  split at h
  ·rename_i a8 aq;cases h;have := Es cs 0 n a8 aq;simp at this ⊢;exact this
  ·cases h
 | c :: cs, off + 1, n, r, h => by
  have aC : takeN cs off n = some r := by cases n <;> simpa [takeN] using h
  have := Es cs off n r aC;exact ⟨by have := this.1; simp; omega, by simpa using this.2⟩
theorem zX : ∀ (cs : List AC) (off : Nat) (ds : List AC) (r : List AC), oJ cs off ds = some r → off + ds.length ≤ cs.length ∧ ey cs off ds = r
 | cs, 0, [], r, h => by
  cases cs <;> (simp only [oJ, hR] at h; subst h; simp [ey])
 | [], 0, d :: ds, r, h => by simp [oJ] at h
 | [], off + 1, ds, r, h => by cases ds <;> simp [oJ] at h
 | c :: cs, 0, d :: ds, r, h => by
  simp only [oJ] at h
  split at h
  ·rename_i a8 aq;cases h;have := zX cs 0 ds a8 aq;simp [ey] at this ⊢;exact this
  ·cases h
 | c :: cs, off + 1, ds, r, h => by
  simp only [oJ] at h
  split at h
  ·rename_i a8 aq;cases h;have := zX cs off ds a8 aq;simp [ey, Nat.add_right_comm] at this ⊢;exact this
  ·cases h
section
variable {P : Program} {s s' : aD} {o : Oper} {ops : Array Oper} {rest : List Oper} {K : aD → Prop}
theorem aB (h : K s) : bj P ops K [] s := h
theorem hX {hz : List (Nat × Nat)} (hs : hz.all (lV s) = true) (h : K s) : bj P ops (fun s => hz.all (lV s) = true ∧ K s) [] s := ⟨hs, h⟩
theorem qd {e : ck} (hw : want ops o s = some true) (he : eQ P s.n s.look s.mem o true e) (hd : ∀ d, o.dst = some d → d < s.n) (h : bj P ops K rest (e.on o.dst s)) : bj P ops K (o :: rest) s := ⟨true, hw, e, he, hd, h⟩
section
variable {d ty : Nat} {op : Op} {pos : String} {after : Array Edge} {guard : Option (Nat × Bool)}
theorem kI {d : Nat} (hd : Nat.blt d s.n = true) : ∀ d', some d = some d' → d' < s.n := fun d' e => by cases e; simpa [Nat.blt_eq] using hd
theorem Kd {dst : Option Nat} (hw : want ops ⟨dst, op, ty, pos, after, guard⟩ s = some false) (hd : ∀ d, dst = some d → Nat.blt d s.n = true) (h : bj P ops K rest (s.put dst (.cZ []))) : bj P ops K (⟨dst, op, ty, pos, after, guard⟩ :: rest) s :=
 ⟨false, hw, _, .skip, fun d e => by have := hd d e; simpa [Nat.blt_eq] using this, h⟩
theorem fO {av : ai} (hw : want ops ⟨some d, op, ty, pos, after, guard⟩ s = some true) (al : vN P s.look ⟨some d, op, ty, pos, after, guard⟩ av) (hd : Nat.blt d s.n = true) (h : bj P ops K rest (s.put (some d) av)) : bj P ops K (⟨some d, op, ty, pos, after, guard⟩ :: rest) s :=
 qd hw (.quiet av al) (kI hd) h
theorem Tm {x : Operand} {av : ai} (hw : want ops ⟨some d, .move x, ty, pos, after, guard⟩ s = some true) (aa : s.look x = some av) (hd : Nat.blt d s.n = true) (h : bj P ops K rest (s.put (some d) av)) : bj P ops K (⟨some d, .move x, ty, pos, after, guard⟩ :: rest) s := by
 refine fO hw ⟨fun _ _ h => (by cases h), fun y ag => ?_, fun U ad W env he => ⟨env x, rfl, he x (by simp [Op.operands]) av aa⟩, fun j ae => ⟨x, by simp [Op.operands], av, aa, ae⟩⟩ hd h;simp [Op.operands] at ag;subst ag;exact ⟨av, aa⟩
theorem SX {x : Operand} {av : ai} (hw : want ops ⟨some d, .assign x, ty, pos, after, guard⟩ s = some true) (aa : s.look x = some av) (hd : Nat.blt d s.n = true) (h : bj P ops K rest (s.put (some d) av)) : bj P ops K (⟨some d, .assign x, ty, pos, after, guard⟩ :: rest) s := by
 refine fO hw ⟨fun _ _ h => (by cases h), fun y ag => ?_, fun U ad W env he => ⟨env x, rfl, he x (by simp [Op.operands]) av aa⟩, fun j ae => ⟨x, by simp [Op.operands], av, aa, ae⟩⟩ hd h;simp [Op.operands] at ag;subst ag;exact ⟨av, aa⟩
theorem S7 {x : Operand} {i : Nat} {xs : List bG} {y : bG} (hw : want ops ⟨some d, .extract x i, ty, pos, after, guard⟩ s = some true) (aa : s.look x = some (.cZ xs)) (hi : xs[i]? = some y) (hd : Nat.blt d s.n = true) (h : bj P ops K rest (s.put (some d) (.w y))) : bj P ops K (⟨some d, .extract x i, ty, pos, after, guard⟩ :: rest) s := by
 refine fO (av := .w y) hw ⟨fun _ _ h => (by cases h), fun y ag => ?_, fun U ad W env he => ?_, fun j ae => ⟨x, by simp [Op.operands], _, aa, ⟨y, dF hi, ae⟩⟩⟩ hd h
 ·simp [Op.operands] at ag;subst ag;exact ⟨_, aa⟩
 ·obtain ⟨vs, e, an, hv⟩ := he x (by simp [Op.operands]) _ aa;have bi : i < vs.length := by rw [← an]; exact (bS.1 hi).1
  refine ⟨vs[i], ?_, hv i y _ hi (cm bi)⟩;simp only [execOp, Instr.extract, e];simp [bi]
theorem Ta {x : Operand} {pT i k off hK : Nat} [F : p5 P pT i hK] (hw : want ops ⟨some d, .fieldAddr pT x i, ty, pos, after, guard⟩ s = some true) (aa : s.look x = some (mu k off)) (hd : Nat.blt d s.n = true) (h : bj P ops K rest (s.put (some d) (mu k (off + hK)))) : bj P ops K (⟨some d, .fieldAddr pT x i, ty, pos, after, guard⟩ :: rest) s := by
 refine fO hw ⟨fun _ _ h => (by cases h), fun y ag => ?_, fun U ad W env he => ?_, fun j ae => ⟨x, by simp [Op.operands], _, aa, ?_⟩⟩ hd h
 ·simp [Op.operands] at ag;subst ag;exact ⟨_, aa⟩
 ·have hp : env x = .pointer (some ⟨ad k, off, none⟩) := he x (by simp [Op.operands]) _ aa;have hF := F.h;unfold th at hF
  split at hF
  ·rename_i bl hu;cases au : bl[i]? with
   | none => rw [au] at hF; cases hF
   | some f =>
    rw [au] at hF;simp only [j0] at hF;cases hi : P.info? f.type with
    | none => rw [hi] at hF; cases hF
    | some t =>
     rw [hi] at hF;simp only [j0] at hF
     split at hF
     ·cases hF
     ·rename_i cn;cases hF;refine ⟨.pointer (some ⟨ad k, off + f.offset, none⟩), ?_, rfl⟩;have kk : (⟨ad k, off, none⟩ : Addr).add f.offset = ⟨ad k, off + f.offset, none⟩ := by unfold Addr.add; split <;> simp_all
      simp only [execOp, Instr.fieldAt, hp, Instr.sureAddr, Sem.run_bind, Sem.run_pure, Result.andThen_ok, run_underlying hu, au, fieldPlace, hj hi, if_neg cn, kk]
  ·cases hF
 ·obtain ⟨y, ag, lM⟩ := ae;exact ⟨.own k off, by simp [bG.cells], by simp [bG.cells] at ag; subst ag; exact lM⟩
theorem Te {x y : Operand} {Fp k off n size : Nat} {gC : IntKind} {i : Int} [A : Ja P Fp n size] (hw : want ops ⟨some d, .indexAddr Fp x y, ty, pos, after, guard⟩ s = some true) (aa : s.look x = some (mu k off)) (ag : s.look y = some (aQ (.int gC i))) (aG : 0 ≤ i) (h1 : i < n) (hd : Nat.blt d s.n = true) (h : bj P ops K rest (s.put (some d) (mu k (off + i.toNat * size)))) : bj P ops K (⟨some d, .indexAddr Fp x y, ty, pos, after, guard⟩ :: rest) s := by
 refine fO hw ⟨fun _ _ h => (by cases h), fun z a6 => ?_, fun U ad W env he => ?_, fun j ae => ⟨x, by simp [Op.operands], _, aa, ?_⟩⟩ hd h
 ·simp [Op.operands] at a6;rcases a6 with rfl | rfl
  ·exact ⟨_, aa⟩
  ·exact ⟨_, ag⟩
 ·have hp : env x = .pointer (some ⟨ad k, off, none⟩) := he x (by simp [Op.operands]) _ aa;have hi : env y = .int gC i := (he y (by simp [Op.operands]) _ ag).1;have dS := A.h;unfold Bs at dS
  split at dS
  ·rename_i n' e hu;cases de : P.info? e with
   | none => rw [de] at dS; cases dS
   | some t =>
    rw [de] at dS;cases dS;refine ⟨.pointer (some ⟨ad k, off + i.toNat * t.size, none⟩), ?_, rfl⟩;have kk : (⟨ad k, off, none⟩ : Addr).add (i.toNat * t.size) = ⟨ad k, off + i.toNat * t.size, none⟩ := by unfold Addr.add; split <;> simp_all
    simp only [execOp, Instr.indexAt, hp, hi, asIntOf, Instr.sureAddr, Sem.run_bind, Sem.run_pure, Result.andThen_ok, run_underlying hu, hj de, if_pos (And.intro aG h1), kk]
  ·cases dS
 ·obtain ⟨y, ag, lM⟩ := ae;exact ⟨.own k off, by simp [bG.cells], by simp [bG.cells] at ag; subst ag; exact lM⟩
theorem afh {ty n : Nat} (h : j7 P ty = some (false, n)) {cs : List AC} {off : Nat} {y : AC} (ak : cs[off]? = some y) : pick P ty cs off = some (.one y) := by
 unfold j7 at h;unfold pick;cases hu : P.underlying ty with
 | none => rw [hu] at h; cases h
 | some D =>
  cases hi : P.info? ty with
  | none => rw [hu, hi] at h; cases D <;> cases h
  | some i =>
   rw [hu, hi] at h;cases D <;> first | (simp only [ak, gH]; done) | (exfalso; cases h)
theorem QM {ty n : Nat} (h : j7 P ty = some (true, n)) {cs aV : List AC} {off : Nat} (ak : takeN cs off n = some aV) : pick P ty cs off = some (.agg aV) := by
 obtain ⟨h1, h2⟩ := Es _ _ _ _ ak;unfold j7 at h;unfold pick
 split at h
 ·rename_i i hu hi; cases h; simp only [hu, hi, j0, if_pos h1, h2]
 ·rename_i i hu hi; cases h; simp only [hu, hi, j0, if_pos h1, h2]
 ·cases h
 ·cases h
theorem afg {ty n : Nat} {b : Bool} (h : j7 P ty = some (b, n)) : ∃ i, P.info? ty = some i ∧ i.size = n := by
 unfold j7 at h
 split at h
 ·rename_i i hu hi; cases h; exact ⟨i, hi, rfl⟩
 ·rename_i i hu hi; cases h; exact ⟨i, hi, rfl⟩
 ·rename_i i _ _ hu hi; cases h; exact ⟨_, hi, rfl⟩
 ·cases h
theorem Ti {x : Operand} {lt k off n : Nat} {cs : List AC} {y : AC} [T : fM P lt false n] (hw : want ops ⟨some d, .load lt x, ty, pos, after, guard⟩ s = some true) (aa : s.look x = some (mu k off)) (hm : s.mem k = some cs) (ak : cs[off]? = some y) (hd : Nat.blt d s.n = true) (h : bj P ops K rest (s.put (some d) (.w (.one y)))) : bj P ops K (⟨some d, .load lt x, ty, pos, after, guard⟩ :: rest) s :=
 qd hw (.load lt x k off cs _ rfl aa hm (afh T.h ak)) (kI hd) h
theorem Tj {x : Operand} {lt k off n : Nat} {cs aV : List AC} [T : fM P lt true n] (hw : want ops ⟨some d, .load lt x, ty, pos, after, guard⟩ s = some true) (aa : s.look x = some (mu k off)) (hm : s.mem k = some cs) (ak : takeN cs off n = some aV) (hd : Nat.blt d s.n = true) (h : bj P ops K rest (s.put (some d) (.w (.agg aV)))) : bj P ops K (⟨some d, .load lt x, ty, pos, after, guard⟩ :: rest) s :=
 qd hw (.load lt x k off cs _ rfl aa hm (QM T.h ak)) (kI hd) h
theorem Tv {x y : Operand} {st k off n : Nat} {b : Bool} {cs ds : List AC} {z : bG} [T : fM P st b n] (hw : want ops ⟨none, .store st x y, ty, pos, after, guard⟩ s = some true) (aa : s.look x = some (mu k off)) (ag : s.look y = some (.w z)) (hm : s.mem k = some cs) (aF : Nat.beq n z.cells.length = true) (hp : oJ cs off z.cells = some ds) (h : bj P ops K rest (s.dV k ds)) : bj P ops K (⟨none, .store st x y, ty, pos, after, guard⟩ :: rest) s := by
 obtain ⟨i, hi, hs⟩ := afg T.h;obtain ⟨h1, h2⟩ := zX _ _ _ _ hp;refine qd hw (.store st x y k off cs z i rfl aa ag hm hi (by rw [hs]; exact gS aF) h1) (fun d e => by cases e) ?_;simp only [ck.on, h2];exact h
theorem SV {hY : Nat} {vs : List Value} [Z : Bk P hY vs] (hw : want ops ⟨some d, .alloc hY, ty, pos, after, guard⟩ s = some true) (hm : s.mem d = none) (h1 : (vs.all fun v => v.oneCell') = true) (hd : Nat.blt d s.n = true) (h : bj P ops K rest ((s.dV d (vs.map .c)).put (some d) (mu d 0))) : bj P ops K (⟨some d, .alloc hY, ty, pos, after, guard⟩ :: rest) s := by
 have a6 := Z.h;unfold zeroOf at a6;cases hi : P.info? hY with
 | none => rw [hi] at a6; cases a6
 | some i =>
  rw [hi] at a6;simp only [j0] at a6;cases ha : i.zero with
  | none => rw [ha] at a6; cases a6
  | some z =>
   rw [ha] at a6;cases a6;exact qd hw (.new _ d rfl hm (.alloc hY i z _ rfl hi ha rfl h1)) (kI hd) h
theorem SY {Fy : Nat} {x : Operand} {z : bG} (hw : want ops ⟨some d, .box Fy x, ty, pos, after, guard⟩ s = some true) (aa : s.look x = some (.w z)) (hm : s.mem d = none) (hd : Nat.blt d s.n = true) (h : bj P ops K rest ((s.dV d z.cells).put (some d) (mu d 0))) : bj P ops K (⟨some d, .box Fy x, ty, pos, after, guard⟩ :: rest) s :=
 qd hw (.new _ d rfl hm (.box Fy x z rfl aa)) (kI hd) h
def wy : List AC → Option (List Value)
 | [] => some []
 | .c v :: xs => match wy xs with
  | some r => some (v :: r)
  | none => none
 | _ :: _ => none
def nf : bG → Option Value
 | .one (.c v) => some v
 | .one _ => none
 | .agg xs => match wy xs with
  | some r => some (.agg r.toArray)
  | none => none
theorem Lp {U : Nat → Prop} {ad : Nat → Nat} {W : World} : ∀ (xs : List AC) (vs r : List Value), bP U ad W xs vs → wy xs = some r → vs = r
 | [], vs, r, h, he => by cases he; have := h.1; exact mq this.symm
 | .c v :: xs, vs, r, h, he => by
  simp only [wy] at he
  split at he
  ·rename_i a8 aq;cases he;cases vs with
   | nil => have := h.1; cases this
   | cons u us =>
    have aG : u = v := (h.2 0 _ _ rfl rfl).1;have := Lp xs us a8 ⟨by have := h.1; simpa using this, fun i x w aa hw => h.2 (i + 1) x w (by simpa using aa) (by simpa using hw)⟩ aq;rw [aG, this]
  ·cases he
 | .own _ _ :: _, _, _, _, he => by cases he
 | .p _ :: _, _, _, _, he => by cases he
theorem B4 {U : Nat → Prop} {ad : Nat → Nat} {W : World} {x : bG} {v u : Value} (h : gx U ad W x v) (he : nf x = some u) : v = u := by
 cases x with
 | one y => cases y with
  | c w => cases he; exact h.1
  | own => cases he
  | p => cases he
 | agg xs =>
  simp only [nf] at he
  split at he
  ·rename_i r aq;cases he;obtain ⟨vs, rfl, an⟩ := h;rw [Lp xs vs r an aq]
  ·cases he
theorem iJ (v : Value) (j : Nat) : ¬ (aQ v).owns j := fun ⟨y, ag, h⟩ => by simp [bG.cells] at ag; subst ag; cases h
theorem rv {rB : BinOp} {c0 dI : Nat} {x y : Operand} {a b : bG} {im fl v : Value} (hw : want ops ⟨some d, .binOp rB c0 x y dI, ty, pos, after, guard⟩ s = some true) (aa : s.look x = some (.w a)) (ag : s.look y = some (.w b)) (h3 : nf a = some im) (lF : nf b = some fl)
  (aw : ∀ W, (eqGuard rB c0 x y im fl).run P W = .ok () W) (aq : ∀ W, (binOp rB c0 im fl).run P W = .ok v W) (h1 : v.oneCell' = true) (hd : Nat.blt d s.n = true) (h : bj P ops K rest (s.put (some d) (aQ v))) : bj P ops K (⟨some d, .binOp rB c0 x y dI, ty, pos, after, guard⟩ :: rest) s := by
 refine fO (av := aQ v) hw ⟨fun _ _ h => (by cases h), fun z a6 => ?_, fun U ad W env he => ⟨v, ?_, ⟨rfl, h1⟩⟩, fun j ae => absurd ae (iJ v j)⟩ hd h
 ·simp [Op.operands] at a6;rcases a6 with rfl | rfl
  ·exact ⟨_, aa⟩
  ·exact ⟨_, ag⟩
 ·have aI : env x = im := B4 (he x (by simp [Op.operands]) _ aa) h3;have aN : env y = fl := B4 (he y (by simp [Op.operands]) _ ag) lF;simp only [execOp, aI, aN, Sem.run_bind, aw, Result.andThen_ok, aq, Sem.run_pure]
theorem qb {rB : BinOp} {c0 dI : Nat} {x y : Operand} {k : IntKind} {a b : Int} {v : Value} (hw : want ops ⟨some d, .binOp rB c0 x y dI, ty, pos, after, guard⟩ s = some true) (aa : s.look x = some (aQ (.int k a))) (ag : s.look y = some (aQ (.int k b)))
  (aq : ∀ W, (binOp rB c0 (.int k a) (.int k b)).run P W = .ok v W) (h1 : v.oneCell' = true) (hd : Nat.blt d s.n = true) (h : bj P ops K rest (s.put (some d) (aQ v))) : bj P ops K (⟨some d, .binOp rB c0 x y dI, ty, pos, after, guard⟩ :: rest) s :=
 rv hw aa ag rfl rfl (fun W => by unfold eqGuard; cases rB <;> rfl) aq h1 hd h
theorem Tk {c0 dI : Nat} {x y : Operand} {k : IntKind} {a b : Int} (hw : want ops ⟨some d, .binOp .lss c0 x y dI, ty, pos, after, guard⟩ s = some true) (aa : s.look x = some (aQ (.int k a))) (ag : s.look y = some (aQ (.int k b))) (hd : Nat.blt d s.n = true) (h : bj P ops K rest (s.put (some d) (bF (decide (a < b))))) : bj P ops K (⟨some d, .binOp .lss c0 x y dI, ty, pos, after, guard⟩ :: rest) s :=
 qb hw aa ag (fun W => by cases k <;> rfl) rfl hd h
theorem Th {c0 dI : Nat} {x y : Operand} {k : IntKind} {a b : Int} (hw : want ops ⟨some d, .binOp .leq c0 x y dI, ty, pos, after, guard⟩ s = some true) (aa : s.look x = some (aQ (.int k a))) (ag : s.look y = some (aQ (.int k b))) (hd : Nat.blt d s.n = true) (h : bj P ops K rest (s.put (some d) (bF (decide (a ≤ b))))) : bj P ops K (⟨some d, .binOp .leq c0 x y dI, ty, pos, after, guard⟩ :: rest) s :=
 qb hw aa ag (fun W => by cases k <;> rfl) rfl hd h
theorem Td {c0 dI : Nat} {x y : Operand} {k : IntKind} {a b : Int} (hw : want ops ⟨some d, .binOp .gtr c0 x y dI, ty, pos, after, guard⟩ s = some true) (aa : s.look x = some (aQ (.int k a))) (ag : s.look y = some (aQ (.int k b))) (hd : Nat.blt d s.n = true) (h : bj P ops K rest (s.put (some d) (bF (decide (b < a))))) : bj P ops K (⟨some d, .binOp .gtr c0 x y dI, ty, pos, after, guard⟩ :: rest) s :=
 qb hw aa ag (fun W => by cases k <;> rfl) rfl hd h
theorem Tc {c0 dI : Nat} {x y : Operand} {k : IntKind} {a b : Int} (hw : want ops ⟨some d, .binOp .geq c0 x y dI, ty, pos, after, guard⟩ s = some true) (aa : s.look x = some (aQ (.int k a))) (ag : s.look y = some (aQ (.int k b))) (hd : Nat.blt d s.n = true) (h : bj P ops K rest (s.put (some d) (bF (decide (b ≤ a))))) : bj P ops K (⟨some d, .binOp .geq c0 x y dI, ty, pos, after, guard⟩ :: rest) s :=
 qb hw aa ag (fun W => by cases k <;> rfl) rfl hd h
theorem S6 {c0 dI : Nat} {x y : Operand} {k : IntKind} {a b : Int} (hw : want ops ⟨some d, .binOp .eql c0 x y dI, ty, pos, after, guard⟩ s = some true) (aa : s.look x = some (aQ (.int k a))) (ag : s.look y = some (aQ (.int k b))) (hd : Nat.blt d s.n = true) (h : bj P ops K rest (s.put (some d) (bF (decide (a = b))))) : bj P ops K (⟨some d, .binOp .eql c0 x y dI, ty, pos, after, guard⟩ :: rest) s :=
 qb hw aa ag (fun W => by cases k <;> rfl) rfl hd h
theorem Tn {c0 dI : Nat} {x y : Operand} {k : IntKind} {a b : Int} (hw : want ops ⟨some d, .binOp .neq c0 x y dI, ty, pos, after, guard⟩ s = some true) (aa : s.look x = some (aQ (.int k a))) (ag : s.look y = some (aQ (.int k b))) (hd : Nat.blt d s.n = true) (h : bj P ops K rest (s.put (some d) (bF (!decide (a = b))))) : bj P ops K (⟨some d, .binOp .neq c0 x y dI, ty, pos, after, guard⟩ :: rest) s :=
 qb hw aa ag (fun W => by cases k <;> rfl) rfl hd h
theorem fh {c0 dI : Nat} {x y : Operand} {k : IntKind} {a b c : Int} (hw : want ops ⟨some d, .binOp .add c0 x y dI, ty, pos, after, guard⟩ s = some true) (aa : s.look x = some (aQ (.int k a))) (ag : s.look y = some (aQ (.int k b))) (ak : k.wrap (a + b) = c) (hd : Nat.blt d s.n = true) (h : bj P ops K rest (s.put (some d) (aQ (.int k c)))) : bj P ops K (⟨some d, .binOp .add c0 x y dI, ty, pos, after, guard⟩ :: rest) s :=
 qb hw aa ag (fun W => by rw [← ak]; cases k <;> rfl) rfl hd h
theorem nX {c0 dI : Nat} {x y : Operand} {k : IntKind} {a b c : Int} (hw : want ops ⟨some d, .binOp .sub c0 x y dI, ty, pos, after, guard⟩ s = some true) (aa : s.look x = some (aQ (.int k a))) (ag : s.look y = some (aQ (.int k b))) (ak : k.wrap (a - b) = c) (hd : Nat.blt d s.n = true) (h : bj P ops K rest (s.put (some d) (aQ (.int k c)))) : bj P ops K (⟨some d, .binOp .sub c0 x y dI, ty, pos, after, guard⟩ :: rest) s :=
 qb hw aa ag (fun W => by rw [← ak]; cases k <;> rfl) rfl hd h
theorem sW {c0 dI : Nat} {x y : Operand} {k : IntKind} {a b c : Int} (hw : want ops ⟨some d, .binOp .mul c0 x y dI, ty, pos, after, guard⟩ s = some true) (aa : s.look x = some (aQ (.int k a))) (ag : s.look y = some (aQ (.int k b))) (ak : k.wrap (a * b) = c) (hd : Nat.blt d s.n = true) (h : bj P ops K rest (s.put (some d) (aQ (.int k c)))) : bj P ops K (⟨some d, .binOp .mul c0 x y dI, ty, pos, after, guard⟩ :: rest) s :=
 qb hw aa ag (fun W => by rw [← ak]; cases k <;> rfl) rfl hd h
theorem da {n : Int} (h : -9223372036854775808 ≤ n ∧ n < 9223372036854775808) : IntKind.i64.wrap n = n := IntWalk.i64_in n (by omega)
theorem Tp {c0 : Nat} {x : Operand} {b : Bool} (hw : want ops ⟨some d, .unOp .not c0 x, ty, pos, after, guard⟩ s = some true) (aa : s.look x = some (bF b)) (hd : Nat.blt d s.n = true) (h : bj P ops K rest (s.put (some d) (bF (!b)))) : bj P ops K (⟨some d, .unOp .not c0 x, ty, pos, after, guard⟩ :: rest) s := by
 refine fO (av := bF (!b)) hw ⟨fun _ _ h => (by cases h), fun z a6 => ?_, fun U ad W env he => ⟨.bool (!b), ?_, ⟨rfl, rfl⟩⟩, fun j ae => absurd ae (iJ _ j)⟩ hd h
 ·simp [Op.operands] at a6; subst a6; exact ⟨_, aa⟩
 ·have aI : env x = .bool b := (he x (by simp [Op.operands]) _ aa).1;simp only [execOp, aI, Sem.run_bind, Op.unary];rfl
theorem Tw {I1 : UnOp} {c0 : Nat} {x : Operand} {im v : Value} (hw : want ops ⟨some d, .unOp I1 c0 x, ty, pos, after, guard⟩ s = some true) (aa : s.look x = some (aQ im)) (aq : ∀ W, (Op.unary I1 im).run P W = .ok v W) (h1 : v.oneCell' = true) (hd : Nat.blt d s.n = true) (h : bj P ops K rest (s.put (some d) (aQ v))) : bj P ops K (⟨some d, .unOp I1 c0 x, ty, pos, after, guard⟩ :: rest) s := by
 refine fO (av := aQ v) hw ⟨fun _ _ h => (by cases h), fun z a6 => ?_, fun U ad W env he => ⟨v, ?_, ⟨rfl, h1⟩⟩, fun j ae => absurd ae (iJ v j)⟩ hd h
 ·simp [Op.operands] at a6; subst a6; exact ⟨_, aa⟩
 ·have aI : env x = im := (he x (by simp [Op.operands]) _ aa).1;simp only [execOp, aI, Sem.run_bind, aq, Result.andThen_ok, Sem.run_pure]
theorem S3 {src dst : Nat} {x : Operand} {im v : Value} (hw : want ops ⟨some d, .convert src dst x, ty, pos, after, guard⟩ s = some true) (aa : s.look x = some (aQ im)) (aq : ∀ W, (convert src dst im).run P W = .ok v W) (h1 : v.oneCell' = true) (hd : Nat.blt d s.n = true) (h : bj P ops K rest (s.put (some d) (aQ v))) : bj P ops K (⟨some d, .convert src dst x, ty, pos, after, guard⟩ :: rest) s := by
 refine fO (av := aQ v) hw ⟨fun _ _ h => (by cases h), fun z a6 => ?_, fun U ad W env he => ⟨v, ?_, ⟨rfl, h1⟩⟩, fun j ae => absurd ae (iJ v j)⟩ hd h
 ·simp [Op.operands] at a6; subst a6; exact ⟨_, aa⟩
 ·have aI : env x = im := (he x (by simp [Op.operands]) _ aa).1;simp only [execOp, aI, Sem.run_bind, aq, Result.andThen_ok, Sem.run_pure]
theorem Ff {src dst n : Nat} {b : Bool} {k k' : IntKind} {x : Operand} {a c : Int} [S : fM P src b n] [I : ET P dst k'] (hw : want ops ⟨some d, .convert src dst x, ty, pos, after, guard⟩ s = some true) (aa : s.look x = some (aQ (.int k a))) (ak : k'.wrap a = c) (hd : Nat.blt d s.n = true) (h : bj P ops K rest (s.put (some d) (aQ (.int k' c)))) : bj P ops K (⟨some d, .convert src dst x, ty, pos, after, guard⟩ :: rest) s := by
 refine S3 hw aa (fun W => ?_) rfl hd h
 have hs : ∃ D, P.underlying src = some D := by
  have := S.h;unfold j7 at this;cases hu : P.underlying src with
  | none => rw [hu] at this; cases this
  | some D => exact ⟨D, rfl⟩
 obtain ⟨D, hs⟩ := hs;unfold convert;simp only [Sem.run_bind, run_underlying hs, run_underlying I.h, Result.andThen_ok];rw [← ak];cases D <;> rfl
theorem Tr {c x y : Operand} {av : ai} (hw : want ops ⟨some d, .pick c x y, ty, pos, after, guard⟩ s = some true) (ak : s.look c = some (bF true)) (aa : s.look x = some av) {bv : ai} (ag : s.look y = some bv) (hd : Nat.blt d s.n = true) (h : bj P ops K rest (s.put (some d) av)) : bj P ops K (⟨some d, .pick c x y, ty, pos, after, guard⟩ :: rest) s := by
 refine fO hw ⟨fun _ _ h => (by cases h), fun z a6 => ?_, fun U ad W env he => ⟨env x, ?_, he x (by simp [Op.operands]) av aa⟩, fun j ae => ⟨x, by simp [Op.operands], av, aa, ae⟩⟩ hd h
 ·simp [Op.operands] at a6;rcases a6 with rfl | rfl | rfl
  ·exact ⟨_, ak⟩
  ·exact ⟨_, aa⟩
  ·exact ⟨_, ag⟩
 ·have aI : env c = .bool true := (he c (by simp [Op.operands]) _ ak).1;simp [execOp, aI, asBool]
theorem Tq {c x y : Operand} {av : ai} (hw : want ops ⟨some d, .pick c x y, ty, pos, after, guard⟩ s = some true) (ak : s.look c = some (bF false)) (aa : s.look y = some av) {bv : ai} (ag : s.look x = some bv) (hd : Nat.blt d s.n = true) (h : bj P ops K rest (s.put (some d) av)) : bj P ops K (⟨some d, .pick c x y, ty, pos, after, guard⟩ :: rest) s := by
 refine fO hw ⟨fun _ _ h => (by cases h), fun z a6 => ?_, fun U ad W env he => ⟨env y, ?_, he y (by simp [Op.operands]) av aa⟩, fun j ae => ⟨y, by simp [Op.operands], av, aa, ae⟩⟩ hd h
 ·simp [Op.operands] at a6;rcases a6 with rfl | rfl | rfl
  ·exact ⟨_, ak⟩
  ·exact ⟨_, ag⟩
  ·exact ⟨_, aa⟩
 ·have aI : env c = .bool false := (he c (by simp [Op.operands]) _ ak).1;simp [execOp, aI, asBool]
theorem vX {f : FuncId} {g : Operand} {aS : Array TypeId} {l : List Operand} {args : List ai} {r : ai} [E : Enters P f] (hw : want ops ⟨some d, .call ⟨.value g, l.toArray, aS⟩, ty, pos, after, guard⟩ s = some true) (aw : s.look g = some (aQ (.func (.func f) #[] #[]))) (aK : l.map s.look = args.map some) (hp : aX P f args r) (hd : Nat.blt d s.n = true) (h : bj P ops K rest (s.put (some d) r)) :
  bj P ops K (⟨some d, .call ⟨.value g, l.toArray, aS⟩, ty, pos, after, guard⟩ :: rest) s :=
 qd hw (.call f args r ⟨⟨_, g, rfl, rfl, .inl ⟨[], aw, by simpa using aK, rfl⟩⟩, E.h⟩ hp) (kI hd) h
theorem S1 {f : FuncId} {g : Operand} {aS : Array TypeId} {l : List Operand} {bs : List Value} {args : List ai} {r : ai} [E : Enters P f] (hw : want ops ⟨some d, .call ⟨.value g, l.toArray, aS⟩, ty, pos, after, guard⟩ s = some true) (aw : s.look g = some (aQ (.func (.func f) bs.toArray #[]))) (ab : bs.all Bx = true) (aK : l.map s.look = args.map some) (hp : aX P f (bs.map xi ++ args) r) (hd : Nat.blt d s.n = true) (h : bj P ops K rest (s.put (some d) r)) :
  bj P ops K (⟨some d, .call ⟨.value g, l.toArray, aS⟩, ty, pos, after, guard⟩ :: rest) s :=
 qd hw (.call f _ r ⟨⟨_, g, rfl, rfl, .inl ⟨bs, aw, by rw [List.toList_toArray, aK, List.map_append, List.map_map]; rfl, ab⟩⟩, E.h⟩ hp) (kI hd) h
theorem Ka {f : FuncId} {g : Operand} {aS : Array TypeId} {l : List Operand} {cs : List AC} {args : List ai} {r : ai} [E : Enters P f] (hw : want ops ⟨some d, .call ⟨.value g, l.toArray, aS⟩, ty, pos, after, guard⟩ s = some true) (aw : s.look g = some (.w (.one (.p (oU (.func f) cs))))) (aK : l.map s.look = args.map some) (hp : aX P f (args ++ cs.map fun x => .w (.one x)) r) (hd : Nat.blt d s.n = true) (h : bj P ops K rest (s.put (some d) r)) :
  bj P ops K (⟨some d, .call ⟨.value g, l.toArray, aS⟩, ty, pos, after, guard⟩ :: rest) s :=
 qd hw (.call f _ r ⟨⟨_, g, rfl, rfl, .inr ⟨cs, aw, by rw [List.toList_toArray, aK, List.map_append, List.map_map]; rfl⟩⟩, E.h⟩ hp) (kI hd) h
theorem x7 {fn : Fn} {x : Operand} {a : bG} {im : Value} (hw : want ops ⟨some d, .makeFunc fn #[x] #[], ty, pos, after, guard⟩ s = some true) (aa : s.look x = some (.w a)) (h3 : nf a = some im) (hd : Nat.blt d s.n = true) (h : bj P ops K rest (s.put (some d) (aQ (.func fn #[im] #[])))) : bj P ops K (⟨some d, .makeFunc fn #[x] #[], ty, pos, after, guard⟩ :: rest) s := by
 refine fO (av := aQ (.func fn #[im] #[])) hw ⟨fun _ _ h => (by cases h), fun z a6 => ?_, fun U ad W env he => ⟨.func fn #[im] #[], ?_, ⟨rfl, rfl⟩⟩, fun j ae => absurd ae (iJ _ j)⟩ hd h
 ·simp [Op.operands] at a6; subst a6; exact ⟨_, aa⟩
 ·have aI : env x = im := B4 (he x (by simp [Op.operands]) _ aa) h3;have em : (#[x] : Array Operand).map env = #[im] := by simp [aI]
  simp only [execOp, em, Array.map_empty, Instr.makeFunc, Sem.run_bind, Sem.run_pure, Result.andThen_ok]
theorem o4 {f : FuncId} {g : Operand} {aS : Array TypeId} {r : ai} [E : Enters P f] (hw : want ops ⟨some d, .call ⟨.value g, #[], aS⟩, ty, pos, after, guard⟩ s = some true) (aw : s.look g = some (aQ (.func (.func f) #[] #[]))) (hp : aX P f [] r) (hd : Nat.blt d s.n = true) (h : bj P ops K rest (s.put (some d) r)) : bj P ops K (⟨some d, .call ⟨.value g, #[], aS⟩, ty, pos, after, guard⟩ :: rest) s :=
 vX (l := []) hw aw rfl hp hd h
theorem fN {f : FuncId} {g : Operand} {aS : Array TypeId} {c7 : Operand} {a1 : ai} {r : ai} [E : Enters P f] (hw : want ops ⟨some d, .call ⟨.value g, #[c7], aS⟩, ty, pos, after, guard⟩ s = some true) (aw : s.look g = some (aQ (.func (.func f) #[] #[]))) (h1 : s.look c7 = some a1) (hp : aX P f [a1] r) (hd : Nat.blt d s.n = true) (h : bj P ops K rest (s.put (some d) r)) : bj P ops K (⟨some d, .call ⟨.value g, #[c7], aS⟩, ty, pos, after, guard⟩ :: rest) s :=
 vX (l := [c7]) hw aw (by simp [h1]) hp hd h
theorem dM {f : FuncId} {g : Operand} {aS : Array TypeId} {c7 dq : Operand} {a1 a2 : ai} {r : ai} [E : Enters P f] (hw : want ops ⟨some d, .call ⟨.value g, #[c7, dq], aS⟩, ty, pos, after, guard⟩ s = some true) (aw : s.look g = some (aQ (.func (.func f) #[] #[]))) (h1 : s.look c7 = some a1) (h2 : s.look dq = some a2) (hp : aX P f [a1, a2] r) (hd : Nat.blt d s.n = true) (h : bj P ops K rest (s.put (some d) r)) : bj P ops K (⟨some d, .call ⟨.value g, #[c7, dq], aS⟩, ty, pos, after, guard⟩ :: rest) s :=
 vX (l := [c7, dq]) hw aw (by simp [h1, h2]) hp hd h
theorem jP {f : FuncId} {g : Operand} {aS : Array TypeId} {c7 dq kz : Operand} {a1 a2 a3 : ai} {r : ai} [E : Enters P f] (hw : want ops ⟨some d, .call ⟨.value g, #[c7, dq, kz], aS⟩, ty, pos, after, guard⟩ s = some true) (aw : s.look g = some (aQ (.func (.func f) #[] #[]))) (h1 : s.look c7 = some a1) (h2 : s.look dq = some a2) (ap : s.look kz = some a3) (hp : aX P f [a1, a2, a3] r) (hd : Nat.blt d s.n = true) (h : bj P ops K rest (s.put (some d) r)) : bj P ops K (⟨some d, .call ⟨.value g, #[c7, dq, kz], aS⟩, ty, pos, after, guard⟩ :: rest) s :=
 vX (l := [c7, dq, kz]) hw aw (by simp [h1, h2, ap]) hp hd h
theorem nb {f : FuncId} {g : Operand} {aS : Array TypeId} {c7 dq kz mR : Operand} {a1 a2 a3 a4 : ai} {r : ai} [E : Enters P f] (hw : want ops ⟨some d, .call ⟨.value g, #[c7, dq, kz, mR], aS⟩, ty, pos, after, guard⟩ s = some true) (aw : s.look g = some (aQ (.func (.func f) #[] #[]))) (h1 : s.look c7 = some a1) (h2 : s.look dq = some a2) (ap : s.look kz = some a3) (aL : s.look mR = some a4) (hp : aX P f [a1, a2, a3, a4] r) (hd : Nat.blt d s.n = true) (h : bj P ops K rest (s.put (some d) r)) : bj P ops K (⟨some d, .call ⟨.value g, #[c7, dq, kz, mR], aS⟩, ty, pos, after, guard⟩ :: rest) s :=
 vX (l := [c7, dq, kz, mR]) hw aw (by simp [h1, h2, ap, aL]) hp hd h
theorem S0 {f : FuncId} {g : Operand} {aS : Array TypeId} {c7 dq kz mR EF : Operand} {a1 a2 a3 a4 a5 : ai} {r : ai} [E : Enters P f] (hw : want ops ⟨some d, .call ⟨.value g, #[c7, dq, kz, mR, EF], aS⟩, ty, pos, after, guard⟩ s = some true) (aw : s.look g = some (aQ (.func (.func f) #[] #[]))) (h1 : s.look c7 = some a1) (h2 : s.look dq = some a2) (ap : s.look kz = some a3) (aL : s.look mR = some a4) (dx : s.look EF = some a5) (hp : aX P f [a1, a2, a3, a4, a5] r) (hd : Nat.blt d s.n = true) (h : bj P ops K rest (s.put (some d) r)) : bj P ops K (⟨some d, .call ⟨.value g, #[c7, dq, kz, mR, EF], aS⟩, ty, pos, after, guard⟩ :: rest) s :=
 vX (l := [c7, dq, kz, mR, EF]) hw aw (by simp [h1, h2, ap, aL, dx]) hp hd h
def qf (ps : List (Nat × Nat)) : List AC → List (Nat × bG) → Option (List AC)
 | cs, [] => some cs
 | cs, (i, z) :: rest => match ps[i]? with
  | some (off, size) => bif Nat.beq size z.cells.length then match oJ cs off z.cells with
    | some r => qf ps r rest
    | none => none
   else none
  | none => none
def mI (look : Operand → Option ai) : List (Nat × Operand) → Option (List (Nat × bG))
 | [] => some []
 | (i, x) :: rest => match look x, mI look rest with
  | some (.w z), some r => some ((i, z) :: r)
  | _, _ => none
theorem LA (off : Nat) : ∀ (zs : List Value) (k : Nat) (mA : Array Value), off + k + zs.length ≤ mA.size → ((zs.zipIdx k).foldl (fun cs (c, j) => cs.setIfInBounds (off + j) c) mA).toList = mA.toList.take (off + k) ++ zs ++ mA.toList.drop (off + k + zs.length)
 | [], k, mA, _ => by simp
 | z :: zs, k, mA, h => by
  simp only [List.zipIdx_cons, sq];rw [LA off zs (k + 1) _ (by simp at h ⊢; omega)];have e := list_seg_step mA.toList (off + k) z zs (by simp at h ⊢; omega);simpa [Array.toList_setIfInBounds, Nat.add_assoc] using e
theorem yC {U : Nat → Prop} {ad : Nat → Nat} {W : World} {ps : List (Nat × Nat)} {place : Nat → Option (Nat × Nat)} (hp : ∀ i q, ps[i]? = some q → place i = some q) {look : Operand → Option ai} {env : Operand → Value} : ∀ (parts : List (Nat × Operand)) (cs : List AC) (vs : List Value) (zs : List (Nat × bG)) (r : List AC), bP U ad W cs vs → mI look parts = some zs → (∀ p ∈ parts, ∀ a, look p.2 = some a → dc U ad W a (env p.2)) → qf ps cs zs = some r →
  ∃ us : List Value, Instr.fill place vs.toArray (parts.map fun p => (p.1, env p.2)) = some us.toArray ∧ bP U ad W r us
 | [], cs, vs, zs, r, an, a6, _, ab => by cases a6; cases ab; exact ⟨vs, rfl, an⟩
 | (i, x) :: parts, cs, vs, zs, r, an, a6, he, ab => by
  simp only [mI] at a6
  split at a6
  ·rename_i z AD aa aq;cases a6;simp only [qf] at ab
   split at ab
   ·rename_i off size wX;cases wK : Nat.beq size z.cells.length with
    | false => rw [wK] at ab; cases ab
    | true =>
     rw [wK] at ab;simp only [cond_true] at ab
     split at ab
     ·rename_i ar G6;have a6 : gx U ad W z (env x) := he (i, x) (by simp) _ aa;have ol := a6.cells;obtain ⟨q1, q2⟩ := zX _ _ _ _ G6;have hs := gS wK;have yW : (env x).cells.size = z.cells.length := by have := ol.1; simp at this; exact this.symm
      have Mt := an.1;have lL := an.ey ol off q1;rw [q2] at lL;obtain ⟨us, g1, g2⟩ := yC hp parts ar _ AD r lL aq (fun p oe => he p (by simp [oe])) ab;refine ⟨us, ?_, g2⟩;simp only [kv, Instr.fill, hp i _ wX];rw [if_neg (by simp [yW, hs]; omega)];rw [← g1];congr 1;apply Array.ext';have := LA off (env x).cells.toList 0 vs.toArray (by simp [yW]; omega);rw [← Array.foldl_toList, Array.toList_zipIdx];simpa using this
     ·cases ab
   ·cases ab
  ·cases a6
theorem HL {look : Operand → Option ai} : ∀ (parts : List (Nat × Operand)) (zs : List (Nat × bG)), mI look parts = some zs → ∀ p ∈ parts, ∃ z, look p.2 = some (.w z) ∧ (p.1, z) ∈ zs
 | [], _, _, p, hp => by cases hp
 | (i, x) :: parts, zs, h, p, hp => by
  simp only [mI] at h
  split at h
  ·rename_i z AD aa aq;cases h;rcases gI.1 hp with rfl | hp
   ·exact ⟨z, aa, by simp⟩
   ·obtain ⟨afC, h1, h2⟩ := HL parts AD aq p hp;exact ⟨afC, h1, by simp [h2]⟩
  ·cases h
theorem NP {look : Operand → Option ai} : ∀ (parts : List (Nat × Operand)) (zs : List (Nat × bG)), mI look parts = some zs → ∀ q ∈ zs, ∃ p ∈ parts, look p.2 = some (.w q.2)
 | [], _, h, q, al => by cases h; cases al
 | (i, x) :: parts, zs, h, q, al => by
  simp only [mI] at h
  split at h
  ·rename_i z AD aa aq;cases h;rcases gI.1 al with rfl | al
   ·exact ⟨(i, x), by simp, aa⟩
   ·obtain ⟨p, h1, h2⟩ := NP parts AD aq q al;exact ⟨p, by simp [h1], h2⟩
  ·cases h
theorem ade {cs ds r : List AC} {off : Nat} (h : oJ cs off ds = some r) : ∀ x ∈ r, x ∈ cs ∨ x ∈ ds := by
 obtain ⟨_, rfl⟩ := zX _ _ _ _ h;intro x aa;unfold ey at aa;simp only [kt] at aa;rcases aa with (h1 | h1) | h1
 ·exact .inl (oM h1)
 ·exact .inr h1
 ·exact .inl (mO h1)
theorem Kv {ps : List (Nat × Nat)} : ∀ (zs : List (Nat × bG)) (cs r : List AC), qf ps cs zs = some r → ∀ x ∈ r, x ∈ cs ∨ ∃ q ∈ zs, x ∈ q.2.cells
 | [], cs, r, h, x, aa => by cases h; exact .inl aa
 | (i, z) :: zs, cs, r, h, x, aa => by
  simp only [qf] at h
  split at h
  ·rename_i off size wX;cases wK : Nat.beq size z.cells.length with
   | false => rw [wK] at h; cases h
   | true =>
    rw [wK] at h;simp only [cond_true] at h
    split at h
    ·rename_i ar G6;rcases Kv zs ar r h x aa with h1 | ⟨q, h1, h2⟩
     ·rcases ade G6 x h1 with h2 | h2
      ·exact .inl h2
      ·exact .inr ⟨(i, z), by simp, h2⟩
     ·exact .inr ⟨q, by simp [h1], h2⟩
    ·cases h
  ·cases h
theorem Qh {α β : Type} {f : α → Sem β} {W : World} : ∀ (l : List α) (vs : List β), l.length = vs.length → (∀ (i : Nat) x v, l[i]? = some x → vs[i]? = some v → (f x).run P W = .ok v W) → (l.mapM f).run P W = .ok vs W
 | [], [], _, _ => rfl
 | [], _ :: _, h, _ => by cases h
 | _ :: _, [], h, _ => by cases h
 | x :: l, v :: vs, an, h => by
  have aG := h 0 x v rfl rfl;have cp := Qh l vs (by simpa using an) (fun i x v aa hv => h (i + 1) x v (by simpa using aa) (by simpa using hv));rw [List.mapM_cons];simp only [Sem.run_bind, aG, Result.andThen_ok, cp];rfl
theorem NY {α β : Type} {f : α → Option β} : ∀ (l : List α) (vs : List β), l.mapM f = some vs → l.length = vs.length ∧ ∀ (i : Nat) x v, l[i]? = some x → vs[i]? = some v → f x = some v
 | [], vs, h => by cases h; exact ⟨rfl, fun i x v aa => by simp at aa⟩
 | a :: l, vs, h => by
  rw [List.mapM_cons] at h;cases aK : f a with
  | none => rw [aK] at h; cases h
  | some b =>
   rw [aK] at h;cases an : l.mapM f with
   | none => rw [an] at h; cases h
   | some bs =>
    rw [an] at h;cases h;obtain ⟨h1, h2⟩ := NY l bs an;refine ⟨by simp [h1], fun i x v aa hv => ?_⟩;cases i with
    | zero => simp at aa hv; subst aa; subst hv; exact aK
    | succ i => exact h2 i x v (by simpa using aa) (by simpa using hv)
theorem SZ {t : Nat} {parts : List (Nat × Operand)} {vs : List Value} {ps : List (Nat × Nat)} {zs : List (Nat × bG)} {r : List AC} [Z : Bk P t vs] [L : Jx P t ps] (hw : want ops ⟨some d, .build t parts.toArray, ty, pos, after, guard⟩ s = some true) (a6 : mI s.look parts = some zs) (ab : qf ps (vs.map .c) zs = some r) (h1 : (vs.all fun v => v.oneCell') = true) (hd : Nat.blt d s.n = true) (h : bj P ops K rest (s.put (some d) (.w (.agg r)))) : bj P ops K (⟨some d, .build t parts.toArray, ty, pos, after, guard⟩ :: rest) s := by
 refine fO (av := .w (.agg r)) hw ⟨fun _ _ h => (by cases h), fun z zm => ?_, fun U ad W env he => ?_, fun j ae => ?_⟩ hd h
 ·simp only [Op.operands, List.mem_toArray, hU] at zm;obtain ⟨p, hp, rfl⟩ := zm;obtain ⟨z, h1, _⟩ := HL parts zs a6 p hp;exact ⟨_, h1⟩
 ·have dE := Z.h;have iB := L.h;unfold zeroOf at dE;unfold DO at iB;cases hi : P.info? t with
  | none => rw [hi] at dE; cases dE
  | some i =>
   rw [hi] at dE;simp only [j0] at dE;cases ha : i.zero with
   | none => rw [ha] at dE; cases dE
   | some z =>
    rw [ha] at dE;cases dE
    split at iB
    ·rename_i bl hu;obtain ⟨m1, m2⟩ := NY _ _ iB;have r4 : (zeroValue t).run P W = .ok z W := by simp [zeroValue, typeInfo, program, Sem.run_bind, Sem.run, hi, Result.andThen, ha]
     have og : (bl.mapM fun f => (do pure (f.offset, ← sizeOf f.type) : Sem (Nat × Nat))).run P W = .ok ps.toArray W := by
      rw [Array.mapM_eq_mapM_toList]
      have := Qh (P := P) (W := W) (f := fun f : Field => (do pure (f.offset, ← sizeOf f.type) : Sem (Nat × Nat))) bl.toList ps m1 (fun j x v aa hv => by
       have := m2 j x v aa hv;cases GM : P.info? x.type with
       | none => rw [GM] at this; cases this
       | some ez =>
        rw [GM] at this;cases this;simp only [Sem.run_bind, hj GM, Result.andThen_ok, Sem.run_pure])
      simp only [map_eq_pure_bind, Sem.run_bind, this, Result.andThen_ok, Sem.run_pure]
     have jv : bP U ad W (z.cells.toList.map .c) z.cells.toList := ⟨by simp, fun j x v aa hv => by
      rw [eD, hv] at aa;cases aa;exact ⟨rfl, cu.1 h1 v (dF hv)⟩⟩
     obtain ⟨us, g1, g2⟩ := yC (U := U) (ad := ad) (W := W) (ps := ps) (place := fun i => ps.toArray[i]?) (fun i q h => by simpa using h) (look := s.look) (env := env) parts _ _ zs r jv a6 (fun p hp a aK => he p.2 (by simp only [Op.operands, List.mem_toArray, hU]; exact ⟨p, hp, rfl⟩) a aK) ab;refine ⟨.agg us.toArray, ?_, us, rfl, g2⟩;have tC : (parts.toArray.map fun (i, x) => (i, env x)).toList = parts.map fun p => (p.1, env p.2) := by simp
     have tG : z.cells.toList.toArray = z.cells := by simp
     rw [tG] at g1;simp only [execOp, Instr.build, Sem.run_bind, r4, Result.andThen_ok, run_underlying hu, og, tC, g1, Sem.run_pure]
    ·rename_i n el hu;have r4 : (zeroValue t).run P W = .ok z W := by simp [zeroValue, typeInfo, program, Sem.run_bind, Sem.run, hi, Result.andThen, ha]
     have jv : bP U ad W (z.cells.toList.map .c) z.cells.toList := ⟨by simp, fun j x v aa hv => by
      rw [eD, hv] at aa;cases aa;exact ⟨rfl, cu.1 h1 v (dF hv)⟩⟩
     cases aF : Nat.ble n 32 with
     | false => rw [aF] at iB; cases iB
     | true =>
      rw [aF] at iB;simp only [cond_true] at iB;cases GL : P.info? el with
      | none => rw [GL] at iB; cases iB
      | some ez =>
       rw [GL] at iB;simp only [gH, hR] at iB
       obtain ⟨us, g1, g2⟩ := yC (U := U) (ad := ad) (W := W) (ps := ps) (place := fun i => some (i * ez.size, ez.size)) (fun i q h => by
        rw [← iB, eD] at h;rcases iL i n with bi | ld
        ·rw [cm (by simpa using bi)] at h;simpa using h
        ·rw [qL (by simpa using ld)] at h;cases h) (look := s.look) (env := env) parts _ _ zs r jv a6 (fun p hp a aK => he p.2 (by simp only [Op.operands, List.mem_toArray, hU]; exact ⟨p, hp, rfl⟩) a aK) ab
       refine ⟨.agg us.toArray, ?_, us, rfl, g2⟩;have tC : (parts.toArray.map fun (i, x) => (i, env x)).toList = parts.map fun p => (p.1, env p.2) := by simp
       have tG : z.cells.toList.toArray = z.cells := by simp
       rw [tG] at g1;simp only [execOp, Instr.build, Sem.run_bind, r4, Result.andThen_ok, run_underlying hu, hj GL, tC, g1, Sem.run_pure]
    ·cases iB
 ·obtain ⟨y, ag, lM⟩ := ae;rcases Kv zs _ r ab y ag with h2 | ⟨q, h2, ap⟩
  ·obtain ⟨v, _, rfl⟩ := hU.1 h2; cases lM
  ·obtain ⟨p, hp, an⟩ := NP parts zs a6 q h2;exact ⟨p.2, by simp only [Op.operands, List.mem_toArray, hU]; exact ⟨p, hp, rfl⟩, _, an, ⟨y, ap, lM⟩⟩
theorem J9 {Fw : Builtin} {aS : Array TypeId} {x y : Operand} {im fl v : Value} (hw : want ops ⟨some d, .call ⟨.builtin Fw, #[x, y], aS⟩, ty, pos, after, guard⟩ s = some true) (aa : s.look x = some (aQ im)) (ag : s.look y = some (aQ fl)) (aq : ∀ cs W, (builtin Fw aS ty cs #[im, fl]).run P W = .ok (.value v) W) (h1 : v.oneCell' = true) (hd : Nat.blt d s.n = true) (h : bj P ops K rest (s.put (some d) (aQ v))) : bj P ops K (⟨some d, .call ⟨.builtin Fw, #[x, y], aS⟩, ty, pos, after, guard⟩ :: rest) s := by
 refine fO (av := aQ v) hw ⟨fun _ _ h => (by cases h), fun z a6 => ?_, fun U ad W env he => ⟨v, ?_, ⟨rfl, h1⟩⟩, fun j ae => absurd ae (iJ v j)⟩ hd h
 ·simp [Op.operands, Call.operands] at a6;rcases a6 with rfl | rfl
  ·exact ⟨_, aa⟩
  ·exact ⟨_, ag⟩
 ·have aI : env x = im := (he x (by simp [Op.operands, Call.operands]) _ aa).1;have aN : env y = fl := (he y (by simp [Op.operands, Call.operands]) _ ag).1;have em : (#[x, y] : Array Operand).map env = #[im, fl] := by simp [aI, aN]
  simp only [execOp, resolve, em, Sem.run_bind, Sem.run_pure, Result.andThen_ok, invoke, aq]
theorem x6 {aS : Array TypeId} {x y : Operand} {k : IntKind} {a b : Int} (hw : want ops ⟨some d, .call ⟨.builtin .min, #[x, y], aS⟩, ty, pos, after, guard⟩ s = some true) (aa : s.look x = some (aQ (.int k a))) (ag : s.look y = some (aQ (.int k b))) (hd : Nat.blt d s.n = true) (h : bj P ops K rest (s.put (some d) (aQ (.int k (if b < a then b else a))))) : bj P ops K (⟨some d, .call ⟨.builtin .min, #[x, y], aS⟩, ty, pos, after, guard⟩ :: rest) s :=
 J9 hw aa ag (fun cs W => by go_simp; all_goals (first | rfl | (split <;> omega))) rfl hd h
theorem uz {aS : Array TypeId} {x y : Operand} {k : IntKind} {a b : Int} (hw : want ops ⟨some d, .call ⟨.builtin .max, #[x, y], aS⟩, ty, pos, after, guard⟩ s = some true) (aa : s.look x = some (aQ (.int k a))) (ag : s.look y = some (aQ (.int k b))) (hd : Nat.blt d s.n = true) (h : bj P ops K rest (s.put (some d) (aQ (.int k (if b > a then b else a))))) : bj P ops K (⟨some d, .call ⟨.builtin .max, #[x, y], aS⟩, ty, pos, after, guard⟩ :: rest) s :=
 J9 hw aa ag (fun cs W => by go_simp; all_goals (first | rfl | (split <;> omega))) rfl hd h
theorem S2 {t : Nat} {b : Bool} {l : List Oper} (hs : s.tmps t = some (bF b)) (h1 : b = true → bj P ops K l (s.put (some t) (bF true))) (aG : b = false → bj P ops K l (s.put (some t) (bF false))) : bj P ops K l s := by
 have same : ∀ c, b = c → s.put (some t) (bF c) = s := fun c e => by
  subst e;simp only [aD.put];congr 1;funext j
  by_cases ae : j = t
  ·subst ae; rw [cr, hs]
  ·rw [cj _ _ ae]
 cases b with
 | true => rw [← same true rfl]; exact h1 rfl
 | false => rw [← same false rfl]; exact aG rfl
end
theorem bf : ([] : List ResultVar).map (ik P s) = ([] : List bG).map some := rfl
theorem bE {t : Nat} {x : bG} {l : List ResultVar} {xs : List bG} (h : s.tmps t = some (.w x)) (an : l.map (ik P s) = xs.map some) : (ResultVar.tmp t :: l).map (ik P s) = (x :: xs).map some := by
 simp only [kv, an]; rw [show ik P s (.tmp t) = some x by simp only [ik, h]]
theorem eV {a ty k off n : Nat} [T : fM P ty true n] {cs aV : List AC} {l : List ResultVar} {xs : List bG} (h : s.tmps a = some (mu k off)) (hm : s.mem k = some cs) (ak : takeN cs off n = some aV) (an : l.map (ik P s) = xs.map some) : (ResultVar.cell a ty :: l).map (ik P s) = (.agg aV :: xs).map some := by
 simp only [kv, an]; rw [show ik P s (.cell a ty) = some (.agg aV) by simp only [ik, h, hm, j0, QM T.h ak]]
theorem bU {fn : Func} {l : List ResultVar} {xs : List bG} {r : ai} (aq : fn.results = l.toArray) (h : l.map (ik P s) = xs.map some) (hle : (packed xs).bo r) : yb P fn r .ret s := ⟨xs, by rw [aq]; exact h, hle⟩
theorem acW {f : FuncId} {args : List ai} {r : ai} {ky : List Value} (he : args.map (fun x => match x with | .w y => nf y | _ => none) = ky.map some) (jn : ∀ x ∈ args, x.closed) (cf : r.closed)
  (h : ∀ W, Calls P f ky.toArray W fun e W' => ∃ v, e = .returned v ∧ (∀ U, (∀ b, W.heap.size ≤ b → U b) → dc U id W' r v) ∧ Below W.heap.size W W') : aX P f args r := by
 refine ⟨jn, cf, fun U W vs dH => ?_⟩
 have e : vs = ky := by
  apply List.ext_getElem?;intro i;have an := dH.1;have mE : args.length = ky.length := by have := congrArg List.length he; simpa using this
  rcases iL i args.length with hi | hi
  ·have h1 : (args.map (fun x => match x with | .w y => nf y | _ => none))[i]? = (ky.map some)[i]? := by rw [he]
   rw [eD, eD, cm hi, cm (by omega : i < ky.length)] at h1;simp only [gH, hR] at h1;rw [cm (by omega : i < vs.length), cm (by omega : i < ky.length)];have h2 := dH.2 i args[i] vs[i] (cm hi) (cm (by omega));cases aa : args[i] with
   | w y =>
    rw [aa] at h1 h2;rw [B4 h2 h1]
   | cZ xs => rw [aa] at h1; cases h1
  ·rw [qL (by omega), qL (by omega)]
 subst e;refine (h W).mono ?_;rintro e W' ⟨v, h1, h2, ap⟩;exact ⟨v, h1, h2 _ fun b ab => .inr ab, ap⟩
def AC.bc : AC → Bool
 | .own _ _ => false
 | _ => true
def bG.bc : bG → Bool
 | .one x => x.bc
 | .agg xs => xs.all AC.bc
def ai.bc : ai → Bool
 | .w x => x.bc
 | .cZ xs => xs.all bG.bc
theorem AC.dw {x : AC} (h : x.bc = true) (j : Nat) : ¬ x.owns j := by cases x <;> simp_all [AC.bc, AC.owns]
theorem bG.dw {x : bG} (h : x.bc = true) (j : Nat) : ¬ x.owns j := by
 rintro ⟨y, ag, ae⟩;cases x with
 | one z => simp [bG.cells] at ag; subst ag; exact AC.dw h j ae
 | agg xs => exact AC.dw (cu.1 h y ag) j ae
theorem ai.dw {x : ai} (h : x.bc = true) : x.closed := fun j => by
 cases x with
 | w y => exact bG.dw h j
 | cZ xs => rintro ⟨y, ag, ae⟩; exact bG.dw (cu.1 h y ag) j ae
theorem cl {f : FuncId} {fn : Func} {c : Code} {args : List ai} {r : ai} (au : P.funcs[f]? = some fn) (ab : fn.body = some c) (aF : Nat.ble args.length fn.ntmps = true) (jn : args.all ai.bc = true) (cf : r.bc = true)
  (h : fo P c (yb P fn r) (start fn.ntmps args)) : aX P f args r :=
 acX au ab (by simpa [Nat.ble_eq] using aF) (fun x aa => ai.dw (cu.1 jn x aa)) (ai.dw cf) h
theorem acV {f : FuncId} {fn : Func} {c : Code} {args : List ai} {r : ai} (au : P.funcs[f]? = some fn) (ab : fn.body = some c) (aF : Nat.ble args.length fn.ntmps = true) (jn : args.all ai.bc = true) (cf : r.bc = true)
  (h : sN P c (yb P fn r) (start fn.ntmps args)) : aX P f args r :=
 Pu au ab (by simpa [Nat.ble_eq] using aF) (fun x aa => ai.dw (cu.1 jn x aa)) (ai.dw cf) h
theorem acZ {f : FuncId} {args : List ai} {r : ai} (ky : List Value) (he : args.map (fun x => match x with | .w y => nf y | _ => none) = ky.map some) (jn : args.all ai.bc = true) (cf : r.bc = true)
  (h : ∀ W, Calls P f ky.toArray W fun e W' => ∃ v, e = .returned v ∧ (∀ U, (∀ b, W.heap.size ≤ b → U b) → dc U id W' r v) ∧ Below W.heap.size W W') : aX P f args r :=
 acW he (fun x aa => ai.dw (cu.1 jn x aa)) (ai.dw cf) h
theorem bN {next : aD → Prop} {Q : Exit → aD → Prop} (h : next s) : rA next Q .normal s := h
theorem wa {next : aD → Prop} {Q : Exit → aD → Prop} {id : Nat} (h : Q (.exit id) s) : rA next Q (.exit id) s := h
theorem gy {next : aD → Prop} {Q : Exit → aD → Prop} (h : Q .ret s) : rA next Q .ret s := h
theorem mX {Q : Exit → aD → Prop} {id : Nat} (h : Q .normal s) : vV id Q .normal s := h
theorem rs {Q : Exit → aD → Prop} {id : Nat} (h : Q .ret s) : vV id Q .ret s := h
theorem vW {Q : Exit → aD → Prop} {id : Nat} (h : Q .normal s) : vV id Q (.exit id) s := by simp only [vV, Nat.beq_refl, cond_true]; exact h
theorem c8 {dst : Option Nat} {op : Op} {ty : Nat} {pos : String} {after : Array Edge} {g t : Nat} {b Ko c : Bool} (hd : (ops[g]?).bind (·.dst) = some t) (hs : s.tmps t = some (bF Ko)) (ab : Ko = c)
  (h1 : bj P ops K (⟨dst, op, ty, pos, after, some (g, b)⟩ :: rest) (s.put (some t) (bF c))) : bj P ops K (⟨dst, op, ty, pos, after, some (g, b)⟩ :: rest) s := by
 subst ab;exact S2 hs (fun e => by subst e; exact h1) (fun e => by subst e; exact h1)
theorem Kk {c : Operand} {t u : Bool} {x y : Code} {Q : Exit → aD → Prop} (ak : s.look c = some (bF t)) (aE : t = u) (h : fo P (bif u then x else y) Q s) : fo P (.cond c x y) Q s := by
 subst aE;cases t with
 | true => exact kE ak h
 | false => exact jm ak h
theorem hI {c : Operand} {t : Bool} {x y : Code} {Q : Exit → aD → Prop} (ak : s.look c = some (bF t)) (aE : t = true) (h : fo P x Q s) : fo P (.cond c x y) Q s := Kk ak aE h
theorem hZ {c : Operand} {t : Bool} {x y : Code} {Q : Exit → aD → Prop} (ak : s.look c = some (bF t)) (aE : t = false) (h : fo P y Q s) : fo P (.cond c x y) Q s := Kk ak aE h
end
abbrev bh (x y : Int) : ai := .w (.agg [.c (.int .i64 x), .c (.int .i64 y)])
def F2 (w : World) : AC → Value → Nat → Prop
 | .p R, x, b => R.la w x b
 | _, _, _ => False
theorem x1 (a : Addr) (m j : Nat) : (a.add m).add j = a.add (m + j) := by
 unfold Addr.add
 by_cases h1 : m = 0 <;> by_cases h2 : j = 0 <;> simp [h1, h2, Nat.add_assoc]
theorem block_add (a : Addr) (m : Nat) : (a.add m).block = a.block := by unfold Addr.add; split <;> rfl
structure kA (w : World) (a : Addr) (xs : List AC) (vs : List Value) : Prop where
 lt : a.block < w.heap.size
 nJ : bP (fun _ => True) id w xs vs
 at_ : ∀ (j : Nat) v, vs[j]? = some v → w.cell? (a.add j) = some v
 pa : ∀ y ∈ xs, y.bc = true
def mB (w : World) (a : Addr) (xs : List AC) (b : Nat) : Prop := a.block = b ∨ ∃ (j : Nat) (y : AC) (v : Value), xs[j]? = some y ∧ w.cell? (a.add j) = some v ∧ F2 w y v b
theorem kA.frame {w w' : World} {a : Addr} {xs : List AC} {vs : List Value} (h : kA w a xs vs) (au : ∀ b, mB w a xs b → w'.heap[b]? = w.heap[b]?) : kA w' a xs vs ∧ ∀ b, mB w' a xs b → mB w a xs b := by
 have ab : w'.heap[a.block]? = w.heap[a.block]? := au _ (.inl rfl);have ak : ∀ j, w'.cell? (a.add j) = w.cell? (a.add j) := fun j => World.cell?_of_block (w := w) (by rw [block_add]; exact ab)
 have key : ∀ (j : Nat) (y : AC) (v : Value), xs[j]? = some y → w.cell? (a.add j) = some v → gm (fun _ => True) id w y v → gm (fun _ => True) id w' y v ∧ ∀ b, F2 w' y v b → F2 w y v b := by
  intro j y v ag hv aq;cases y with
  | c u => exact ⟨aq, fun b h => h⟩
  | own k o => exact ⟨aq, fun b h => h⟩
  | p R =>
   have := R.frame w w' v aq.1 fun b ab => au b (.inr ⟨j, _, v, ag, hv, ab⟩);exact ⟨⟨this.1, fun _ _ => trivial⟩, this.2⟩
 refine ⟨⟨?_, ⟨h.nJ.1, fun i y v ag hv => (key i y v ag (h.at_ i v hv) (h.nJ.2 i y v ag hv)).1⟩, fun j v hv => by rw [ak]; exact h.at_ j v hv, h.pa⟩, ?_⟩
 ·have dx := Array.getElem?_eq_getElem h.lt;exact (ku.1 (ab.trans dx)).1
 ·rintro b (h1 | ⟨j, y, v, ag, hv, gf⟩)
  ·exact .inl h1
  ·rw [ak] at hv;have bi : j < vs.length := by rw [← h.nJ.1]; exact (bS.1 ag).1
   have h2 := h.at_ j _ (cm bi);rw [hv] at h2;cases h2;exact .inr ⟨j, y, _, ag, hv, (key j y _ ag hv (h.nJ.2 j y _ ag (cm bi))).2 b gf⟩
theorem kA.ib {w : World} {a : Addr} {xs : List AC} {vs : List Value} {b : Nat} (h : kA w a xs vs) (au : mB w a xs b) : b < w.heap.size := by
 rcases au with rfl | ⟨j, y, v, ag, hv, gf⟩
 ·exact h.lt
 ·have bi : j < vs.length := by rw [← h.nJ.1]; exact (bS.1 ag).1
  have h2 := h.at_ j _ (cm bi);rw [hv] at h2;cases h2;have := h.nJ.2 j y _ ag (cm bi);cases y with
  | c u => cases gf
  | own k o => cases gf
  | p R => exact R.ib _ _ _ this.1 gf
theorem kA.sub {w : World} {a : Addr} {xs : List AC} {vs : List Value} (h : kA w a xs vs) (off n : Nat) : kA w (a.add off) ((xs.drop off).take n) ((vs.drop off).take n) := by
 refine ⟨by rw [block_add]; exact h.lt, h.nJ.sub off n, fun j v hv => ?_, fun y ag => h.pa y (mO (oM ag))⟩;rw [x1]
 have ae : j < n := by
  have := (bS.1 hv).1;simp at this; omega
 rw [fK ae, gj] at hv;exact h.at_ _ v hv
theorem mB.sub {w : World} {a : Addr} {xs : List AC} {off n b : Nat} (h : mB w (a.add off) ((xs.drop off).take n) b) : mB w a xs b := by
 rcases h with h | ⟨j, y, v, ag, hv, gf⟩
 ·rw [block_add] at h; exact .inl h
 ·rw [x1] at hv
  have ae : j < n := by
   have := (bS.1 ag).1;simp at this; omega
  rw [fK ae, gj] at ag;exact .inr ⟨_, y, v, ag, hv, gf⟩
theorem kA.IB {w : World} {a : Addr} {xs : List AC} {vs : List Value} {U : Nat → Prop} {ad : Nat → Nat} (h : kA w a xs vs) (dy : ∀ b, mB w a xs b → U b) : bP U ad w xs vs := by
 refine ⟨h.nJ.1, fun i y v ag hv => ?_⟩;have h1 := h.nJ.2 i y v ag hv;have h2 := h.pa y (dF ag);cases y with
 | c u => exact h1
 | own k o => cases h2
 | p R => exact ⟨h1.1, fun b ab => dy b (.inr ⟨i, _, v, ag, h.at_ i v hv, ab⟩)⟩
def EX (xs : List AC) : eZ where
 holds w v := ∃ a vs, v = .pointer (some a) ∧ kA w a xs vs
 la w v b := ∃ a, v = .pointer (some a) ∧ mB w a xs b
 frame w w' v := by
  rintro ⟨a, vs, rfl, h⟩ au;obtain ⟨h1, h2⟩ := h.frame fun b ab => au b ⟨a, rfl, ab⟩;exact ⟨⟨a, vs, rfl, h1⟩, fun b ⟨a', e, ab⟩ => by cases e; exact ⟨a, rfl, h2 b ab⟩⟩
 ib w v b := by
  rintro ⟨a, vs, rfl, h⟩ ⟨a', e, ab⟩;cases e;exact h.ib ab
 cell w v := by rintro ⟨a, vs, rfl, h⟩; rfl
def cz (sz n : Nat) (xs : List AC) : eZ where
 holds w v := ∃ A c, v = .slice A n c ∧ n ≤ c ∧ xs.length = n * sz ∧ (0 < n → ∃ a vs, A = some a ∧ kA w a xs vs)
 la w v b := ∃ c a, v = .slice (some a) n c ∧ 0 < n ∧ mB w a xs b
 frame w w' v := by
  rintro ⟨A, c, rfl, ak, an, h⟩ au;refine ⟨⟨A, c, rfl, ak, an, fun aF => ?_⟩, ?_⟩
  ·obtain ⟨a, vs, rfl, aC⟩ := h aF;exact ⟨a, vs, rfl, (aC.frame fun b ab => au b ⟨c, a, rfl, aF, ab⟩).1⟩
  ·rintro b ⟨c', a', e, aF, ab⟩;cases e;obtain ⟨a, vs, e, aC⟩ := h aF;cases e;exact ⟨c, a', rfl, aF, (aC.frame fun b ab => au b ⟨c, a', rfl, aF, ab⟩).2 b ab⟩
 ib w v b := by
  rintro ⟨A, c, rfl, ak, an, h⟩ ⟨c', a', e, aF, ab⟩;cases e;obtain ⟨a, vs, e, aC⟩ := h aF;cases e;exact aC.ib ab
 cell w v := by rintro ⟨A, c, rfl, _⟩; rfl
abbrev cI (sz n : Nat) (xs : List AC) : ai := .w (.one (.p (cz sz n xs)))
abbrev Ax (xs : List AC) : ai := .w (.one (.p (EX xs)))
theorem lh (R : eZ) (j : Nat) : ¬ (ai.w (.one (.p R))).owns j := fun ⟨y, ag, h⟩ => by simp [bG.cells] at ag; subst ag; cases h
section
variable {P : Program} {s : aD} {o : Oper} {ops : Array Oper} {K : aD → Prop} {rest : List Oper} {op : Op} {ty : Nat} {pos : String} {after : Array Edge} {guard : Option (Nat × Bool)} {d : Nat}
theorem Fi {av : ai} (hw : want ops ⟨some d, op, ty, pos, after, guard⟩ s = some true) (al : vJ P s.look ⟨some d, op, ty, pos, after, guard⟩ av) (hd : Nat.blt d s.n = true) (h : bj P ops K rest (s.put (some d) av)) : bj P ops K (⟨some d, op, ty, pos, after, guard⟩ :: rest) s :=
 qd (e := ⟨av, none⟩) hw (.fresh av al) (kI hd) h
theorem ms {t sz : Nat} (h : sG P t = some sz) : ∃ e i, P.underlying t = some (.slice e) ∧ P.info? e = some i ∧ i.size = sz := by
 unfold sG at h
 split at h
 ·rename_i e hu;cases hi : P.info? e with
  | none => rw [hi] at h; cases h
  | some i => rw [hi] at h; cases h; exact ⟨e, i, hu, hi, rfl⟩
 ·cases h
theorem kf {t e : Nat} (h : P.underlying t = some (.slice e)) : P.elem t = e := by simp [Program.elem, h]
theorem dC {t sz aeW n : Nat} {xs : List AC} {x : Operand} [S : hH P t aeW] (hw : want ops ⟨some d, .call ⟨.builtin .len, #[x], #[t]⟩, ty, pos, after, guard⟩ s = some true) (aa : s.look x = some (cI sz n xs)) (hd : Nat.blt d s.n = true)
  (h : bj P ops K rest (s.put (some d) (aW n))) : bj P ops K (⟨some d, .call ⟨.builtin .len, #[x], #[t]⟩, ty, pos, after, guard⟩ :: rest) s := by
 refine fO (av := aW n) hw ⟨fun _ _ h => (by cases h), fun y ag => ?_, fun U ad W env he => ⟨.int .i64 n, ?_, rfl, rfl⟩, fun j ae => absurd ae (iJ _ j)⟩ hd h
 ·simp [Op.operands, Call.operands] at ag;subst ag;exact ⟨_, aa⟩
 ·obtain ⟨⟨A, c, aI, _⟩, _⟩ := he x (by simp [Op.operands, Call.operands]) _ aa;obtain ⟨e, i, hu, hi, _⟩ := ms S.h;have e2 : P.underlying t = some (.slice (P.elem t)) := by rw [kf hu]; exact hu
  have em : (#[x] : Array Operand).map env = #[.slice A n c] := by simp [aI]
  simp only [execOp, resolve, em, Sem.run_bind, Sem.run_pure, Result.andThen_ok, invoke, builtin];rw [run_len_slice W t ty A n c e2];rfl
theorem e7 {x y : Operand} {t sz n : Nat} {gC : IntKind} {i : Int} {xs aV : List AC} [S : hH P t sz] (hw : want ops ⟨some d, .indexAddr t x y, ty, pos, after, guard⟩ s = some true) (aa : s.look x = some (cI sz n xs)) (ag : s.look y = some (aQ (.int gC i))) (aG : 0 ≤ i) (h1 : i < n)
  (he : (xs.drop (i.toNat * sz)).take sz = aV) (hd : Nat.blt d s.n = true) (h : bj P ops K rest (s.put (some d) (Ax aV))) : bj P ops K (⟨some d, .indexAddr t x y, ty, pos, after, guard⟩ :: rest) s := by
 subst he;refine fO hw ⟨fun _ _ h => (by cases h), fun z a6 => ?_, fun U ad W env he => ?_, fun j ae => absurd ae (lh _ j)⟩ hd h
 ·simp [Op.operands] at a6;rcases a6 with rfl | rfl
  ·exact ⟨_, aa⟩
  ·exact ⟨_, ag⟩
 ·obtain ⟨⟨A, c, aI, ak, an, dS⟩, dy⟩ := he x (by simp [Op.operands]) _ aa;have hi : env y = .int gC i := (he y (by simp [Op.operands]) _ ag).1;obtain ⟨e, ez, hu, de, hs⟩ := ms S.h;obtain ⟨a, vs, rfl, et⟩ := dS (by omega);refine ⟨.pointer (some (a.add (i.toNat * sz))), ?_, ⟨_, _, rfl, et.sub _ _⟩, ?_⟩
  ·simp only [execOp, Instr.indexAt, aI, hi, asIntOf, Sem.run_bind, Sem.run_pure, Result.andThen_ok, run_underlying hu, hj de, if_pos (And.intro aG h1), hs]
  ·rintro b ⟨a', e, ab⟩;cases e;exact dy b ⟨c, a, aI, by omega, ab.sub⟩
theorem Tb {x : Operand} {pT i hK : Nat} {xs : List AC} [F : p5 P pT i hK] (hw : want ops ⟨some d, .fieldAddr pT x i, ty, pos, after, guard⟩ s = some true) (aa : s.look x = some (Ax xs)) (hd : Nat.blt d s.n = true) (h : bj P ops K rest (s.put (some d) (Ax (xs.drop hK)))) : bj P ops K (⟨some d, .fieldAddr pT x i, ty, pos, after, guard⟩ :: rest) s := by
 refine fO hw ⟨fun _ _ h => (by cases h), fun y ag => ?_, fun U ad W env he => ?_, fun j ae => absurd ae (lh _ j)⟩ hd h
 ·simp [Op.operands] at ag;subst ag;exact ⟨_, aa⟩
 ·obtain ⟨⟨a, vs, aI, et⟩, dy⟩ := he x (by simp [Op.operands]) _ aa;have hF := F.h;unfold th at hF
  split at hF
  ·rename_i bl hu;cases au : bl[i]? with
   | none => rw [au] at hF; cases hF
   | some f =>
    rw [au] at hF;simp only [j0] at hF;cases hi : P.info? f.type with
    | none => rw [hi] at hF; cases hF
    | some t =>
     rw [hi] at hF;simp only [j0] at hF
     split at hF
     ·cases hF
     ·rename_i cn;cases hF;have u1 := et.sub f.offset xs.length;rw [hA (by simp), hA (by have := et.nJ.1; simp; omega)] at u1;refine ⟨.pointer (some (a.add f.offset)), ?_, ⟨_, _, rfl, u1⟩, ?_⟩
      ·simp only [execOp, Instr.fieldAt, aI, Instr.sureAddr, Sem.run_bind, Sem.run_pure, Result.andThen_ok, run_underlying hu, au, fieldPlace, hj hi, if_neg cn]
      ·rintro b ⟨a', e, ab⟩;cases e;refine dy b ⟨a, aI, mB.sub (off := f.offset) (n := xs.length) ?_⟩;rw [hA (by simp)];exact ab
  ·cases hF
theorem qc {x : Operand} {lt n : Nat} {xs : List AC} {y : AC} [T : fM P lt false n] (hw : want ops ⟨some d, .load lt x, ty, pos, after, guard⟩ s = some true) (aa : s.look x = some (Ax xs)) (ak : xs[0]? = some y) (cO : y.bc = true) (hd : Nat.blt d s.n = true) (h : bj P ops K rest (s.put (some d) (.w (.one y)))) : bj P ops K (⟨some d, .load lt x, ty, pos, after, guard⟩ :: rest) s := by
 refine fO hw ⟨fun _ _ h => (by cases h), fun y ag => ?_, fun U ad W env he => ?_, fun j ae => ?_⟩ hd h
 ·simp [Op.operands] at ag;subst ag;exact ⟨_, aa⟩
 ·obtain ⟨⟨a, vs, aI, et⟩, dy⟩ := he x (by simp [Op.operands]) _ aa;have aq := et.IB (U := U) (ad := ad) fun b ab => dy b ⟨a, aI, ab⟩;have bi : 0 < vs.length := by rw [← aq.1]; exact (bS.1 ak).1
  have hv := cm bi;refine ⟨_, ?_, aq.2 0 y _ ak hv⟩;have dY := T.h;have nj : W.cell? a = some vs[0] := et.at_ 0 _ hv;unfold j7 at dY;cases hu : P.underlying lt with
  | none => rw [hu] at dY; cases dY
  | some D =>
   have key : (loadVar lt a).run P W = .ok vs[0] W := by
    refine IE hu (fun bl e => ?_) (fun m bu e => ?_) nj
    ·subst e;cases hi : P.info? lt with
     | none => simp [hu, hi] at dY
     | some ez => simp [hu, hi] at dY
    ·subst e;cases hi : P.info? lt with
     | none => simp [hu, hi] at dY
     | some ez => simp [hu, hi] at dY
   simp only [execOp, Instr.loadAt, aI, Instr.sureAddr, Sem.run_bind, Sem.run_pure, Result.andThen_ok, key]
 ·exact absurd ae (ai.dw (x := .w (.one y)) cO j)
theorem fZ {x : Operand} {lt n : Nat} {xs aV : List AC} [T : fM P lt true n] (hw : want ops ⟨some d, .load lt x, ty, pos, after, guard⟩ s = some true) (aa : s.look x = some (Ax xs)) (ak : takeN xs 0 n = some aV) (cO : (bG.agg aV).bc = true) (hd : Nat.blt d s.n = true) (h : bj P ops K rest (s.put (some d) (.w (.agg aV)))) : bj P ops K (⟨some d, .load lt x, ty, pos, after, guard⟩ :: rest) s := by
 refine fO hw ⟨fun _ _ h => (by cases h), fun y ag => ?_, fun U ad W env he => ?_, fun j ae => ?_⟩ hd h
 ·simp [Op.operands] at ag;subst ag;exact ⟨_, aa⟩
 ·obtain ⟨⟨a, vs, aI, et⟩, dy⟩ := he x (by simp [Op.operands]) _ aa;obtain ⟨q1, q2⟩ := Es _ _ _ _ ak;have u1 := et.sub 0 n;have aq := u1.IB (U := U) (ad := ad) fun b ab => dy b ⟨a, aI, mB.sub ab⟩;rw [q2] at aq;have aK : a.add 0 = a := rfl;refine ⟨.agg ((vs.drop 0).take n).toArray, ?_, _, rfl, aq⟩;have dY := T.h;unfold j7 at dY;have hlen : ((vs.drop 0).take n).length = n := by have := et.nJ.1; simp; omega
  have nj := u1.at_;rw [aK] at nj;cases hu : P.underlying lt with
  | none => rw [hu] at dY; cases dY
  | some D =>
   cases hi : P.info? lt with
   | none => rw [hu, hi] at dY; cases D <;> cases dY
   | some ez =>
    rw [hu, hi] at dY;have key : ((∃ bl, D = .struct bl) ∨ ∃ n e, D = .array n e) ∧ ez.size = n := by cases D <;> simp at dY <;> simp [dY]
    have := ID (P := P) (w := W) (A := a) hu key.1 hi (by rw [hlen, key.2]) nj;simp only [execOp, Instr.loadAt, aI, Instr.sureAddr, Sem.run_bind, Sem.run_pure, Result.andThen_ok, this]
 ·exact absurd ae (ai.dw (x := .w (.agg aV)) cO j)
def xy (P : Program) (t : TypeId) : Option (List Value) :=
 match P.underlying t with
 | some (.slice e) => zeroOf P e
 | _ => none
class nV (P : Program) (t : TypeId) (vs : outParam (List Value)) : Prop where
 h : xy P t = some vs
def hD (n sz : Nat) (vs : List Value) : List AC := (List.range (n * sz)).map fun j => .c (vs.toArray[j % vs.length]!)
def xl (n sz : Nat) : List (Nat × Nat) := (List.range n).map fun i => (i * sz, sz)
theorem Ty {w : World} {sD : List AC} {us : List Value} {ty : TypeId} {U : Nat → Prop} {ad : Nat → Nat} (h : bP U ad w sD us) (cO : ∀ y ∈ sD, y.bc = true) : kA (w.alloc (.cells us.toArray ty)) ⟨w.heap.size, 0, none⟩ sD us := by
 refine ⟨by show w.heap.size < (w.heap.push _).size; simp, ⟨h.1, fun i y v ag hv => ?_⟩, fun j v hv => ?_, cO⟩
 ·refine (h.2 i y v ag hv).map (fun b ab an => ⟨trivial, Below.heap_alloc _ _ _ an⟩) fun j ae => ?_;exact absurd ae (AC.dw (cO y (dF ag)) j)
 ·have kk : (⟨w.heap.size, 0, none⟩ : Addr).add j = ⟨w.heap.size, j, none⟩ := by unfold Addr.add; split <;> simp_all
  rw [kk];have : (w.alloc (.cells us.toArray ty)).heap[w.heap.size]? = some (.cells us.toArray ty (0, 0)) := by show (w.heap.push _)[w.heap.size]? = _; simp
  simp only [World.cell?, this];simpa using hv
theorem Tz {w : World} {sD : List AC} {us : List Value} {ty : TypeId} {U : Nat → Prop} {ad : Nat → Nat} {b : Nat} (h : bP U ad w sD us) (au : mB (w.alloc (.cells us.toArray ty)) ⟨w.heap.size, 0, none⟩ sD b) : U b ∨ w.heap.size ≤ b := by
 rcases au with rfl | ⟨j, y, v, ag, hv, gf⟩
 ·exact .inr (dL _)
 ·have kk : (⟨w.heap.size, 0, none⟩ : Addr).add j = ⟨w.heap.size, j, none⟩ := by unfold Addr.add; split <;> simp_all
  rw [kk] at hv;have : (w.alloc (.cells us.toArray ty)).heap[w.heap.size]? = some (.cells us.toArray ty (0, 0)) := by show (w.heap.push _)[w.heap.size]? = _; simp
  simp only [World.cell?, this] at hv;have b4 : us[j]? = some v := by simpa using hv
  have aq := h.2 j y v ag b4;cases y with
  | c u => cases gf
  | own k o => cases gf
  | p R =>
   refine .inl (aq.2 b ?_);exact (R.frame w _ v aq.1 fun bK c5 => Below.heap_alloc _ _ _ (R.ib _ _ _ aq.1 c5)).2 b gf
theorem l5 {t n sz : Nat} {parts : List (Nat × Operand)} {vs : List Value} {zs : List (Nat × bG)} {r : List AC} [S : hH P t sz] [Z : nV P t vs] (hw : want ops ⟨some d, .buildSlice t n parts.toArray, ty, pos, after, guard⟩ s = some true) (a6 : mI s.look parts = some zs) (ab : qf (xl n sz) (hD n sz vs) zs = some r)
  (h1 : (vs.all fun v => v.oneCell') = true) (hs : Nat.beq vs.length sz = true) (aG : Nat.blt 0 (n * sz) = true) (h2 : Nat.ble (n * sz) 16777216 = true) (aq : Nat.beq r.length (n * sz) = true) (cO : r.all AC.bc = true) (hd : Nat.blt d s.n = true) (h : bj P ops K rest (s.put (some d) (cI sz n r))) : bj P ops K (⟨some d, .buildSlice t n parts.toArray, ty, pos, after, guard⟩ :: rest) s := by
 refine Fi (av := cI sz n r) hw ⟨fun z zm => ?_, fun j ae => lh _ j ae, fun U ad W env he => ?_⟩ hd h
 ·simp only [Op.operands, List.mem_toArray, hU] at zm;obtain ⟨p, hp, rfl⟩ := zm;obtain ⟨z, h1, _⟩ := HL parts zs a6 p hp;exact ⟨_, h1⟩
 ·obtain ⟨e, i, hu, hi, bQ⟩ := ms S.h;have dE := Z.h;unfold xy at dE;rw [hu] at dE;simp only at dE;unfold zeroOf at dE;rw [hi] at dE;simp only [j0] at dE;cases ha : i.zero with
  | none => rw [ha] at dE; cases dE
  | some z =>
   rw [ha] at dE;cases dE;have hlen : z.cells.toList.length = sz := gS hs;have yF : 0 < n * sz := by simpa [Nat.blt_eq] using aG
   have wG : n * sz ≤ 16777216 := by simpa [Nat.ble_eq] using h2
   have CN : r.length = n * sz := gS aq;have rR : ∀ y ∈ r, y.bc = true := cu.1 cO;have r4 : (zeroValue e).run P W = .ok z W := by simp [zeroValue, typeInfo, program, Sem.run_bind, Sem.run, hi, Result.andThen, ha]
   have jv : bP U ad W (hD n sz z.cells.toList) ((List.range (n * sz)).map fun j => z.cells[j % z.cells.size]!) := by
    refine ⟨by simp [hD], fun j x v aa hv => ?_⟩;have ae : j < n * sz := by have := (bS.1 hv).1; simpa using this
    simp only [hD, eD, List.getElem?_range ae, gH, hR] at aa hv;subst aa; subst hv;have u2 : z.cells.size = sz := by simpa using hlen
    have G5 : 0 < sz := Nat.pos_of_mul_pos_left yF |> fun h => by
     rcases vp sz with q | q
     ·rw [q] at yF; simp at yF
     ·exact q
    have bi : j % z.cells.size < z.cells.size := Nat.mod_lt _ (by omega);have aN : z.cells.toList.toArray[j % z.cells.toList.length]! = z.cells[j % z.cells.size]! := by simp
    refine ⟨aN.symm, ?_⟩;rw [aN, getElem!_pos z.cells _ bi];exact cu.1 h1 _ (by simp)
   obtain ⟨us, g1, g2⟩ := yC (U := U) (ad := ad) (W := W) (ps := xl n sz) (place := fun i => some (i * sz, sz)) (fun i q al => by
     simp only [xl, eD] at al;cases aq : (List.range n)[i]? with
     | none => rw [aq] at al; cases al
     | some m =>
      rw [aq] at al;cases al;have := bS.1 aq;obtain ⟨ap, aL⟩ := this;simp at aL;rw [aL]) (look := s.look) (env := env) parts _ _ zs r jv a6 (fun p hp a aK => he p.2 (by simp only [Op.operands, List.mem_toArray, hU]; exact ⟨p, hp, rfl⟩) a aK) ab
   refine ⟨.slice (some ⟨W.heap.size, 0, none⟩) n n, W.alloc (.cells us.toArray e), ?_, ⟨⟨some ⟨W.heap.size, 0, none⟩, n, rfl, dL _, CN, fun aF => ⟨_, us, rfl, Ty g2 rR⟩⟩, ?_⟩, (Below.refl _ _).alloc (dL _) _⟩
   ·have tC : (parts.toArray.map fun (i, x) => (i, env x)).toList = parts.map fun p => (p.1, env p.2) := by simp
    have cC : (Array.range (n * sz)).map (fun j => z.cells[j % z.cells.size]!) = ((List.range (n * sz)).map fun j => z.cells[j % z.cells.size]!).toArray := by simp [← List.toArray_range]
    simp only [execOp, Instr.buildSlice, Sem.run_bind, run_underlying hu, Result.andThen_ok, hj hi, bQ];rw [if_neg (by omega), if_neg (by omega)];simp only [Sem.run_bind, Sem.run_pure, r4, Result.andThen_ok, cC, tC, g1, newRow, newObj, Sem.run];rfl
   ·rintro b ⟨c, a, e, aF, ab⟩;cases e;exact Tz g2 ab
end
def jW {α : Type} : List (Nat × α) → Nat → Option α
 | [], _ => none
 | (k, v) :: r, t => bif Nat.beq t k then some v else jW r t
def tK (n : Nat) (aS : List (Nat × ai)) (bD : List (Nat × List AC)) : aD := ⟨n, jW aS, jW bD⟩
def nY {α : Type} (f : Nat → Option α) : List (Nat × α) → Prop
 | [] => True
 | (k, v) :: r => f k = some v ∧ nY f r
theorem Fm {α : Type} {f : Nat → Option α} : ∀ (l : List (Nat × α)), nY f l → ∀ t v, jW l t = some v → f t = some v
 | [], _, t, v, h => by cases h
 | (k, u) :: r, aK, t, v, h => by
  simp only [jW] at h;cases ab : Nat.beq t k with
  | true => rw [ab] at h; cases h; rw [gS ab]; exact aK.1
  | false => rw [ab] at h; exact Fm r aK.2 t v h
theorem Dm {s : aD} {n : Nat} {aS : List (Nat × ai)} {bD : List (Nat × List AC)} (aF : n = s.n) (aE : nY s.tmps aS) (hm : nY s.mem bD) : s.bo (tK n aS bD) :=
 ⟨aF, Fm aS aE, Fm bD hm⟩
def C9 {α : Type} (bD : List (Nat × α)) (k : Nat) : Bool := bD.any fun p => Nat.beq k p.1
def Bl (bD : List (Nat × List AC)) : AC → Bool
 | .own k _ => C9 bD k
 | _ => true
def TE (bD : List (Nat × List AC)) : ai → Bool
 | .w x => x.cells.all (Bl bD)
 | .cZ xs => xs.all fun x => x.cells.all (Bl bD)
def okB (aS : List (Nat × ai)) (bD : List (Nat × List AC)) : Bool := aS.all (fun p => TE bD p.2) && bD.all fun p => p.2.all (Bl bD)
theorem ND {α : Type} {k : Nat} : ∀ (bD : List (Nat × α)), C9 bD k = true → ∃ v, jW bD k = some v
 | [], h => by cases h
 | (j, u) :: r, h => by
  simp only [C9, List.any_cons, qM] at h;simp only [jW];cases ab : Nat.beq k j with
  | true => exact ⟨u, rfl⟩
  | false => rw [ab] at h; exact ND r (by simpa [C9] using h)
theorem HJ {α : Type} {k : Nat} {v : α} : ∀ (bD : List (Nat × α)), jW bD k = some v → (k, v) ∈ bD
 | [], h => by cases h
 | (j, u) :: r, h => by
  simp only [jW] at h;cases ab : Nat.beq k j with
  | true => rw [ab] at h; cases h; rw [gS ab]; simp
  | false => rw [ab] at h; exact nD _ (HJ r h)
theorem Fb {bD : List (Nat × List AC)} {x : AC} {j : Nat} (h : Bl bD x = true) (ae : x.owns j) : ∃ cs, jW bD j = some cs := by
 cases x with
 | c v => cases ae
 | p R => cases ae
 | own k o => cases ae; exact ND bD h
theorem HS {n : Nat} {aS : List (Nat × ai)} {bD : List (Nat × List AC)} (h : okB aS bD = true) : (tK n aS bD).cN := by
 unfold okB at h;rw [dQ] at h;refine ⟨fun t av j aE ae => ?_, fun k cs x j af aa ae => ?_⟩
 ·have h1 := cu.1 h.1 _ (HJ aS aE);cases av with
  | w x =>
   obtain ⟨y, ag, lM⟩ := ae;exact Fb (cu.1 h1 y ag) lM
  | cZ xs =>
   obtain ⟨z, a6, y, ag, lM⟩ := ae;exact Fb (cu.1 (cu.1 h1 z a6) y ag) lM
 ·have h1 := cu.1 h.2 _ (HJ bD af);exact Fb (cu.1 h1 x aa) ae
section
variable {P : Program} {s : aD} {x : Code}
theorem yc {Q : Exit → aD → Prop} (N : Nat) (I : Nat → List (Nat × ai) → List (Nat × List AC) → Prop) (k : Nat) (aS : List (Nat × ai)) (bD : List (Nat × List AC)) (bq : I k aS bD) (aF : N = s.n) (aE : nY s.tmps aS) (hm : nY s.mem bD) (ok : okB aS bD = true)
  (round : ∀ k aS bD, I k aS bD → okB aS bD = true → fo P x (rA (fun s' => ∃ k' oQ ox, k' < k ∧ I k' oQ ox ∧ N = s'.n ∧ nY s'.tmps oQ ∧ nY s'.mem ox ∧ okB oQ ox = true) Q) (tK N aS bD)) : fo P (.loop x) Q s := by
 refine Kl (fun k s => ∃ aS bD, I k aS bD ∧ okB aS bD = true ∧ s = tK N aS bD) k (tK N aS bD) (Dm aF aE hm) (HS ok) ⟨aS, bD, bq, ok, rfl⟩ ?_;rintro k s ⟨aS, bD, bq, ok, rfl⟩;intro dB B A ad a w ay;refine sL (round k aS bD bq ok dB B A ad a w ay) ?_;rintro e a' w' ⟨s', bg, vj, cw, al⟩;refine ⟨s', bg, vj, cw, ?_⟩;cases e with
 | normal =>
  obtain ⟨k', oQ, ox, h1, h2, ap, aL, dx, gd⟩ := al;exact ⟨k', h1, tK N oQ ox, Dm ap aL dx, HS gd, oQ, ox, h2, gd, rfl⟩
 | _ => exact al
def Ac (P : Program) (x : Code) (Q : Exit → aD → Prop) : Nat → aD → Prop
 | 0, _ => False
 | n + 1, s => fo P x (rA (Ac P x Q n) Q) s
theorem adP {Q : Exit → aD → Prop} {n : Nat} (h : fo P x (rA (Ac P x Q n) Q) s) : Ac P x Q (n + 1) s := h
theorem TF (n : Nat) {Q : Exit → aD → Prop} (h : Ac P x Q n s) : fo P (.loop x) Q s := by
 intro ok;refine Kl (fun k s => s.cN ∧ Ac P x Q k s) n s ⟨rfl, fun _ _ h => h, fun _ _ h => h⟩ ok ⟨ok, h⟩ ?_ ok;rintro k s ⟨ok, h⟩;cases k with
 | zero => cases h
 | succ k =>
  intro dB B A ad a w ay;refine sL (h dB B A ad a w ay) ?_;rintro e a' w' ⟨s', bg, vj, cw, al⟩;refine ⟨s', bg, vj, cw, ?_⟩;cases e with
  | normal => exact ⟨k, Nat.lt_succ_self k, s', ⟨rfl, fun _ _ h => h, fun _ _ h => h⟩, vj, vj, al⟩
  | _ => exact al
end
def okW (x : bG) : Bool := x.cells.all fun y => match y with | .c v => v.oneCell' | _ => true
def B3 : List bG → Option (List Value)
 | [] => some []
 | x :: xs => match nf x, B3 xs with
  | some v, some r => some (v :: r)
  | _, _ => none
def FW : ai → Option Value
 | .w x => nf x
 | .cZ xs => match B3 xs with
  | some r => some (.tuple r.toArray)
  | none => none
def OU : ai → Bool
 | .w x => okW x
 | .cZ xs => xs.all okW
section
variable {U : Nat → Prop} {ad : Nat → Nat} {W : World}
theorem P7 : ∀ (xs : List AC) (r : List Value), wy xs = some r → (xs.all fun y => match y with | .c v => v.oneCell' | _ => true) = true → bP U ad W xs r
 | [], r, h, _ => by cases h; exact ⟨rfl, fun i x v h => by simp at h⟩
 | .c v :: xs, r, h, ok => by
  simp only [wy] at h
  split at h
  ·rename_i a8 aq;cases h;simp only [j1, dQ] at ok;have cp := P7 xs a8 aq ok.2;refine ⟨by simp [cp.1], fun i x u aa hu => ?_⟩;cases i with
   | zero => simp at aa hu; subst aa; subst hu; exact ⟨rfl, ok.1⟩
   | succ i => exact cp.2 i x u (by simpa using aa) (by simpa using hu)
  ·cases h
 | .own _ _ :: _, _, h, _ => by cases h
 | .p _ :: _, _, h, _ => by cases h
theorem Qb {x : bG} {u : Value} (h : nf x = some u) (ok : okW x = true) : gx U ad W x u := by
 cases x with
 | one y => cases y with
  | c v => cases h; simp [okW, bG.cells] at ok; exact ⟨rfl, ok⟩
  | own => cases h
  | p => cases h
 | agg xs =>
  simp only [nf] at h
  split at h
  ·rename_i r aq; cases h; exact ⟨r, rfl, P7 xs r aq ok⟩
  ·cases h
theorem P8 : ∀ (xs : List bG) (r : List Value), B3 xs = some r → xs.all okW = true → xs.length = r.length ∧ ∀ (i : Nat) (x : bG) (v : Value), xs[i]? = some x → r[i]? = some v → gx U ad W x v
 | [], r, h, _ => by cases h; exact ⟨rfl, fun i x v h => by simp at h⟩
 | x :: xs, r, h, ok => by
  simp only [B3] at h
  split at h
  ·rename_i v a8 hv aq;cases h;simp only [j1, dQ] at ok;obtain ⟨h1, h2⟩ := P8 xs a8 aq ok.2;refine ⟨by simp [h1], fun i y u ag hu => ?_⟩;cases i with
   | zero => simp at ag hu; subst ag; subst hu; exact Qb hv ok.1
   | succ i => exact h2 i y u (by simpa using ag) (by simpa using hu)
  ·cases h
theorem P9 {x : ai} {u : Value} (h : FW x = some u) (ok : OU x = true) : dc U ad W x u := by
 cases x with
 | w y => exact Qb h ok
 | cZ xs =>
  simp only [FW] at h
  split at h
  ·rename_i r aq; cases h; exact ⟨r, rfl, P8 xs r aq ok⟩
  ·cases h
end
theorem mK {P : Program} {f : FuncId} {args : List ai} {r : ai} (ky : List Value) (b7 : Value) (he : args.map (fun x => match x with | .w y => nf y | _ => none) = ky.map some) (aq : FW r = some b7) (jn : args.all ai.bc = true) (cf : r.bc = true) (ok : OU r = true)
  (h : ∀ W, Calls P f ky.toArray W fun e W' => e = .returned b7 ∧ Below W.heap.size W W') : aX P f args r :=
 acZ ky he jn cf fun W => (h W).mono fun e w' ⟨h1, h2⟩ => ⟨b7, h1, fun _ _ => P9 aq ok, h2⟩
structure xY where
 ty : List (Nat × Bool × Nat)
 zero : List (Nat × List Value)
 ng : List (Nat × List (Nat × Nat))
 mA : List (Nat × Nat × Nat)
 ic : List (Nat × List (Nat × Nat))
def k3 {α : Type} (R : α → Prop) : List α → Prop
 | [] => True
 | a :: l => R a ∧ k3 R l
theorem qe {α : Type} {R : Nat × α → Prop} {k : Nat} {v : α} : ∀ (l : List (Nat × α)), k3 R l → jW l k = some v → R (k, v)
 | [], _, h => by cases h
 | (j, u) :: l, an, h => by
  simp only [jW] at h;cases ab : Nat.beq k j with
  | true => rw [ab] at h; cases h; obtain rfl := gS ab; exact an.1
  | false => rw [ab] at h; exact qe l an.2 h
class EZ (P : Program) (T : outParam xY) : Prop where
 ty : k3 (fun p => j7 P p.1 = some p.2) T.ty
 zero : k3 (fun p => zeroOf P p.1 = some p.2) T.zero
 ng : k3 (fun p => k3 (fun q => th P p.1 q.1 = some q.2) p.2) T.ng
 mA : k3 (fun p => Bs P p.1 = some p.2) T.mA
 ic : k3 (fun p => DO P p.1 = some p.2) T.ic
def PO (b : BinOp) (m n : Int) : Option Bool :=
 match b with
 | .lss => some (decide (m < n))
 | .leq => some (decide (m ≤ n))
 | .gtr => some (decide (n < m))
 | .geq => some (decide (n ≤ m))
 | .eql => some (decide (m = n))
 | .neq => some (!decide (m = n))
 | _ => none
def mm (T : xY) (s : aD) (d : Nat) : Op → Option aD
 | .move x => match s.look x with
  | some av => some (s.put (some d) av)
  | none => none
 | .assign x => match s.look x with
  | some av => some (s.put (some d) av)
  | none => none
 | .pick c x y => match s.look c, s.look x, s.look y with
  | some (.w (.one (.c (.bool true)))), some av, some _ => some (s.put (some d) av)
  | some (.w (.one (.c (.bool false)))), some _, some bv => some (s.put (some d) bv)
  | _, _, _ => none
 | .alloc t => match jW T.zero t, s.mem d with
  | some vs, none => bif vs.all fun v => v.oneCell' then some ((s.dV d (vs.map .c)).put (some d) (mu d 0)) else none
  | _, _ => none
 | .box _ x => match s.look x, s.mem d with
  | some (.w z), none => some ((s.dV d z.cells).put (some d) (mu d 0))
  | _, _ => none
 | .load t x => match s.look x with
  | some (.w (.one (.own k off))) => match s.mem k with
   | some cs => match jW T.ty t with
    | some (false, _) => match cs[off]? with
     | some y => some (s.put (some d) (.w (.one y)))
     | none => none
    | some (true, n) => match takeN cs off n with
     | some aV => some (s.put (some d) (.w (.agg aV)))
     | none => none
    | none => none
   | none => none
  | _ => none
 | .fieldAddr t x i => match s.look x with
  | some (.w (.one (.own k off))) => match jW T.ng t with
   | some l => match jW l i with
    | some hK => some (s.put (some d) (mu k (off + hK)))
    | none => none
   | none => none
  | _ => none
 | .indexAddr t x y => match s.look x, s.look y with
  | some (.w (.one (.own k off))), some (.w (.one (.c (.int _ i)))) => match jW T.mA t with
   | some (n, size) => bif decide (0 ≤ i) && decide (i < n) then some (s.put (some d) (mu k (off + i.toNat * size))) else none
   | none => none
  | _, _ => none
 | .extract x i => match s.look x with
  | some (.cZ xs) => match xs[i]? with
   | some y => some (s.put (some d) (.w y))
   | none => none
  | _ => none
 | .build t parts => match mI s.look parts.toList, jW T.zero t, jW T.ic t with
  | some zs, some vs, some ps => match qf ps (vs.map .c) zs with
   | some r => bif vs.all fun v => v.oneCell' then some (s.put (some d) (.w (.agg r))) else none
   | none => none
  | _, _, _ => none
 | .binOp b _ x y _ => match s.look x, s.look y with
  | some (.w (.one (.c (.int k m)))), some (.w (.one (.c (.int k' n)))) => match decEq k k' with
   | isTrue _ => match PO b m n with
    | some r => some (s.put (some d) (bF r))
    | none => none
   | isFalse _ => none
  | _, _ => none
 | .unOp .not _ x => match s.look x with
  | some (.w (.one (.c (.bool b)))) => some (s.put (some d) (bF (!b)))
  | _ => none
 | _ => none
def PQ (T : xY) (ops : Array Oper) (s : aD) (o : Oper) : Option aD :=
 match want ops o s with
 | some true => match o.dst with
  | some d => bif Nat.blt d s.n then mm T s d o.op else none
  | none => match o.op with
   | .store t x y => match s.look x, s.look y with
    | some (.w (.one (.own k off))), some (.w z) => match s.mem k, jW T.ty t with
     | some cs, some (_, n) => bif Nat.beq n z.cells.length then (match oJ cs off z.cells with
      | some ds => some (s.dV k ds)
      | none => none) else none
     | _, _ => none
    | _, _ => none
   | _ => none
 | some false => match o.dst with
  | some d => bif Nat.blt d s.n then some (s.put (some d) (.cZ [])) else none
  | none => some s
 | none => none
section
variable {P : Program} {T : xY} {s s' : aD} {ops : Array Oper} {K : aD → Prop} {rest : List Oper}
theorem Ts [Q : EZ P T] {d ty : Nat} {op : Op} {pos : String} {after : Array Edge} {guard : Option (Nat × Bool)} (hw : want ops ⟨some d, op, ty, pos, after, guard⟩ s = some true) (hd : Nat.blt d s.n = true) (h : mm T s d op = some s') (k : bj P ops K rest s') :
  bj P ops K (⟨some d, op, ty, pos, after, guard⟩ :: rest) s := by
 cases op with
 | move x =>
  simp only [mm] at h
  split at h
  ·rename_i av aa; cases h; exact Tm hw aa hd k
  ·cases h
 | assign x =>
  simp only [mm] at h
  split at h
  ·rename_i av aa; cases h; exact SX hw aa hd k
  ·cases h
 | pick c x y =>
  simp only [mm] at h
  split at h
  ·rename_i av bv ak aa ag; cases h; exact Tr hw ak aa ag hd k
  ·rename_i av bv ak aa ag; cases h; exact Tq hw ak ag aa hd k
  ·cases h
 | alloc t =>
  simp only [mm] at h
  split at h
  ·rename_i vs a6 hm;have dE := qe _ Q.zero a6;cases h1 : (vs.all fun v => v.oneCell') with
   | true =>
    rw [h1] at h;cases h;have : Bk P t vs := ⟨dE⟩;exact SV hw hm h1 hd k
   | false => rw [h1] at h; cases h
  ·cases h
 | box t x =>
  simp only [mm] at h
  split at h
  ·rename_i z aa hm; cases h; exact SY hw aa hm hd k
  ·cases h
 | load t x =>
  simp only [mm] at h
  split at h
  ·rename_i j off aa
   split at h
   ·rename_i cs hm
    split at h
    ·rename_i n dY;have yL := qe _ Q.ty dY
     split at h
     ·rename_i y ak; cases h; have : fM P t false n := ⟨yL⟩; exact Ti hw aa hm ak hd k
     ·cases h
    ·rename_i n dY;have yL := qe _ Q.ty dY
     split at h
     ·rename_i aV ak; cases h; have : fM P t true n := ⟨yL⟩; exact Tj hw aa hm ak hd k
     ·cases h
    ·cases h
   ·cases h
  ·cases h
 | fieldAddr t x i =>
  simp only [mm] at h
  split at h
  ·rename_i j off aa
   split at h
   ·rename_i l an
    split at h
    ·rename_i hK au;have hF := qe _ (qe _ Q.ng an) au;cases h;have : p5 P t i hK := ⟨hF⟩;exact Ta hw aa hd k
    ·cases h
   ·cases h
  ·cases h
 | indexAddr t x y =>
  simp only [mm] at h
  split at h
  ·rename_i j off gC i aa ag
   split at h
   ·rename_i n size dS;have yG := qe _ Q.mA dS;cases h1 : (decide (0 ≤ i) && decide (i < (n : Int))) with
    | true =>
     rw [h1] at h;cases h;rw [dQ, cB, cB] at h1;have : Ja P t n size := ⟨yG⟩;exact Te hw aa ag h1.1 h1.2 hd k
    | false => rw [h1] at h; cases h
   ·cases h
  ·cases h
 | extract x i =>
  simp only [mm] at h
  split at h
  ·rename_i xs aa
   split at h
   ·rename_i y ag; cases h; exact S7 hw aa ag hd k
   ·cases h
  ·cases h
 | build t parts =>
  simp only [mm] at h
  split at h
  ·rename_i zs vs ps a6 hv hp;have dE := qe _ Q.zero hv;have iB := qe _ Q.ic hp
   split at h
   ·rename_i r aq;cases h1 : (vs.all fun v => v.oneCell') with
    | true =>
     rw [h1] at h;cases h;have : Bk P t vs := ⟨dE⟩;have : Jx P t ps := ⟨iB⟩;have g : bj P ops K (⟨some d, .build t parts.toList.toArray, ty, pos, after, guard⟩ :: rest) s := SZ (by rw [Array.toArray_toList]; exact hw) a6 aq h1 hd k;rwa [Array.toArray_toList] at g
    | false => rw [h1] at h; cases h
   ·cases h
  ·cases h
 | binOp b c0 x y dI =>
  simp only [mm] at h
  split at h
  ·rename_i gC m ahC n aa ag
   split at h
   ·rename_i e he;subst e;cases b <;> simp only [PO] at h <;> cases h
    ·exact S6 hw aa ag hd k
    ·exact Tn hw aa ag hd k
    ·exact Tk hw aa ag hd k
    ·exact Th hw aa ag hd k
    ·exact Td hw aa ag hd k
    ·exact Tc hw aa ag hd k
   ·cases h
  ·cases h
 | unOp u c0 x =>
  cases u <;> simp only [mm] at h <;> try (cases h; done)
  split at h
  ·rename_i b aa; cases h; exact Tp hw aa hd k
  ·cases h
 | _ => simp only [mm] at h; cases h
theorem aA [Q : EZ P T] {o : Oper} (h : PQ T ops s o = some s') (k : bj P ops K rest s') : bj P ops K (o :: rest) s := by
 obtain ⟨dst, op, ty, pos, after, guard⟩ := o;unfold PQ at h
 split at h
 ·rename_i hw;cases dst with
  | some d =>
   simp only at h;cases hd : Nat.blt d s.n with
   | true => rw [hd] at h; exact Ts hw hd h k
   | false => rw [hd] at h; cases h
  | none =>
   simp only at h
   split at h
   ·rename_i t x y
    split at h
    ·rename_i j off z aa ag
     split at h
     ·rename_i cs b n hm dY;have yL := qe _ Q.ty dY;cases aF : Nat.beq n z.cells.length with
      | true =>
       rw [aF] at h;simp only [cond_true] at h
       split at h
       ·rename_i ds hp;cases h;have : fM P t b n := ⟨yL⟩;exact Tv hw aa ag hm aF hp k
       ·cases h
      | false => rw [aF] at h; cases h
     ·cases h
    ·cases h
   ·cases h
 ·rename_i hw;cases dst with
  | some d =>
   simp only at h;cases hd : Nat.blt d s.n with
   | true => rw [hd] at h; cases h; exact Kd hw (fun d' e => by cases e; exact hd) k
   | false => rw [hd] at h; cases h
  | none => cases h; exact Kd hw (fun d' e => by cases e) k
 ·cases h
end
end Go.Proofs.YtpochbhajmbfdaaGreat
namespace Go.Proofs.YtpochbhajmbfdaaGreat
instance : fM aj 3 false 1 := ⟨by kernel_rfl⟩
instance : ET aj 3 .i64 := ⟨by kernel_rfl⟩
instance : fM aj 4 false 1 := ⟨by kernel_rfl⟩
instance : hH aj 22 5 := ⟨by kernel_rfl⟩
instance : nV aj 28 [.int .i64 0, .int .i64 0, .int .i64 0, .int .i64 0, .int .i64 0] := ⟨by kernel_rfl⟩
instance : hH aj 28 5 := ⟨by kernel_rfl⟩
instance : fM aj 42 false 1 := ⟨by kernel_rfl⟩
instance : nV aj 42 [.int .i64 0, .int .i64 0] := ⟨by kernel_rfl⟩
instance : hH aj 42 2 := ⟨by kernel_rfl⟩
instance : nV aj 43 [.slice none 0 0, .slice none 0 0] := ⟨by kernel_rfl⟩
instance : hH aj 43 2 := ⟨by kernel_rfl⟩
instance : fM aj 45 true 10 := ⟨by kernel_rfl⟩
instance : p5 aj 45 2 2 := ⟨by kernel_rfl⟩
instance : fM aj 51 false 1 := ⟨by kernel_rfl⟩
instance : nV aj 51 [.int .i64 0] := ⟨by kernel_rfl⟩
instance : hH aj 51 1 := ⟨by kernel_rfl⟩
instance : fM aj 53 true 2 := ⟨by kernel_rfl⟩
instance : p5 aj 53 0 0 := ⟨by kernel_rfl⟩
instance : p5 aj 53 1 1 := ⟨by kernel_rfl⟩
instance : fM aj 59 true 2 := ⟨by kernel_rfl⟩
instance : fM aj 61 true 2 := ⟨by kernel_rfl⟩
instance : fM aj 63 true 5 := ⟨by kernel_rfl⟩
instance : nV aj 79 [.int .i64 0, .int .i64 0] := ⟨by kernel_rfl⟩
instance : hH aj 79 2 := ⟨by kernel_rfl⟩
instance : fM aj 91 true 5 := ⟨by kernel_rfl⟩
instance : nV aj 96 [.int .i64 0, .int .i64 0, .int .i64 0, .int .i64 0] := ⟨by kernel_rfl⟩
instance : hH aj 96 4 := ⟨by kernel_rfl⟩
instance : p5 aj 98 1 1 := ⟨by kernel_rfl⟩
instance : fM aj 126 true 6 := ⟨by kernel_rfl⟩
instance : nV aj 137 [.int .i64 0, .int .i64 0, .int .i64 0] := ⟨by kernel_rfl⟩
instance : hH aj 137 3 := ⟨by kernel_rfl⟩
instance : fM aj 161 true 4 := ⟨by kernel_rfl⟩
instance : fM aj 163 true 13 := ⟨by kernel_rfl⟩
instance : fM aj 167 true 4 := ⟨by kernel_rfl⟩
instance : fM aj 216 true 4 := ⟨by kernel_rfl⟩
instance : fM aj 253 false 1 := ⟨by kernel_rfl⟩
instance : ET aj 253 .u64 := ⟨by kernel_rfl⟩
instance : nV aj 256 [.slice none 0 0] := ⟨by kernel_rfl⟩
instance : hH aj 256 1 := ⟨by kernel_rfl⟩
instance : nV aj 257 [.slice none 0 0] := ⟨by kernel_rfl⟩
instance : hH aj 257 1 := ⟨by kernel_rfl⟩
instance : fM aj 261 true 3 := ⟨by kernel_rfl⟩
instance : p5 aj 261 1 2 := ⟨by kernel_rfl⟩
instance : fM aj 282 true 3 := ⟨by kernel_rfl⟩
instance : fM aj 284 true 10 := ⟨by kernel_rfl⟩
instance : fM aj 307 true 4 := ⟨by kernel_rfl⟩
instance : Enters aj 16 := ⟨by kernel_rfl⟩
instance : Enters aj 17 := ⟨by kernel_rfl⟩
instance : Enters aj 18 := ⟨by kernel_rfl⟩
instance : Enters aj 23 := ⟨by kernel_rfl⟩
instance : Enters aj 24 := ⟨by kernel_rfl⟩
instance : Enters aj 25 := ⟨by kernel_rfl⟩
instance : Enters aj 28 := ⟨by kernel_rfl⟩
instance : Enters aj 32 := ⟨by kernel_rfl⟩
instance : Enters aj 37 := ⟨by kernel_rfl⟩
instance : Enters aj 41 := ⟨by kernel_rfl⟩
instance : Enters aj 42 := ⟨by kernel_rfl⟩
instance : Enters aj 43 := ⟨by kernel_rfl⟩
instance : Enters aj 50 := ⟨by kernel_rfl⟩
instance : Enters aj 53 := ⟨by kernel_rfl⟩
instance : Enters aj 54 := ⟨by kernel_rfl⟩
instance : Enters aj 55 := ⟨by kernel_rfl⟩
instance : Enters aj 56 := ⟨by kernel_rfl⟩
instance : Enters aj 57 := ⟨by kernel_rfl⟩
instance : Enters aj 65 := ⟨by kernel_rfl⟩
instance : Enters aj 66 := ⟨by kernel_rfl⟩
instance : Enters aj 67 := ⟨by kernel_rfl⟩
instance : Enters aj 68 := ⟨by kernel_rfl⟩
instance : Enters aj 69 := ⟨by kernel_rfl⟩
instance : Enters aj 70 := ⟨by kernel_rfl⟩
instance : Enters aj 72 := ⟨by kernel_rfl⟩
instance : Enters aj 77 := ⟨by kernel_rfl⟩
instance : Enters aj 78 := ⟨by kernel_rfl⟩
instance : Enters aj 83 := ⟨by kernel_rfl⟩
instance : Enters aj 84 := ⟨by kernel_rfl⟩
instance : Enters aj 85 := ⟨by kernel_rfl⟩
instance : Enters aj 88 := ⟨by kernel_rfl⟩
instance : Enters aj 91 := ⟨by kernel_rfl⟩
instance : Enters aj 98 := ⟨by kernel_rfl⟩
instance : Enters aj 99 := ⟨by kernel_rfl⟩
instance : Enters aj 100 := ⟨by kernel_rfl⟩
instance : Enters aj 101 := ⟨by kernel_rfl⟩
instance : Enters aj 102 := ⟨by kernel_rfl⟩
instance : Enters aj 115 := ⟨by kernel_rfl⟩
instance : Enters aj 116 := ⟨by kernel_rfl⟩
instance : Enters aj 117 := ⟨by kernel_rfl⟩
instance : Enters aj 118 := ⟨by kernel_rfl⟩
instance : Enters aj 119 := ⟨by kernel_rfl⟩
instance : Enters aj 120 := ⟨by kernel_rfl⟩
instance : Enters aj 121 := ⟨by kernel_rfl⟩
instance : Enters aj 122 := ⟨by kernel_rfl⟩
instance : Enters aj 123 := ⟨by kernel_rfl⟩
instance : Enters aj 124 := ⟨by kernel_rfl⟩
instance : Enters aj 125 := ⟨by kernel_rfl⟩
instance : Enters aj 126 := ⟨by kernel_rfl⟩
instance : Enters aj 127 := ⟨by kernel_rfl⟩
instance : Enters aj 128 := ⟨by kernel_rfl⟩
instance : Enters aj 129 := ⟨by kernel_rfl⟩
instance : Enters aj 130 := ⟨by kernel_rfl⟩
instance : Enters aj 131 := ⟨by kernel_rfl⟩
instance : Enters aj 132 := ⟨by kernel_rfl⟩
instance : Enters aj 133 := ⟨by kernel_rfl⟩
instance : Enters aj 154 := ⟨by kernel_rfl⟩
instance : Enters aj 163 := ⟨by kernel_rfl⟩
instance : Enters aj 170 := ⟨by kernel_rfl⟩
instance : Enters aj 171 := ⟨by kernel_rfl⟩
instance : Enters aj 172 := ⟨by kernel_rfl⟩
instance : Enters aj 173 := ⟨by kernel_rfl⟩
instance : Enters aj 174 := ⟨by kernel_rfl⟩
instance : Enters aj 175 := ⟨by kernel_rfl⟩
instance : Enters aj 176 := ⟨by kernel_rfl⟩
instance : Enters aj 177 := ⟨by kernel_rfl⟩
instance : Enters aj 178 := ⟨by kernel_rfl⟩
instance : Enters aj 179 := ⟨by kernel_rfl⟩
instance : Enters aj 180 := ⟨by kernel_rfl⟩
instance : Enters aj 181 := ⟨by kernel_rfl⟩
instance : Enters aj 182 := ⟨by kernel_rfl⟩
instance : Enters aj 183 := ⟨by kernel_rfl⟩
instance : Enters aj 184 := ⟨by kernel_rfl⟩
instance : Enters aj 185 := ⟨by kernel_rfl⟩
instance : Enters aj 186 := ⟨by kernel_rfl⟩
instance : Enters aj 187 := ⟨by kernel_rfl⟩
instance : Enters aj 200 := ⟨by kernel_rfl⟩
instance : Enters aj 201 := ⟨by kernel_rfl⟩
instance : Enters aj 202 := ⟨by kernel_rfl⟩
instance : Enters aj 215 := ⟨by kernel_rfl⟩
instance : Enters aj 216 := ⟨by kernel_rfl⟩
instance : Enters aj 217 := ⟨by kernel_rfl⟩
instance : Enters aj 218 := ⟨by kernel_rfl⟩
instance : Enters aj 219 := ⟨by kernel_rfl⟩
instance : Enters aj 220 := ⟨by kernel_rfl⟩
instance : Enters aj 221 := ⟨by kernel_rfl⟩
instance : Enters aj 222 := ⟨by kernel_rfl⟩
instance : Enters aj 223 := ⟨by kernel_rfl⟩
instance : Enters aj 224 := ⟨by kernel_rfl⟩
instance : Enters aj 225 := ⟨by kernel_rfl⟩
instance : Enters aj 226 := ⟨by kernel_rfl⟩
instance : Enters aj 227 := ⟨by kernel_rfl⟩
instance : Enters aj 229 := ⟨by kernel_rfl⟩
instance : Enters aj 230 := ⟨by kernel_rfl⟩
instance : Enters aj 231 := ⟨by kernel_rfl⟩
instance : Enters aj 242 := ⟨by kernel_rfl⟩
instance : Enters aj 243 := ⟨by kernel_rfl⟩
instance : Enters aj 244 := ⟨by kernel_rfl⟩
instance : Enters aj 249 := ⟨by kernel_rfl⟩
instance : Enters aj 250 := ⟨by kernel_rfl⟩
instance : Enters aj 251 := ⟨by kernel_rfl⟩
instance : Enters aj 252 := ⟨by kernel_rfl⟩
instance : Enters aj 253 := ⟨by kernel_rfl⟩
instance : Enters aj 254 := ⟨by kernel_rfl⟩
instance : Enters aj 255 := ⟨by kernel_rfl⟩
instance : Enters aj 256 := ⟨by kernel_rfl⟩
instance : Enters aj 258 := ⟨by kernel_rfl⟩
instance : Enters aj 259 := ⟨by kernel_rfl⟩
instance : Enters aj 260 := ⟨by kernel_rfl⟩
instance : Enters aj 261 := ⟨by kernel_rfl⟩
instance : Enters aj 273 := ⟨by kernel_rfl⟩
instance : Enters aj 274 := ⟨by kernel_rfl⟩
instance : Enters aj 275 := ⟨by kernel_rfl⟩
instance : Enters aj 276 := ⟨by kernel_rfl⟩
instance : Enters aj 282 := ⟨by kernel_rfl⟩
instance : Enters aj 283 := ⟨by kernel_rfl⟩
instance : Enters aj 284 := ⟨by kernel_rfl⟩
instance : Enters aj 285 := ⟨by kernel_rfl⟩
instance : Enters aj 294 := ⟨by kernel_rfl⟩
instance : Enters aj 295 := ⟨by kernel_rfl⟩
def tab : xY where
 ty := [(0, false, 1), (1, false, 1), (2, false, 1), (3, false, 1), (4, false, 1), (5, false, 1), (6, false, 1), (7, true, 4), (8, true, 4), (9, false, 1), (10, false, 1), (11, false, 1), (12, false, 1), (13, true, 2), (14, true, 2), (15, false, 1), (16, false, 1), (17, false, 1), (18, true, 1), (19, true, 1), (20, false, 1), (21, false, 1), (22, false, 1), (23, true, 2), (24, false, 1), (25, false, 1), (26, false, 1), (27, false, 1), (28, false, 1), (29, false, 1), (30, false, 1), (31, false, 1), (32, false, 1), (33, true, 11), (34, true, 11), (35, false, 1), (36, false, 1), (37, false, 1), (38, false, 1), (39, false, 1), (40, false, 1), (41, false, 1), (42, false, 1), (43, false, 1), (44, true, 10), (45, true, 10), (46, false, 1), (47, false, 1), (48, false, 1), (49, true, 2), (50, true, 2), (51, false, 1), (52, true, 2), (53, true, 2), (54, true, 2), (55, true, 2), (56, false, 1), (57, false, 1), (58, true, 2), (59, true, 2), (60, false, 1), (61, true, 2), (62, true, 5), (63, true, 5), (64, true, 2), (65, false, 1), (66, false, 1), (67, false, 1), (68, false, 1), (69, false, 1), (70, false, 1), (71, false, 1), (72, false, 1), (73, true, 4), (74, false, 1), (75, false, 1), (76, false, 1), (77, false, 1), (78, false, 1), (79, false, 1), (80, false, 1), (81, false, 1), (82, false, 1), (83, false, 1), (84, false, 1), (85, false, 1), (86, false, 1), (87, false, 1), (88, true, 4), (89, false, 1), (90, false, 1), (91, true, 5), (92, false, 1), (93, false, 1), (94, false, 1), (95, false, 1), (96, false, 1), (97, true, 13), (98, true, 13), (99, false, 1), (100, false, 1), (101, false, 1), (102, false, 1), (103, false, 1), (104, true, 4), (105, false, 1), (106, false, 1), (107, false, 1), (108, false, 1), (109, true, 2), (110, true, 2), (111, true, 4), (112, true, 4), (113, true, 9), (114, true, 9), (115, false, 1), (116, false, 1), (117, false, 1), (118, false, 1), (119, false, 1), (120, false, 1), (121, true, 13), (122, true, 13), (123, false, 1), (124, false, 1), (125, false, 1), (126, true, 6), (127, false, 1), (128, false, 1), (129, false, 1), (130, false, 1), (131, false, 1), (132, false, 1), (133, false, 1), (134, false, 1), (135, false, 1), (136, false, 1), (137, false, 1), (138, true, 1), (139, true, 1), (140, true, 2), (141, true, 2), (142, false, 1), (143, false, 1), (144, false, 1), (145, false, 1), (146, false, 1), (147, false, 1), (148, false, 1), (149, false, 1), (150, false, 1), (151, false, 1), (152, false, 1), (153, false, 1), (154, false, 1), (155, false, 1), (156, false, 1), (157, false, 1), (158, true, 2), (159, true, 2), (160, true, 4), (161, true, 4), (162, true, 13), (163, true, 13), (164, false, 1), (165, false, 1), (166, true, 4), (167, true, 4), (168, false, 1), (169, false, 1), (170, false, 1), (171, false, 1), (172, false, 1), (173, false, 1), (174, false, 1), (175, false, 1), (176, false, 1), (177, false, 1), (178, false, 1), (179, false, 1), (180, false, 1), (181, false, 1), (182, false, 1), (183, false, 1), (184, false, 1), (185, false, 1), (186, false, 1), (187, false, 1), (188, false, 1), (189, false, 1), (190, false, 1), (191, false, 1), (192, false, 1), (193, false, 1), (194, false, 1), (195, false, 1), (196, false, 1), (197, false, 1), (198, false, 1), (199, false, 1), (200, false, 1), (201, false, 1), (202, true, 6), (203, false, 1), (204, false, 1), (205, false, 1), (206, false, 1), (207, false, 1), (208, false, 1), (209, false, 1), (210, false, 1), (211, false, 1), (212, false, 1), (213, false, 1), (214, false, 1), (215, true, 4), (216, true, 4), (217, false, 1), (218, false, 1), (219, false, 1), (220, false, 1), (221, false, 1), (222, false, 1), (223, false, 1), (224, false, 1), (225, false, 1), (226, false, 1), (227, false, 1), (228, false, 1), (229, false, 1), (230, false, 1), (231, false, 1), (232, false, 1), (233, false, 1), (234, false, 1), (235, false, 1), (236, false, 1), (237, false, 1), (238, false, 1), (239, false, 1), (240, false, 1), (241, false, 1), (242, false, 1), (243, false, 1), (244, false, 1), (245, false, 1), (246, false, 1), (247, false, 1), (248, false, 1), (249, false, 1), (250, false, 1), (251, false, 1), (252, false, 1), (253, false, 1), (254, false, 1), (255, false, 1), (256, false, 1), (257, false, 1), (258, false, 1), (259, false, 1), (260, true, 3), (261, true, 3), (262, false, 1), (263, false, 1), (264, false, 1), (265, true, 5), (266, true, 5), (267, false, 1), (268, false, 1), (269, false, 1), (270, false, 1), (271, false, 1), (272, false, 1), (273, false, 1), (274, false, 1), (275, false, 1), (276, false, 1), (277, false, 1), (278, false, 1), (279, true, 6), (280, true, 6), (281, true, 3), (282, true, 3), (283, true, 10), (284, true, 10), (285, false, 1), (286, false, 1), (287, true, 4), (288, false, 1), (289, false, 1), (290, false, 1), (291, false, 1), (292, false, 1), (293, false, 1), (294, false, 1), (295, false, 1), (296, false, 1), (297, false, 1), (298, false, 1), (299, false, 1), (300, false, 1), (301, false, 1), (302, false, 1), (303, false, 1), (304, false, 1), (305, false, 1), (306, true, 4), (307, true, 4), (308, false, 1), (309, false, 1), (310, true, 2), (311, true, 2), (312, false, 1), (313, false, 1), (314, false, 1), (315, false, 1), (316, false, 1), (317, false, 1), (318, false, 1), (319, false, 1), (320, false, 1), (321, false, 1), (322, false, 1), (323, false, 1), (324, false, 1), (325, false, 1), (326, false, 1), (327, false, 1), (328, false, 1), (329, false, 1), (330, false, 1), (331, false, 1), (332, false, 1), (333, false, 1), (334, false, 1), (335, false, 1), (336, false, 1), (337, true, 4), (338, true, 4), (339, true, 0), (340, true, 0), (341, true, 0), (342, false, 1), (343, false, 1), (344, false, 1), (345, false, 1), (346, false, 1), (347, false, 1), (348, true, 11), (349, true, 11), (350, true, 1), (351, true, 1), (352, false, 1)]
 zero := [(1, [.nilFunc]), (2, [.int .i64 0]), (3, [.int .i64 0]), (4, [.bool false]), (5, [.int .u8 0]), (6, [.int .u8 0]), (7, [.int .i64 0, .int .i64 0, .bool false, .int .u8 0]), (8, [.int .i64 0, .int .i64 0, .bool false, .int .u8 0]), (9, [.string ByteArray.empty]), (10, [.string ByteArray.empty]), (11, [.string ByteArray.empty]), (12, [.int .u64 0]), (13, [.string ByteArray.empty, .int .u64 0]), (14, [.string ByteArray.empty, .int .u64 0]), (15, [.pointer none]), (16, [.pointer none]), (17, [.pointer none]), (18, [.pointer none]), (19, [.pointer none]), (20, [.nilIface]), (21, [.int .i32 0]), (22, [.slice none 0 0]), (23, [.int .i64 0, .int .i64 0]), (24, [.nilFunc]), (25, [.nilFunc]), (26, [.pointer none]), (27, [.nilFunc]), (28, [.slice none 0 0]), (29, [.nilFunc]), (30, [.nilFunc]), (31, [.slice none 0 0]), (32, [.slice none 0 0]), (33, [.slice none 0 0, .int .i64 0, .int .i64 0, .int .i64 0, .int .i64 0, .int .i64 0, .int .i64 0, .bool false, .slice none 0 0, .slice none 0 0, .slice none 0 0]), (34, [.slice none 0 0, .int .i64 0, .int .i64 0, .int .i64 0, .int .i64 0, .int .i64 0, .int .i64 0, .bool false, .slice none 0 0, .slice none 0 0, .slice none 0 0]), (35, [.nilFunc]), (37, [.nilFunc]), (38, [.nilFunc]), (39, [.nilFunc]), (40, [.nilFunc]), (41, [.nilFunc]), (42, [.slice none 0 0]), (43, [.slice none 0 0]), (44, [.int .i64 0, .int .i64 0, .int .i64 0, .int .i64 0, .int .i64 0, .int .i64 0, .bool false, .slice none 0 0, .slice none 0 0, .slice none 0 0]), (45, [.int .i64 0, .int .i64 0, .int .i64 0, .int .i64 0, .int .i64 0, .int .i64 0, .bool false, .slice none 0 0, .slice none 0 0, .slice none 0 0]), (46, [.nilFunc]), (47, [.nilFunc]), (48, [.nilFunc]), (49, [.int .i64 0, .slice none 0 0]), (50, [.int .i64 0, .slice none 0 0]), (51, [.slice none 0 0]), (52, [.slice none 0 0, .slice none 0 0]), (53, [.slice none 0 0, .slice none 0 0]), (54, [.slice none 0 0, .slice none 0 0]), (55, [.slice none 0 0, .slice none 0 0]), (56, [.nilFunc]), (57, [.nilFunc]), (58, [.int .i64 0, .int .i64 0]), (59, [.int .i64 0, .int .i64 0]), (60, [.nilFunc]), (61, [.int .i64 0, .int .i64 0]), (62, [.int .i64 0, .int .i64 0, .int .i64 0, .int .i64 0, .int .i64 0]), (63, [.int .i64 0, .int .i64 0, .int .i64 0, .int .i64 0, .int .i64 0]), (64, [.int .i64 0, .int .i64 0]), (65, [.nilFunc]), (66, [.nilFunc]), (67, [.nilFunc]), (68, [.nilFunc]), (69, [.nilFunc]), (70, [.slice none 0 0]), (71, [.nilFunc]), (72, [.nilFunc]), (73, [.int .i64 0, .int .i64 0, .int .i64 0, .int .i64 0]), (74, [.nilFunc]), (75, [.nilFunc]), (76, [.nilFunc]), (77, [.nilFunc]), (78, [.nilFunc]), (79, [.slice none 0 0]), (80, [.nilFunc]), (81, [.nilFunc]), (83, [.nilFunc]), (84, [.nilFunc]), (85, [.nilFunc]), (86, [.nilFunc]), (87, [.nilFunc]), (88, [.int .i64 0, .int .i64 0, .int .i64 0, .int .i64 0]), (89, [.nilFunc]), (90, [.nilFunc]), (91, [.int .i64 0, .int .i64 0, .int .i64 0, .int .i64 0, .int .i64 0]), (92, [.nilFunc]), (93, [.pointer none]), (94, [.nilFunc]), (95, [.nilFunc]), (96, [.slice none 0 0]), (97, [.slice none 0 0, .int .i64 0, .int .i64 0, .int .i64 0, .int .i64 0, .int .i64 0, .int .i64 0, .bool false, .slice none 0 0, .slice none 0 0, .slice none 0 0, .pointer none, .slice none 0 0]), (98, [.slice none 0 0, .int .i64 0, .int .i64 0, .int .i64 0, .int .i64 0, .int .i64 0, .int .i64 0, .bool false, .slice none 0 0, .slice none 0 0, .slice none 0 0, .pointer none, .slice none 0 0]), (99, [.nilFunc]), (100, [.nilFunc]), (101, [.nilFunc]), (102, [.nilFunc]), (103, [.nilFunc]), (104, [.nilFunc, .nilFunc, .nilFunc, .nilFunc]), (105, [.nilFunc]), (106, [.nilFunc]), (107, [.nilFunc]), (108, [.slice none 0 0]), (109, [.bool false, .slice none 0 0]), (110, [.bool false, .slice none 0 0]), (111, [.bool false, .slice none 0 0, .bool false, .slice none 0 0]), (112, [.bool false, .slice none 0 0, .bool false, .slice none 0 0]), (113, [.bool false, .slice none 0 0, .bool false, .slice none 0 0, .bool false, .slice none 0 0, .bool false, .slice none 0 0, .bool false]), (114, [.bool false, .slice none 0 0, .bool false, .slice none 0 0, .bool false, .slice none 0 0, .bool false, .slice none 0 0, .bool false]), (115, [.nilFunc]), (116, [.nilFunc]), (117, [.nilFunc]), (118, [.nilFunc]), (119, [.nilFunc]), (120, [.nilFunc]), (121, [.int .i64 0, .bool false, .slice none 0 0, .bool false, .slice none 0 0, .bool false, .slice none 0 0, .bool false, .slice none 0 0, .int .i64 0, .int .i64 0, .int .i64 0, .int .i64 0]), (122, [.int .i64 0, .bool false, .slice none 0 0, .bool false, .slice none 0 0, .bool false, .slice none 0 0, .bool false, .slice none 0 0, .int .i64 0, .int .i64 0, .int .i64 0, .int .i64 0]), (123, [.nilFunc]), (124, [.nilFunc]), (125, [.nilFunc]), (126, [.int .i64 0, .int .i64 0, .int .i64 0, .int .i64 0, .int .i64 0, .int .i64 0]), (127, [.nilFunc]), (128, [.nilFunc]), (129, [.nilFunc]), (130, [.nilFunc]), (131, [.nilFunc]), (132, [.nilFunc]), (133, [.nilFunc]), (134, [.nilFunc]), (135, [.nilFunc]), (136, [.nilFunc]), (137, [.slice none 0 0]), (138, [.slice none 0 0]), (139, [.slice none 0 0]), (140, [.slice none 0 0, .int .i64 0]), (141, [.slice none 0 0, .int .i64 0]), (142, [.nilFunc]), (143, [.nilFunc]), (144, [.nilFunc]), (145, [.nilFunc]), (146, [.nilFunc]), (147, [.nilFunc]), (148, [.nilFunc]), (149, [.nilFunc]), (150, [.nilFunc]), (152, [.nilFunc]), (154, [.nilFunc]), (155, [.nilFunc]), (156, [.nilFunc]), (157, [.int .u64 0]), (158, [.int .i64 0, .int .u64 0]), (159, [.int .i64 0, .int .u64 0]), (160, [.int .i64 0, .int .u64 0, .int .i64 0, .int .u64 0]), (161, [.int .i64 0, .int .u64 0, .int .i64 0, .int .u64 0]), (162, [.int .i64 0, .int .i64 0, .int .u64 0, .int .i64 0, .int .u64 0, .int .i64 0, .int .u64 0, .int .i64 0, .int .u64 0, .int .i64 0, .int .i64 0, .int .i64 0, .int .i64 0]), (163, [.int .i64 0, .int .i64 0, .int .u64 0, .int .i64 0, .int .u64 0, .int .i64 0, .int .u64 0, .int .i64 0, .int .u64 0, .int .i64 0, .int .i64 0, .int .i64 0, .int .i64 0]), (164, [.nilFunc]), (165, [.pointer none]), (166, [.int .i64 0, .int .i64 0, .int .i64 0, .int .i64 0]), (167, [.int .i64 0, .int .i64 0, .int .i64 0, .int .i64 0]), (168, [.nilFunc]), (170, [.nilFunc]), (171, [.nilFunc]), (172, [.nilFunc]), (173, [.nilFunc]), (175, [.nilFunc]), (176, [.nilFunc]), (177, [.nilFunc]), (178, [.nilFunc]), (179, [.nilFunc]), (180, [.nilFunc]), (181, [.nilFunc]), (182, [.nilFunc]), (183, [.nilFunc]), (184, [.nilFunc]), (185, [.slice none 0 0]), (186, [.nilFunc]), (187, [.nilFunc]), (188, [.nilFunc]), (189, [.nilFunc]), (190, [.nilFunc]), (191, [.nilFunc]), (193, [.nilFunc]), (194, [.nilFunc]), (195, [.nilFunc]), (196, [.nilFunc]), (197, [.nilFunc]), (198, [.nilFunc]), (199, [.int .i64 0]), (201, [.nilFunc]), (202, [.nilFunc, .nilFunc, .nilFunc, .nilFunc, .nilFunc, .nilFunc]), (203, [.nilFunc]), (204, [.nilFunc]), (205, [.nilFunc]), (207, [.nilFunc]), (208, [.nilFunc]), (210, [.nilFunc]), (211, [.nilFunc]), (212, [.nilFunc]), (214, [.nilFunc]), (215, [.int .i64 0, .int .i64 0, .int .i64 0, .int .i64 0]), (216, [.int .i64 0, .int .i64 0, .int .i64 0, .int .i64 0]), (217, [.nilFunc]), (218, [.nilFunc]), (219, [.nilFunc]), (220, [.nilFunc]), (221, [.nilFunc]), (222, [.nilFunc]), (223, [.nilFunc]), (224, [.nilFunc]), (225, [.nilFunc]), (226, [.nilFunc]), (227, [.nilFunc]), (228, [.nilFunc]), (229, [.nilFunc]), (230, [.nilFunc]), (231, [.nilFunc]), (232, [.nilFunc]), (233, [.nilFunc]), (234, [.nilFunc]), (236, [.nilFunc]), (237, [.nilFunc]), (238, [.slice none 0 0]), (239, [.nilFunc]), (240, [.nilFunc]), (241, [.nilFunc]), (242, [.nilFunc]), (243, [.nilFunc]), (244, [.nilFunc]), (245, [.nilFunc]), (247, [.nilFunc]), (248, [.nilFunc]), (250, [.nilFunc]), (251, [.nilFunc]), (252, [.nilFunc]), (253, [.int .u64 0]), (255, [.nilFunc]), (256, [.slice none 0 0]), (257, [.slice none 0 0]), (258, [.nilFunc]), (259, [.pointer none]), (260, [.int .i64 0, .int .i64 0, .int .i64 0]), (261, [.int .i64 0, .int .i64 0, .int .i64 0]), (262, [.nilFunc]), (263, [.nilFunc]), (264, [.nilFunc]), (265, [.int .i64 0, .int .i64 0, .int .i64 0, .int .i64 0, .int .i64 0]), (266, [.int .i64 0, .int .i64 0, .int .i64 0, .int .i64 0, .int .i64 0]), (267, [.nilFunc]), (268, [.map none]), (269, [.nilFunc]), (270, [.nilFunc]), (272, [.nilFunc]), (273, [.nilFunc]), (275, [.nilFunc]), (276, [.nilFunc]), (277, [.nilFunc]), (278, [.nilFunc]), (279, [.int .i64 0, .int .i64 0, .int .i64 0, .int .i64 0, .bool false, .bool false]), (280, [.int .i64 0, .int .i64 0, .int .i64 0, .int .i64 0, .bool false, .bool false]), (281, [.int .i64 0, .int .i64 0, .bool false]), (282, [.int .i64 0, .int .i64 0, .bool false]), (283, [.int .i64 0, .int .i64 0, .int .i64 0, .int .i64 0, .int .i64 0, .int .i64 0, .bool false, .int .i64 0, .int .i64 0, .bool false]), (284, [.int .i64 0, .int .i64 0, .int .i64 0, .int .i64 0, .int .i64 0, .int .i64 0, .bool false, .int .i64 0, .int .i64 0, .bool false]), (285, [.nilFunc]), (286, [.nilFunc]), (287, [.nilFunc, .nilFunc, .nilFunc, .nilFunc]), (288, [.int .u32 0]), (290, [.nilFunc]), (292, [.nilFunc]), (293, [.nilFunc]), (294, [.nilFunc]), (295, [.nilFunc]), (296, [.nilFunc]), (297, [.nilFunc]), (298, [.nilFunc]), (299, [.nilFunc]), (300, [.nilFunc]), (301, [.nilFunc]), (302, [.nilFunc]), (303, [.nilFunc]), (304, [.nilFunc]), (305, [.nilFunc]), (306, [.int .i64 0, .int .i64 0, .int .i64 0, .int .i64 0]), (307, [.int .i64 0, .int .i64 0, .int .i64 0, .int .i64 0]), (308, [.nilFunc]), (309, [.nilFunc]), (310, [.int .u64 0, .int .u64 0]), (311, [.int .u64 0, .int .u64 0]), (313, [.nilFunc]), (314, [.nilFunc]), (315, [.nilFunc]), (316, [.nilFunc]), (317, [.nilFunc]), (318, [.nilFunc]), (319, [.nilFunc]), (320, [.nilFunc]), (322, [.nilFunc]), (323, [.nilFunc]), (324, [.nilFunc]), (325, [.nilFunc]), (326, [.nilFunc]), (328, [.nilFunc]), (329, [.nilFunc]), (330, [.nilFunc]), (331, [.nilFunc]), (332, [.nilFunc]), (333, [.nilIface]), (334, [.nilIface]), (335, [.pointer none]), (336, [.nilFunc]), (337, [.pointer none, .pointer none, .pointer none, .string ByteArray.empty]), (338, [.pointer none, .pointer none, .pointer none, .string ByteArray.empty]), (339, []), (340, []), (341, []), (342, [.int .u8 0]), (343, [.int .u8 0]), (344, [.nilFunc]), (345, [.pointer none]), (346, [.int .i32 0]), (347, [.int .i32 0]), (348, [.int .u64 0, .int .u64 0, .int .u32 0, .int .u8 0, .int .u8 0, .int .u8 0, .int .u8 0, .nilFunc, .pointer none, .int .i32 0, .int .i32 0]), (349, [.int .u64 0, .int .u64 0, .int .u32 0, .int .u8 0, .int .u8 0, .int .u8 0, .int .u8 0, .nilFunc, .pointer none, .int .i32 0, .int .i32 0]), (350, [.string ByteArray.empty]), (351, [.string ByteArray.empty]), (352, [.pointer none])]
 ng := [(7, [(0, 0), (1, 1), (2, 2), (3, 3)]), (8, [(0, 0), (1, 1), (2, 2), (3, 3)]), (13, [(0, 0), (1, 1)]), (14, [(0, 0), (1, 1)]), (18, [(0, 0)]), (19, [(0, 0)]), (33, [(0, 0), (1, 1), (2, 2), (3, 3), (4, 4), (5, 5), (6, 6), (7, 7), (8, 8), (9, 9), (10, 10)]), (34, [(0, 0), (1, 1), (2, 2), (3, 3), (4, 4), (5, 5), (6, 6), (7, 7), (8, 8), (9, 9), (10, 10)]), (44, [(0, 0), (1, 1), (2, 2), (3, 3), (4, 4), (5, 5), (6, 6), (7, 7), (8, 8), (9, 9)]), (45, [(0, 0), (1, 1), (2, 2), (3, 3), (4, 4), (5, 5), (6, 6), (7, 7), (8, 8), (9, 9)]), (49, [(0, 0), (1, 1)]), (50, [(0, 0), (1, 1)]), (52, [(0, 0), (1, 1)]), (53, [(0, 0), (1, 1)]), (54, [(0, 0), (1, 1)]), (55, [(0, 0), (1, 1)]), (58, [(0, 0), (1, 1)]), (59, [(0, 0), (1, 1)]), (61, [(0, 0), (1, 1)]), (62, [(0, 0), (1, 2), (2, 4)]), (63, [(0, 0), (1, 2), (2, 4)]), (64, [(0, 0), (1, 1)]), (91, [(0, 0), (1, 2), (2, 4)]), (97, [(0, 0), (1, 1), (2, 11), (3, 12)]), (98, [(0, 0), (1, 1), (2, 11), (3, 12)]), (109, [(0, 0), (1, 1)]), (110, [(0, 0), (1, 1)]), (111, [(0, 0), (1, 2)]), (112, [(0, 0), (1, 2)]), (113, [(0, 0), (1, 4), (2, 8)]), (114, [(0, 0), (1, 4), (2, 8)]), (121, [(0, 0), (1, 1), (2, 5), (3, 9), (4, 11)]), (122, [(0, 0), (1, 1), (2, 5), (3, 9), (4, 11)]), (138, [(0, 0)]), (139, [(0, 0)]), (140, [(0, 0), (1, 1)]), (141, [(0, 0), (1, 1)]), (158, [(0, 0), (1, 1)]), (159, [(0, 0), (1, 1)]), (160, [(0, 0), (1, 2)]), (161, [(0, 0), (1, 2)]), (162, [(0, 0), (1, 1), (2, 5), (3, 9), (4, 11)]), (163, [(0, 0), (1, 1), (2, 5), (3, 9), (4, 11)]), (166, [(0, 0), (1, 2)]), (167, [(0, 0), (1, 2)]), (215, [(0, 0), (1, 2)]), (216, [(0, 0), (1, 2)]), (260, [(0, 0), (1, 2)]), (261, [(0, 0), (1, 2)]), (265, [(0, 0), (1, 4)]), (266, [(0, 0), (1, 4)]), (279, [(0, 0), (1, 2), (2, 4), (3, 5)]), (280, [(0, 0), (1, 2), (2, 4), (3, 5)]), (281, [(0, 0), (1, 1), (2, 2)]), (282, [(0, 0), (1, 1), (2, 2)]), (283, [(0, 0), (1, 2), (2, 4), (3, 7)]), (284, [(0, 0), (1, 2), (2, 4), (3, 7)]), (306, [(0, 0), (1, 2)]), (307, [(0, 0), (1, 2)]), (310, [(0, 0), (1, 1)]), (311, [(0, 0), (1, 1)]), (337, [(0, 0), (1, 1), (2, 2), (3, 3)]), (338, [(0, 0), (1, 1), (2, 2), (3, 3)]), (348, [(0, 0), (1, 1), (2, 2), (3, 3), (4, 4), (5, 5), (6, 6), (7, 7), (8, 8), (9, 9), (10, 10)]), (349, [(0, 0), (1, 1), (2, 2), (3, 3), (4, 4), (5, 5), (6, 6), (7, 7), (8, 8), (9, 9), (10, 10)]), (350, [(0, 0)]), (351, [(0, 0)])]
 mA := [(23, 2, 1), (73, 2, 2), (88, 4, 1), (104, 4, 1), (126, 6, 1), (202, 6, 1), (287, 4, 1), (339, 0, 1)]
 ic := [(7, [(0, 1), (1, 1), (2, 1), (3, 1)]), (8, [(0, 1), (1, 1), (2, 1), (3, 1)]), (13, [(0, 1), (1, 1)]), (14, [(0, 1), (1, 1)]), (18, [(0, 1)]), (19, [(0, 1)]), (23, [(0, 1), (1, 1)]), (33, [(0, 1), (1, 1), (2, 1), (3, 1), (4, 1), (5, 1), (6, 1), (7, 1), (8, 1), (9, 1), (10, 1)]), (34, [(0, 1), (1, 1), (2, 1), (3, 1), (4, 1), (5, 1), (6, 1), (7, 1), (8, 1), (9, 1), (10, 1)]), (44, [(0, 1), (1, 1), (2, 1), (3, 1), (4, 1), (5, 1), (6, 1), (7, 1), (8, 1), (9, 1)]), (45, [(0, 1), (1, 1), (2, 1), (3, 1), (4, 1), (5, 1), (6, 1), (7, 1), (8, 1), (9, 1)]), (49, [(0, 1), (1, 1)]), (50, [(0, 1), (1, 1)]), (52, [(0, 1), (1, 1)]), (53, [(0, 1), (1, 1)]), (54, [(0, 1), (1, 1)]), (55, [(0, 1), (1, 1)]), (58, [(0, 1), (1, 1)]), (59, [(0, 1), (1, 1)]), (61, [(0, 1), (1, 1)]), (62, [(0, 2), (2, 2), (4, 1)]), (63, [(0, 2), (2, 2), (4, 1)]), (64, [(0, 1), (1, 1)]), (73, [(0, 2), (2, 2)]), (88, [(0, 1), (1, 1), (2, 1), (3, 1)]), (91, [(0, 2), (2, 2), (4, 1)]), (97, [(0, 1), (1, 10), (11, 1), (12, 1)]), (98, [(0, 1), (1, 10), (11, 1), (12, 1)]), (104, [(0, 1), (1, 1), (2, 1), (3, 1)]), (109, [(0, 1), (1, 1)]), (110, [(0, 1), (1, 1)]), (111, [(0, 2), (2, 2)]), (112, [(0, 2), (2, 2)]), (113, [(0, 4), (4, 4), (8, 1)]), (114, [(0, 4), (4, 4), (8, 1)]), (121, [(0, 1), (1, 4), (5, 4), (9, 2), (11, 2)]), (122, [(0, 1), (1, 4), (5, 4), (9, 2), (11, 2)]), (126, [(0, 1), (1, 1), (2, 1), (3, 1), (4, 1), (5, 1)]), (138, [(0, 1)]), (139, [(0, 1)]), (140, [(0, 1), (1, 1)]), (141, [(0, 1), (1, 1)]), (158, [(0, 1), (1, 1)]), (159, [(0, 1), (1, 1)]), (160, [(0, 2), (2, 2)]), (161, [(0, 2), (2, 2)]), (162, [(0, 1), (1, 4), (5, 4), (9, 2), (11, 2)]), (163, [(0, 1), (1, 4), (5, 4), (9, 2), (11, 2)]), (166, [(0, 2), (2, 2)]), (167, [(0, 2), (2, 2)]), (202, [(0, 1), (1, 1), (2, 1), (3, 1), (4, 1), (5, 1)]), (215, [(0, 2), (2, 2)]), (216, [(0, 2), (2, 2)]), (260, [(0, 2), (2, 1)]), (261, [(0, 2), (2, 1)]), (265, [(0, 4), (4, 1)]), (266, [(0, 4), (4, 1)]), (279, [(0, 2), (2, 2), (4, 1), (5, 1)]), (280, [(0, 2), (2, 2), (4, 1), (5, 1)]), (281, [(0, 1), (1, 1), (2, 1)]), (282, [(0, 1), (1, 1), (2, 1)]), (283, [(0, 2), (2, 2), (4, 3), (7, 3)]), (284, [(0, 2), (2, 2), (4, 3), (7, 3)]), (287, [(0, 1), (1, 1), (2, 1), (3, 1)]), (306, [(0, 2), (2, 2)]), (307, [(0, 2), (2, 2)]), (310, [(0, 1), (1, 1)]), (311, [(0, 1), (1, 1)]), (337, [(0, 1), (1, 1), (2, 1), (3, 1)]), (338, [(0, 1), (1, 1), (2, 1), (3, 1)]), (340, [(0, 0)]), (341, [(0, 0)]), (348, [(0, 1), (1, 1), (2, 1), (3, 1), (4, 1), (5, 1), (6, 1), (7, 1), (8, 1), (9, 1), (10, 1)]), (349, [(0, 1), (1, 1), (2, 1), (3, 1), (4, 1), (5, 1), (6, 1), (7, 1), (8, 1), (9, 1), (10, 1)]), (350, [(0, 1)]), (351, [(0, 1)])]
theorem vZ {α β : Type} {g h : α → β} : ∀ l : List α, l.map g = l.map h → k3 (fun p => g p = h p) l
 | [], _ => trivial
 | a :: l, e => by
  rw [kv, kv, List.cons.injEq] at e;exact ⟨e.1, vZ l e.2⟩
theorem Kf {α β γ : Type} {k : α → List γ} {g h : α → γ → β} : ∀ l : List α, (l.map fun p => (k p).map (g p)) = (l.map fun p => (k p).map (h p)) → k3 (fun p => k3 (fun q => g p q = h p q) (k p)) l
 | [], _ => trivial
 | a :: l, e => by
  rw [kv, kv, List.cons.injEq] at e;exact ⟨vZ _ e.1, Kf l e.2⟩
theorem ae0 : k3 (fun p => j7 aj p.1 = some p.2) tab.ty := vZ _ (by kernel_rfl)
theorem ae1 : k3 (fun p => zeroOf aj p.1 = some p.2) tab.zero := vZ _ (by kernel_rfl)
theorem aeX : k3 (fun p => Bs aj p.1 = some p.2) tab.mA := vZ _ (by kernel_rfl)
theorem aeZ : k3 (fun p => DO aj p.1 = some p.2) tab.ic := vZ _ (by kernel_rfl)
theorem aeY : k3 (fun p => k3 (fun q => th aj p.1 q.1 = some q.2) p.2) tab.ng := Kf _ (by kernel_rfl)
instance : EZ aj tab := ⟨ae0, ae1, aeY, aeX, aeZ⟩
end Go.Proofs.YtpochbhajmbfdaaGreat
namespace Go.Proofs.YtpochbhajmbfdaaGreat
open Go.RowKit
section
variable {P : Program} {s : aD} {ops : Array Oper} {K : aD → Prop} {rest : List Oper} {ty : Nat} {pos : String} {after : Array Edge} {guard : Option (Nat × Bool)} {d : Nat}
theorem Kc {c0 : Nat} {x : Operand} {k : IntKind} {a c : Int} (hw : want ops ⟨some d, .unOp .neg c0 x, ty, pos, after, guard⟩ s = some true) (aa : s.look x = some (aQ (.int k a))) (ak : k.wrap (-a) = c) (hd : Nat.blt d s.n = true) (h : bj P ops K rest (s.put (some d) (aQ (.int k c)))) : bj P ops K (⟨some d, .unOp .neg c0 x, ty, pos, after, guard⟩ :: rest) s := by
 refine Tw hw aa (fun W => ?_) rfl hd h;rw [← ak, show -a = 0 - a by omega];cases k <;> rfl
end
abbrev iO (l1 l2 h1 h2 : Int) : ai := .w (.agg [.c (.int .i64 l1), .c (.int .i64 l2), .c (.int .i64 h1), .c (.int .i64 h2)])
def dN (a b c d : Int) : Bool := decide (a = c) && decide (b = d)
theorem rK {a b c d : Int} : dN a b c d = true ↔ a = c ∧ b = d := by unfold dN; rw [dQ, cB, cB]
def uI (a b c d a' bK c' d' : Int) : Bool := dN a b a' bK && dN c d c' d'
class AY (P : Program) (t : TypeId) : Prop where
 g : P.eqGuardType P.depth t = false
 h : ∀ (a b c d : Int) W, (Op.equalIn 10000 t (.agg #[.int .i64 a, .int .i64 b]) (.agg #[.int .i64 c, .int .i64 d])).run P W = .ok (dN a b c d) W
class Jl (P : Program) (t : TypeId) : Prop where
 g : P.eqGuardType P.depth t = false
 h : ∀ (a b c d a' bK c' d' : Int) W, (Op.equalIn 10000 t (.agg #[.int .i64 a, .int .i64 b, .int .i64 c, .int .i64 d]) (.agg #[.int .i64 a', .int .i64 bK, .int .i64 c', .int .i64 d'])).run P W = .ok (uI a b c d a' bK c' d') W
theorem B1 {P : Program} {op : BinOp} {t : TypeId} {x y : Operand} {u v : Array Value} {W : World} (aw : P.eqGuardType P.depth t = false) : (eqGuard op t x y (.agg u) (.agg v)).run P W = .ok () W := by
 unfold eqGuard;cases op <;> first | rfl | simp [Sem.run_bind, program, Sem.run, Result.andThen, aw]
section
variable {P : Program} {s : aD} {ops : Array Oper} {K : aD → Prop} {rest : List Oper} {ty : Nat} {pos : String} {after : Array Edge} {guard : Option (Nat × Bool)} {d : Nat}
theorem vY {t dI : Nat} {x y : Operand} {a b a' bK : Int} [E : AY P t] (hw : want ops ⟨some d, .binOp .eql t x y dI, ty, pos, after, guard⟩ s = some true) (aa : s.look x = some (bh a b)) (ag : s.look y = some (bh a' bK)) (hd : Nat.blt d s.n = true) (h : bj P ops K rest (s.put (some d) (bF (dN a b a' bK)))) : bj P ops K (⟨some d, .binOp .eql t x y dI, ty, pos, after, guard⟩ :: rest) s :=
 rv hw aa ag rfl rfl (fun W => B1 E.g) (fun W => by rw [run_eql_struct, E.h]; rfl) rfl hd h
theorem x8 {t dI : Nat} {x y : Operand} {a b a' bK : Int} [E : AY P t] (hw : want ops ⟨some d, .binOp .neq t x y dI, ty, pos, after, guard⟩ s = some true) (aa : s.look x = some (bh a b)) (ag : s.look y = some (bh a' bK)) (hd : Nat.blt d s.n = true) (h : bj P ops K rest (s.put (some d) (bF (!dN a b a' bK)))) : bj P ops K (⟨some d, .binOp .neq t x y dI, ty, pos, after, guard⟩ :: rest) s :=
 rv hw aa ag rfl rfl (fun W => B1 E.g) (fun W => by rw [run_neq_struct, E.h]; rfl) rfl hd h
theorem S4 {t dI : Nat} {x y : Operand} {a b c e a' bK c' bu : Int} [E : Jl P t] (hw : want ops ⟨some d, .binOp .eql t x y dI, ty, pos, after, guard⟩ s = some true) (aa : s.look x = some (iO a b c e)) (ag : s.look y = some (iO a' bK c' bu)) (hd : Nat.blt d s.n = true) (h : bj P ops K rest (s.put (some d) (bF (uI a b c e a' bK c' bu)))) : bj P ops K (⟨some d, .binOp .eql t x y dI, ty, pos, after, guard⟩ :: rest) s :=
 rv hw aa ag rfl rfl (fun W => B1 E.g) (fun W => by rw [run_eql_struct, E.h]; rfl) rfl hd h
end
theorem Vx (a b c d : Int) (W : World) : (Op.equalIn 10000 59 (.agg #[.int .i64 a, .int .i64 b]) (.agg #[.int .i64 c, .int .i64 d])).run aj W = .ok (dN a b c d) W := by
 unfold dN
 go_simp
 by_cases h1 : a = c <;> by_cases h2 : b = d <;> simp [h1, h2]
instance ahs : AY aj 59 := ⟨by kernel_rfl, Vx⟩
theorem Vw (a b c d : Int) (W : World) : (Op.equalIn 10000 61 (.agg #[.int .i64 a, .int .i64 b]) (.agg #[.int .i64 c, .int .i64 d])).run aj W = .ok (dN a b c d) W := by
 unfold dN
 go_simp
 by_cases h1 : a = c <;> by_cases h2 : b = d <;> simp [h1, h2]
instance aht : AY aj 61 := ⟨by kernel_rfl, Vw⟩
end Go.Proofs.YtpochbhajmbfdaaGreat
