/-
  My own texts, without what this claim does not need. My own text.
-/
import Derived.Tactics
import Derived.IntWalk
import Derived.Test.YtbcecodakfejaaaGreatProg
import Derived.ProofKit
import Derived.Laws.StructEq
import Derived.Test.YtbcecodakfejaaaGreatSChainsK2
set_option maxRecDepth 100000
set_option maxHeartbeats 64000000
set_option linter.unusedVariables false
set_option linter.unusedSimpArgs false
set_option linter.unusedSectionVars false
open Go.Proofs.Tryz renaming prog → ag
namespace Go.Proofs.YtbcecodakfejaaaGreat
open Go.RowKit
abbrev aQ (v : Value) : ah := .w (.one (.c v))
abbrev aE (n : Int) : ah := aQ (.int .i64 n)
abbrev bk (b : Bool) : ah := aQ (.bool b)
abbrev mQ (k off : Nat) : ah := .w (.one (.own k off))
def kj (P : Program) (ty : TypeId) : Option (Bool × Nat) :=
 match P.underlying ty, P.info? ty with
 | some (.struct _), some i | some (.array _ _), some i => some (true, i.size)
 | some _, some i => some (false, i.size)
 | _, _ => none
class e6 (P : Program) (ty : TypeId) (agg : outParam Bool) (n : outParam Nat) : Prop where
 h : kj P ty = some (agg, n)
def zeroOf (P : Program) (ty : TypeId) : Option (List Value) := ((P.info? ty).bind (·.zero)).map fun z => z.cells.toList
class A6 (P : Program) (ty : TypeId) (vs : outParam (List Value)) : Prop where
 h : zeroOf P ty = some vs
def s9 (P : Program) (ty : TypeId) (i : Nat) : Option Nat :=
 match P.underlying ty with
 | some (.struct bg) => (bg[i]?).bind fun f => (P.info? f.type).bind fun t => if t.size = 0 then none else some f.offset
 | _ => none
class kM (P : Program) (ty : TypeId) (i : Nat) (off : outParam Nat) : Prop where
 h : s9 P ty i = some off
def Bf (P : Program) (ty : TypeId) : Option (Nat × Nat) :=
 match P.underlying ty with
 | some (.array n e) => (P.info? e).map fun t => (n, t.size)
 | _ => none
class Jz (P : Program) (ty : TypeId) (n size : outParam Nat) : Prop where
 h : Bf P ty = some (n, size)
def sC (P : Program) (ty : TypeId) : Option Nat :=
 match P.underlying ty with
 | some (.slice e) => (P.info? e).map fun t => t.size
 | _ => none
class hP (P : Program) (ty : TypeId) (size : outParam Nat) : Prop where
 h : sC P ty = some size
def DJ (P : Program) (ty : TypeId) : Option (List (Nat × Nat)) :=
 match P.underlying ty with
 | some (.struct bg) => bg.toList.mapM fun f => (P.info? f.type).map fun t => (f.offset, t.size)
 | some (.array n e) => bif Nat.ble n 32 then (P.info? e).map fun t => (List.range n).map fun i => (i * t.size, t.size) else none
 | _ => none
class J0 (P : Program) (ty : TypeId) (ps : outParam (List (Nat × Nat))) : Prop where
 h : DJ P ty = some ps
class EJ (P : Program) (ty : TypeId) (k : outParam IntKind) : Prop where
 h : P.underlying ty = some (.int k)
class Enters (P : Program) (f : FuncId) : Prop where
 h : enters P f = true
def takeN : List AC → Nat → Nat → Option (List AC)
 | _, 0, 0 => some []
 | [], _, _ => none
 | c :: cs, 0, n + 1 => match takeN cs 0 n with
  | some r => some (c :: r)
  | none => none
 | _ :: cs, off + 1, n => takeN cs off n
def o3 : List AC → Nat → List AC → Option (List AC)
 | cs, 0, [] => some cs
 | [], _, _ => none
 | _ :: cs, 0, d :: ds => match o3 cs 0 ds with
  | some r => some (d :: r)
  | none => none
 | c :: cs, off + 1, ds => match o3 cs off ds with
  | some r => some (c :: r)
  | none => none
theorem Eh : ∀ (cs : List AC) (off n : Nat) (r : List AC), takeN cs off n = some r → off + n ≤ cs.length ∧ (cs.drop off).take n = r
 | cs, 0, 0, r, h => by
  cases cs <;> (simp only [takeN, hY] at h; subst h; simp)
 | [], 0, n + 1, r, h => by simp [takeN] at h
 | [], off + 1, n, r, h => by cases n <;> simp [takeN] at h
 | c :: cs, 0, n + 1, r, h => by
  simp only [takeN] at h
  split at h
  ·rename_i aV ap;cases h;have := Eh cs 0 n aV ap;simp at this ⊢;exact this
  ·cases h
 | c :: cs, off + 1, n, r, h => by
  have aK : takeN cs off n = some r := by cases n <;> simpa [takeN] using h
  have := Eh cs off n r aK;exact ⟨by have := this.1; simp; omega, by simpa using this.2⟩
theorem zU : ∀ (cs : List AC) (off : Nat) (ds : List AC) (r : List AC), o3 cs off ds = some r → off + ds.length ≤ cs.length ∧ eD cs off ds = r
 | cs, 0, [], r, h => by
  cases cs <;> (simp only [o3, hY] at h; subst h; simp [eD])
 | [], 0, d :: ds, r, h => by simp [o3] at h
 | [], off + 1, ds, r, h => by cases ds <;> simp [o3] at h
 | c :: cs, 0, d :: ds, r, h => by
  simp only [o3] at h
  split at h
  ·rename_i aV ap;cases h;have := zU cs 0 ds aV ap;simp [eD] at this ⊢;exact this
  ·cases h
 | c :: cs, off + 1, ds, r, h => by
  simp only [o3] at h
  split at h
  ·rename_i aV ap;cases h;have := zU cs off ds aV ap;simp [eD, Nat.add_right_comm] at this ⊢;exact this
  ·cases h
section
variable {P : Program} {s s' : aC} {o : Oper} {ops : Array Oper} {rest : List Oper} {K : aC → Prop}
theorem fL (h : K s) : bc P ops K [] s := h
theorem KC {hX : List (Nat × Nat)} (hs : hX.all (me s) = true) (h : K s) : bc P ops (fun s => hX.all (me s) = true ∧ K s) [] s := ⟨hs, h⟩
theorem qt {e : ca} (hw : want ops o s = some true) (he : eW P s.n s.look s.mem o true e) (hd : ∀ d, o.dst = some d → d < s.n) (h : bc P ops K rest (e.on o.dst s)) : bc P ops K (o :: rest) s := ⟨true, hw, e, he, hd, h⟩
section
variable {d ty : Nat} {op : Op} {pos : String} {after : Array Edge} {guard : Option (Nat × Bool)}
theorem kU {d : Nat} (hd : Nat.blt d s.n = true) : ∀ d', some d = some d' → d' < s.n := fun d' e => by cases e; simpa [Nat.blt_eq] using hd
theorem KD {dst : Option Nat} (hw : want ops ⟨dst, op, ty, pos, after, guard⟩ s = some false) (hd : ∀ d, dst = some d → Nat.blt d s.n = true) (h : bc P ops K rest (s.put dst (.cn []))) : bc P ops K (⟨dst, op, ty, pos, after, guard⟩ :: rest) s :=
 ⟨false, hw, _, .skip, fun d e => by have := hd d e; simpa [Nat.blt_eq] using this, h⟩
theorem fS {av : ah} (hw : want ops ⟨some d, op, ty, pos, after, guard⟩ s = some true) (an : vR P s.look ⟨some d, op, ty, pos, after, guard⟩ av) (hd : Nat.blt d s.n = true) (h : bc P ops K rest (s.put (some d) av)) : bc P ops K (⟨some d, op, ty, pos, after, guard⟩ :: rest) s :=
 qt hw (.quiet av an) (kU hd) h
theorem UW {x : Operand} {av : ah} (hw : want ops ⟨some d, .move x, ty, pos, after, guard⟩ s = some true) (aa : s.look x = some av) (hd : Nat.blt d s.n = true) (h : bc P ops K rest (s.put (some d) av)) : bc P ops K (⟨some d, .move x, ty, pos, after, guard⟩ :: rest) s := by
 refine fS hw ⟨fun _ _ h => (by cases h), fun y ai => ?_, fun U ad W env he => ⟨env x, rfl, he x (by simp [Op.operands]) av aa⟩, fun j ae => ⟨x, by simp [Op.operands], av, aa, ae⟩⟩ hd h;simp [Op.operands] at ai;subst ai;exact ⟨av, aa⟩
theorem Us {x : Operand} {av : ah} (hw : want ops ⟨some d, .assign x, ty, pos, after, guard⟩ s = some true) (aa : s.look x = some av) (hd : Nat.blt d s.n = true) (h : bc P ops K rest (s.put (some d) av)) : bc P ops K (⟨some d, .assign x, ty, pos, after, guard⟩ :: rest) s := by
 refine fS hw ⟨fun _ _ h => (by cases h), fun y ai => ?_, fun U ad W env he => ⟨env x, rfl, he x (by simp [Op.operands]) av aa⟩, fun j ae => ⟨x, by simp [Op.operands], av, aa, ae⟩⟩ hd h;simp [Op.operands] at ai;subst ai;exact ⟨av, aa⟩
theorem UE {x : Operand} {i : Nat} {xs : List bx} {y : bx} (hw : want ops ⟨some d, .extract x i, ty, pos, after, guard⟩ s = some true) (aa : s.look x = some (.cn xs)) (hi : xs[i]? = some y) (hd : Nat.blt d s.n = true) (h : bc P ops K rest (s.put (some d) (.w y))) : bc P ops K (⟨some d, .extract x i, ty, pos, after, guard⟩ :: rest) s := by
 refine fS (av := .w y) hw ⟨fun _ _ h => (by cases h), fun y ai => ?_, fun U ad W env he => ?_, fun j ae => ⟨x, by simp [Op.operands], _, aa, ⟨y, cV hi, ae⟩⟩⟩ hd h
 ·simp [Op.operands] at ai;subst ai;exact ⟨_, aa⟩
 ·obtain ⟨vs, e, ak, hv⟩ := he x (by simp [Op.operands]) _ aa;have bb : i < vs.length := by rw [← ak]; exact (bA.1 hi).1
  refine ⟨vs[i], ?_, hv i y _ hi (bJ bb)⟩;simp only [execOp, Instr.extract, e];simp [bb]
theorem UH {x : Operand} {qa i k off h7 : Nat} [F : kM P qa i h7] (hw : want ops ⟨some d, .fieldAddr qa x i, ty, pos, after, guard⟩ s = some true) (aa : s.look x = some (mQ k off)) (hd : Nat.blt d s.n = true) (h : bc P ops K rest (s.put (some d) (mQ k (off + h7)))) : bc P ops K (⟨some d, .fieldAddr qa x i, ty, pos, after, guard⟩ :: rest) s := by
 refine fS hw ⟨fun _ _ h => (by cases h), fun y ai => ?_, fun U ad W env he => ?_, fun j ae => ⟨x, by simp [Op.operands], _, aa, ?_⟩⟩ hd h
 ·simp [Op.operands] at ai;subst ai;exact ⟨_, aa⟩
 ·have hp : env x = .pointer (some ⟨ad k, off, none⟩) := he x (by simp [Op.operands]) _ aa;have hF := F.h;unfold s9 at hF
  split at hF
  ·rename_i bg hu;cases au : bg[i]? with
   | none => rw [au] at hF; cases hF
   | some f =>
    rw [au] at hF;simp only [kh] at hF;cases hi : P.info? f.type with
    | none => rw [hi] at hF; cases hF
    | some t =>
     rw [hi] at hF;simp only [kh] at hF
     split at hF
     ·cases hF
     ·rename_i bU;cases hF;refine ⟨.pointer (some ⟨ad k, off + f.offset, none⟩), ?_, rfl⟩;have ku : (⟨ad k, off, none⟩ : Addr).add f.offset = ⟨ad k, off + f.offset, none⟩ := by unfold Addr.add; split <;> simp_all
      simp only [execOp, Instr.fieldAt, hp, Instr.sureAddr, Sem.run_bind, Sem.run_pure, Result.andThen_ok, run_underlying hu, au, fieldPlace, hK hi, if_neg bU, ku]
  ·cases hF
 ·obtain ⟨y, ai, lT⟩ := ae;exact ⟨.own k off, by simp [bx.cells], by simp [bx.cells] at ai; subst ai; exact lT⟩
theorem Kx {x y : Operand} {Fg k off n size : Nat} {gV : IntKind} {i : Int} [A : Jz P Fg n size] (hw : want ops ⟨some d, .indexAddr Fg x y, ty, pos, after, guard⟩ s = some true) (aa : s.look x = some (mQ k off)) (ai : s.look y = some (aQ (.int gV i))) (az : 0 ≤ i) (h1 : i < n) (hd : Nat.blt d s.n = true) (h : bc P ops K rest (s.put (some d) (mQ k (off + i.toNat * size)))) : bc P ops K (⟨some d, .indexAddr Fg x y, ty, pos, after, guard⟩ :: rest) s := by
 refine fS hw ⟨fun _ _ h => (by cases h), fun z aN => ?_, fun U ad W env he => ?_, fun j ae => ⟨x, by simp [Op.operands], _, aa, ?_⟩⟩ hd h
 ·simp [Op.operands] at aN;rcases aN with rfl | rfl
  ·exact ⟨_, aa⟩
  ·exact ⟨_, ai⟩
 ·have hp : env x = .pointer (some ⟨ad k, off, none⟩) := he x (by simp [Op.operands]) _ aa;have hi : env y = .int gV i := (he y (by simp [Op.operands]) _ ai).1;have ec := A.h;unfold Bf at ec
  split at ec
  ·rename_i n' e hu;cases c4 : P.info? e with
   | none => rw [c4] at ec; cases ec
   | some t =>
    rw [c4] at ec;cases ec;refine ⟨.pointer (some ⟨ad k, off + i.toNat * t.size, none⟩), ?_, rfl⟩;have ku : (⟨ad k, off, none⟩ : Addr).add (i.toNat * t.size) = ⟨ad k, off + i.toNat * t.size, none⟩ := by unfold Addr.add; split <;> simp_all
    simp only [execOp, Instr.indexAt, hp, hi, asIntOf, Instr.sureAddr, Sem.run_bind, Sem.run_pure, Result.andThen_ok, run_underlying hu, hK c4, if_pos (And.intro az h1), ku]
  ·cases ec
 ·obtain ⟨y, ai, lT⟩ := ae;exact ⟨.own k off, by simp [bx.cells], by simp [bx.cells] at ai; subst ai; exact lT⟩
theorem ag1 {ty n : Nat} (h : kj P ty = some (false, n)) {cs : List AC} {off : Nat} {y : AC} (al : cs[off]? = some y) : pick P ty cs off = some (.one y) := by
 unfold kj at h;unfold pick;cases hu : P.underlying ty with
 | none => rw [hu] at h; cases h
 | some D =>
  cases hi : P.info? ty with
  | none => rw [hu, hi] at h; cases D <;> cases h
  | some i =>
   rw [hu, hi] at h;cases D <;> first | (simp only [al, ha]; done) | (exfalso; cases h)
theorem Sp {ty n : Nat} (h : kj P ty = some (true, n)) {cs aT : List AC} {off : Nat} (al : takeN cs off n = some aT) : pick P ty cs off = some (.agg aT) := by
 obtain ⟨h1, h2⟩ := Eh _ _ _ _ al;unfold kj at h;unfold pick
 split at h
 ·rename_i i hu hi; cases h; simp only [hu, hi, kh, if_pos h1, h2]
 ·rename_i i hu hi; cases h; simp only [hu, hi, kh, if_pos h1, h2]
 ·cases h
 ·cases h
theorem ag0 {ty n : Nat} {b : Bool} (h : kj P ty = some (b, n)) : ∃ i, P.info? ty = some i ∧ i.size = n := by
 unfold kj at h
 split at h
 ·rename_i i hu hi; cases h; exact ⟨i, hi, rfl⟩
 ·rename_i i hu hi; cases h; exact ⟨i, hi, rfl⟩
 ·rename_i i _ _ hu hi; cases h; exact ⟨_, hi, rfl⟩
 ·cases h
theorem UO {x : Operand} {lt k off n : Nat} {cs : List AC} {y : AC} [T : e6 P lt false n] (hw : want ops ⟨some d, .load lt x, ty, pos, after, guard⟩ s = some true) (aa : s.look x = some (mQ k off)) (hm : s.mem k = some cs) (al : cs[off]? = some y) (hd : Nat.blt d s.n = true) (h : bc P ops K rest (s.put (some d) (.w (.one y)))) : bc P ops K (⟨some d, .load lt x, ty, pos, after, guard⟩ :: rest) s :=
 qt hw (.load lt x k off cs _ rfl aa hm (ag1 T.h al)) (kU hd) h
theorem UP {x : Operand} {lt k off n : Nat} {cs aT : List AC} [T : e6 P lt true n] (hw : want ops ⟨some d, .load lt x, ty, pos, after, guard⟩ s = some true) (aa : s.look x = some (mQ k off)) (hm : s.mem k = some cs) (al : takeN cs off n = some aT) (hd : Nat.blt d s.n = true) (h : bc P ops K rest (s.put (some d) (.w (.agg aT)))) : bc P ops K (⟨some d, .load lt x, ty, pos, after, guard⟩ :: rest) s :=
 qt hw (.load lt x k off cs _ rfl aa hm (Sp T.h al)) (kU hd) h
theorem Vb {x y : Operand} {st k off n : Nat} {b : Bool} {cs ds : List AC} {z : bx} [T : e6 P st b n] (hw : want ops ⟨none, .store st x y, ty, pos, after, guard⟩ s = some true) (aa : s.look x = some (mQ k off)) (ai : s.look y = some (.w z)) (hm : s.mem k = some cs) (ax : Nat.beq n z.cells.length = true) (hp : o3 cs off z.cells = some ds) (h : bc P ops K rest (s.ed k ds)) : bc P ops K (⟨none, .store st x y, ty, pos, after, guard⟩ :: rest) s := by
 obtain ⟨i, hi, hs⟩ := ag0 T.h;obtain ⟨h1, h2⟩ := zU _ _ _ _ hp;refine qt hw (.store st x y k off cs z i rfl aa ai hm hi (by rw [hs]; exact hr ax) h1) (fun d e => by cases e) ?_;simp only [ca.on, h2];exact h
theorem Ur {hR : Nat} {vs : List Value} [Z : A6 P hR vs] (hw : want ops ⟨some d, .alloc hR, ty, pos, after, guard⟩ s = some true) (hm : s.mem d = none) (h1 : (vs.all fun v => v.oneCell') = true) (hd : Nat.blt d s.n = true) (h : bc P ops K rest ((s.ed d (vs.map .c)).put (some d) (mQ d 0))) : bc P ops K (⟨some d, .alloc hR, ty, pos, after, guard⟩ :: rest) s := by
 have aN := Z.h;unfold zeroOf at aN;cases hi : P.info? hR with
 | none => rw [hi] at aN; cases aN
 | some i =>
  rw [hi] at aN;simp only [kh] at aN;cases hE : i.zero with
  | none => rw [hE] at aN; cases aN
  | some z =>
   rw [hE] at aN;cases aN;exact qt hw (.new _ d rfl hm (.alloc hR i z _ rfl hi hE rfl h1)) (kU hd) h
theorem Ut {Fm : Nat} {x : Operand} {z : bx} (hw : want ops ⟨some d, .box Fm x, ty, pos, after, guard⟩ s = some true) (aa : s.look x = some (.w z)) (hm : s.mem d = none) (hd : Nat.blt d s.n = true) (h : bc P ops K rest ((s.ed d z.cells).put (some d) (mQ d 0))) : bc P ops K (⟨some d, .box Fm x, ty, pos, after, guard⟩ :: rest) s :=
 qt hw (.new _ d rfl hm (.box Fm x z rfl aa)) (kU hd) h
def s7 : List AC → Option (List Value)
 | [] => some []
 | .c v :: xs => match s7 xs with
  | some r => some (v :: r)
  | none => none
 | _ :: _ => none
def mo : bx → Option Value
 | .one (.c v) => some v
 | .one _ => none
 | .agg xs => match s7 xs with
  | some r => some (.agg r.toArray)
  | none => none
theorem Mk {U : Nat → Prop} {ad : Nat → Nat} {W : World} : ∀ (xs : List AC) (vs r : List Value), bL U ad W xs vs → s7 xs = some r → vs = r
 | [], vs, r, h, he => by cases he; have := h.1; exact jv this.symm
 | .c v :: xs, vs, r, h, he => by
  simp only [s7] at he
  split at he
  ·rename_i aV ap;cases he;cases vs with
   | nil => have := h.1; cases this
   | cons u us =>
    have az : u = v := (h.2 0 _ _ rfl rfl).1;have := Mk xs us aV ⟨by have := h.1; simpa using this, fun i x w aa hw => h.2 (i + 1) x w (by simpa using aa) (by simpa using hw)⟩ ap;rw [az, this]
  ·cases he
 | .own _ _ :: _, _, _, _, he => by cases he
 | .p _ :: _, _, _, _, he => by cases he
theorem BJ {U : Nat → Prop} {ad : Nat → Nat} {W : World} {x : bx} {v u : Value} (h : fR U ad W x v) (he : mo x = some u) : v = u := by
 cases x with
 | one y => cases y with
  | c w => cases he; exact h.1
  | own => cases he
  | p => cases he
 | agg xs =>
  simp only [mo] at he
  split at he
  ·rename_i r ap;cases he;obtain ⟨vs, rfl, ak⟩ := h;rw [Mk xs vs r ak ap]
  ·cases he
theorem ja (v : Value) (j : Nat) : ¬ (aQ v).owns j := fun ⟨y, ai, h⟩ => by simp [bx.cells] at ai; subst ai; cases h
theorem sT {rE : BinOp} {c6 dK : Nat} {x y : Operand} {a b : bx} {va vb v : Value} (hw : want ops ⟨some d, .binOp rE c6 x y dK, ty, pos, after, guard⟩ s = some true) (aa : s.look x = some (.w a)) (ai : s.look y = some (.w b)) (iv : mo a = some va) (lO : mo b = some vb)
  (aq : ∀ W, (eqGuard rE c6 x y va vb).run P W = .ok () W) (ap : ∀ W, (binOp rE c6 va vb).run P W = .ok v W) (h1 : v.oneCell' = true) (hd : Nat.blt d s.n = true) (h : bc P ops K rest (s.put (some d) (aQ v))) : bc P ops K (⟨some d, .binOp rE c6 x y dK, ty, pos, after, guard⟩ :: rest) s := by
 refine fS (av := aQ v) hw ⟨fun _ _ h => (by cases h), fun z aN => ?_, fun U ad W env he => ⟨v, ?_, ⟨rfl, h1⟩⟩, fun j ae => absurd ae (ja v j)⟩ hd h
 ·simp [Op.operands] at aN;rcases aN with rfl | rfl
  ·exact ⟨_, aa⟩
  ·exact ⟨_, ai⟩
 ·have aF : env x = va := BJ (he x (by simp [Op.operands]) _ aa) iv;have aP : env y = vb := BJ (he y (by simp [Op.operands]) _ ai) lO;simp only [execOp, aF, aP, Sem.run_bind, aq, Result.andThen_ok, ap, Sem.run_pure]
theorem qs {rE : BinOp} {c6 dK : Nat} {x y : Operand} {k : IntKind} {a b : Int} {v : Value} (hw : want ops ⟨some d, .binOp rE c6 x y dK, ty, pos, after, guard⟩ s = some true) (aa : s.look x = some (aQ (.int k a))) (ai : s.look y = some (aQ (.int k b)))
  (ap : ∀ W, (binOp rE c6 (.int k a) (.int k b)).run P W = .ok v W) (h1 : v.oneCell' = true) (hd : Nat.blt d s.n = true) (h : bc P ops K rest (s.put (some d) (aQ v))) : bc P ops K (⟨some d, .binOp rE c6 x y dK, ty, pos, after, guard⟩ :: rest) s :=
 sT hw aa ai rfl rfl (fun W => by unfold eqGuard; cases rE <;> rfl) ap h1 hd h
theorem UR {c6 dK : Nat} {x y : Operand} {k : IntKind} {a b : Int} (hw : want ops ⟨some d, .binOp .lss c6 x y dK, ty, pos, after, guard⟩ s = some true) (aa : s.look x = some (aQ (.int k a))) (ai : s.look y = some (aQ (.int k b))) (hd : Nat.blt d s.n = true) (h : bc P ops K rest (s.put (some d) (bk (decide (a < b))))) : bc P ops K (⟨some d, .binOp .lss c6 x y dK, ty, pos, after, guard⟩ :: rest) s :=
 qs hw aa ai (fun W => by cases k <;> rfl) rfl hd h
theorem UN {c6 dK : Nat} {x y : Operand} {k : IntKind} {a b : Int} (hw : want ops ⟨some d, .binOp .leq c6 x y dK, ty, pos, after, guard⟩ s = some true) (aa : s.look x = some (aQ (.int k a))) (ai : s.look y = some (aQ (.int k b))) (hd : Nat.blt d s.n = true) (h : bc P ops K rest (s.put (some d) (bk (decide (a ≤ b))))) : bc P ops K (⟨some d, .binOp .leq c6 x y dK, ty, pos, after, guard⟩ :: rest) s :=
 qs hw aa ai (fun W => by cases k <;> rfl) rfl hd h
theorem UK {c6 dK : Nat} {x y : Operand} {k : IntKind} {a b : Int} (hw : want ops ⟨some d, .binOp .gtr c6 x y dK, ty, pos, after, guard⟩ s = some true) (aa : s.look x = some (aQ (.int k a))) (ai : s.look y = some (aQ (.int k b))) (hd : Nat.blt d s.n = true) (h : bc P ops K rest (s.put (some d) (bk (decide (b < a))))) : bc P ops K (⟨some d, .binOp .gtr c6 x y dK, ty, pos, after, guard⟩ :: rest) s :=
 qs hw aa ai (fun W => by cases k <;> rfl) rfl hd h
theorem UJ {c6 dK : Nat} {x y : Operand} {k : IntKind} {a b : Int} (hw : want ops ⟨some d, .binOp .geq c6 x y dK, ty, pos, after, guard⟩ s = some true) (aa : s.look x = some (aQ (.int k a))) (ai : s.look y = some (aQ (.int k b))) (hd : Nat.blt d s.n = true) (h : bc P ops K rest (s.put (some d) (bk (decide (b ≤ a))))) : bc P ops K (⟨some d, .binOp .geq c6 x y dK, ty, pos, after, guard⟩ :: rest) s :=
 qs hw aa ai (fun W => by cases k <;> rfl) rfl hd h
theorem UB {c6 dK : Nat} {x y : Operand} {k : IntKind} {a b : Int} (hw : want ops ⟨some d, .binOp .eql c6 x y dK, ty, pos, after, guard⟩ s = some true) (aa : s.look x = some (aQ (.int k a))) (ai : s.look y = some (aQ (.int k b))) (hd : Nat.blt d s.n = true) (h : bc P ops K rest (s.put (some d) (bk (decide (a = b))))) : bc P ops K (⟨some d, .binOp .eql c6 x y dK, ty, pos, after, guard⟩ :: rest) s :=
 qs hw aa ai (fun W => by cases k <;> rfl) rfl hd h
theorem UZ {c6 dK : Nat} {x y : Operand} {k : IntKind} {a b : Int} (hw : want ops ⟨some d, .binOp .neq c6 x y dK, ty, pos, after, guard⟩ s = some true) (aa : s.look x = some (aQ (.int k a))) (ai : s.look y = some (aQ (.int k b))) (hd : Nat.blt d s.n = true) (h : bc P ops K rest (s.put (some d) (bk (!decide (a = b))))) : bc P ops K (⟨some d, .binOp .neq c6 x y dK, ty, pos, after, guard⟩ :: rest) s :=
 qs hw aa ai (fun W => by cases k <;> rfl) rfl hd h
theorem E4 {c6 dK : Nat} {x y : Operand} {k : IntKind} {a b c : Int} (hw : want ops ⟨some d, .binOp .add c6 x y dK, ty, pos, after, guard⟩ s = some true) (aa : s.look x = some (aQ (.int k a))) (ai : s.look y = some (aQ (.int k b))) (al : k.wrap (a + b) = c) (hd : Nat.blt d s.n = true) (h : bc P ops K rest (s.put (some d) (aQ (.int k c)))) : bc P ops K (⟨some d, .binOp .add c6 x y dK, ty, pos, after, guard⟩ :: rest) s :=
 qs hw aa ai (fun W => by rw [← al]; cases k <;> rfl) rfl hd h
theorem Vc {c6 dK : Nat} {x y : Operand} {k : IntKind} {a b c : Int} (hw : want ops ⟨some d, .binOp .sub c6 x y dK, ty, pos, after, guard⟩ s = some true) (aa : s.look x = some (aQ (.int k a))) (ai : s.look y = some (aQ (.int k b))) (al : k.wrap (a - b) = c) (hd : Nat.blt d s.n = true) (h : bc P ops K rest (s.put (some d) (aQ (.int k c)))) : bc P ops K (⟨some d, .binOp .sub c6 x y dK, ty, pos, after, guard⟩ :: rest) s :=
 qs hw aa ai (fun W => by rw [← al]; cases k <;> rfl) rfl hd h
theorem UX {c6 dK : Nat} {x y : Operand} {k : IntKind} {a b c : Int} (hw : want ops ⟨some d, .binOp .mul c6 x y dK, ty, pos, after, guard⟩ s = some true) (aa : s.look x = some (aQ (.int k a))) (ai : s.look y = some (aQ (.int k b))) (al : k.wrap (a * b) = c) (hd : Nat.blt d s.n = true) (h : bc P ops K rest (s.put (some d) (aQ (.int k c)))) : bc P ops K (⟨some d, .binOp .mul c6 x y dK, ty, pos, after, guard⟩ :: rest) s :=
 qs hw aa ai (fun W => by rw [← al]; cases k <;> rfl) rfl hd h
theorem mw {n : Int} (h : -9223372036854775808 ≤ n ∧ n < 9223372036854775808) : IntKind.i64.wrap n = n := IntWalk.i64_in n (by omega)
theorem U3 {c6 : Nat} {x : Operand} {b : Bool} (hw : want ops ⟨some d, .unOp .not c6 x, ty, pos, after, guard⟩ s = some true) (aa : s.look x = some (bk b)) (hd : Nat.blt d s.n = true) (h : bc P ops K rest (s.put (some d) (bk (!b)))) : bc P ops K (⟨some d, .unOp .not c6 x, ty, pos, after, guard⟩ :: rest) s := by
 refine fS (av := bk (!b)) hw ⟨fun _ _ h => (by cases h), fun z aN => ?_, fun U ad W env he => ⟨.bool (!b), ?_, ⟨rfl, rfl⟩⟩, fun j ae => absurd ae (ja _ j)⟩ hd h
 ·simp [Op.operands] at aN; subst aN; exact ⟨_, aa⟩
 ·have aF : env x = .bool b := (he x (by simp [Op.operands]) _ aa).1;simp only [execOp, aF, Sem.run_bind, Op.unary];rfl
theorem KF {Jn : UnOp} {c6 : Nat} {x : Operand} {va v : Value} (hw : want ops ⟨some d, .unOp Jn c6 x, ty, pos, after, guard⟩ s = some true) (aa : s.look x = some (aQ va)) (ap : ∀ W, (Op.unary Jn va).run P W = .ok v W) (h1 : v.oneCell' = true) (hd : Nat.blt d s.n = true) (h : bc P ops K rest (s.put (some d) (aQ v))) : bc P ops K (⟨some d, .unOp Jn c6 x, ty, pos, after, guard⟩ :: rest) s := by
 refine fS (av := aQ v) hw ⟨fun _ _ h => (by cases h), fun z aN => ?_, fun U ad W env he => ⟨v, ?_, ⟨rfl, h1⟩⟩, fun j ae => absurd ae (ja v j)⟩ hd h
 ·simp [Op.operands] at aN; subst aN; exact ⟨_, aa⟩
 ·have aF : env x = va := (he x (by simp [Op.operands]) _ aa).1;simp only [execOp, aF, Sem.run_bind, ap, Result.andThen_ok, Sem.run_pure]
theorem Ku {src dst : Nat} {x : Operand} {va v : Value} (hw : want ops ⟨some d, .convert src dst x, ty, pos, after, guard⟩ s = some true) (aa : s.look x = some (aQ va)) (ap : ∀ W, (convert src dst va).run P W = .ok v W) (h1 : v.oneCell' = true) (hd : Nat.blt d s.n = true) (h : bc P ops K rest (s.put (some d) (aQ v))) : bc P ops K (⟨some d, .convert src dst x, ty, pos, after, guard⟩ :: rest) s := by
 refine fS (av := aQ v) hw ⟨fun _ _ h => (by cases h), fun z aN => ?_, fun U ad W env he => ⟨v, ?_, ⟨rfl, h1⟩⟩, fun j ae => absurd ae (ja v j)⟩ hd h
 ·simp [Op.operands] at aN; subst aN; exact ⟨_, aa⟩
 ·have aF : env x = va := (he x (by simp [Op.operands]) _ aa).1;simp only [execOp, aF, Sem.run_bind, ap, Result.andThen_ok, Sem.run_pure]
theorem Ux {src dst n : Nat} {b : Bool} {k k' : IntKind} {x : Operand} {a c : Int} [S : e6 P src b n] [I : EJ P dst k'] (hw : want ops ⟨some d, .convert src dst x, ty, pos, after, guard⟩ s = some true) (aa : s.look x = some (aQ (.int k a))) (al : k'.wrap a = c) (hd : Nat.blt d s.n = true) (h : bc P ops K rest (s.put (some d) (aQ (.int k' c)))) : bc P ops K (⟨some d, .convert src dst x, ty, pos, after, guard⟩ :: rest) s := by
 refine Ku hw aa (fun W => ?_) rfl hd h
 have hs : ∃ D, P.underlying src = some D := by
  have := S.h;unfold kj at this;cases hu : P.underlying src with
  | none => rw [hu] at this; cases this
  | some D => exact ⟨D, rfl⟩
 obtain ⟨D, hs⟩ := hs;unfold convert;simp only [Sem.run_bind, run_underlying hs, run_underlying I.h, Result.andThen_ok];rw [← al];cases D <;> rfl
theorem U5 {c x y : Operand} {av : ah} (hw : want ops ⟨some d, .pick c x y, ty, pos, after, guard⟩ s = some true) (al : s.look c = some (bk true)) (aa : s.look x = some av) {bv : ah} (ai : s.look y = some bv) (hd : Nat.blt d s.n = true) (h : bc P ops K rest (s.put (some d) av)) : bc P ops K (⟨some d, .pick c x y, ty, pos, after, guard⟩ :: rest) s := by
 refine fS hw ⟨fun _ _ h => (by cases h), fun z aN => ?_, fun U ad W env he => ⟨env x, ?_, he x (by simp [Op.operands]) av aa⟩, fun j ae => ⟨x, by simp [Op.operands], av, aa, ae⟩⟩ hd h
 ·simp [Op.operands] at aN;rcases aN with rfl | rfl | rfl
  ·exact ⟨_, al⟩
  ·exact ⟨_, aa⟩
  ·exact ⟨_, ai⟩
 ·have aF : env c = .bool true := (he c (by simp [Op.operands]) _ al).1;simp [execOp, aF, asBool]
theorem U4 {c x y : Operand} {av : ah} (hw : want ops ⟨some d, .pick c x y, ty, pos, after, guard⟩ s = some true) (al : s.look c = some (bk false)) (aa : s.look y = some av) {bv : ah} (ai : s.look x = some bv) (hd : Nat.blt d s.n = true) (h : bc P ops K rest (s.put (some d) av)) : bc P ops K (⟨some d, .pick c x y, ty, pos, after, guard⟩ :: rest) s := by
 refine fS hw ⟨fun _ _ h => (by cases h), fun z aN => ?_, fun U ad W env he => ⟨env y, ?_, he y (by simp [Op.operands]) av aa⟩, fun j ae => ⟨y, by simp [Op.operands], av, aa, ae⟩⟩ hd h
 ·simp [Op.operands] at aN;rcases aN with rfl | rfl | rfl
  ·exact ⟨_, al⟩
  ·exact ⟨_, ai⟩
  ·exact ⟨_, aa⟩
 ·have aF : env c = .bool false := (he c (by simp [Op.operands]) _ al).1;simp [execOp, aF, asBool]
theorem vW {f : FuncId} {g : Operand} {aM : Array TypeId} {l : List Operand} {args : List ah} {r : ah} [E : Enters P f] (hw : want ops ⟨some d, .call ⟨.value g, l.toArray, aM⟩, ty, pos, after, guard⟩ s = some true) (aq : s.look g = some (aQ (.func (.func f) #[] #[]))) (aJ : l.map s.look = args.map some) (hp : aH P f args r) (hd : Nat.blt d s.n = true) (h : bc P ops K rest (s.put (some d) r)) :
  bc P ops K (⟨some d, .call ⟨.value g, l.toArray, aM⟩, ty, pos, after, guard⟩ :: rest) s :=
 qt hw (.call f args r ⟨⟨_, g, rfl, rfl, .inl ⟨[], aq, by simpa using aJ, rfl⟩⟩, E.h⟩ hp) (kU hd) h
theorem sV {f : FuncId} {g : Operand} {aM : Array TypeId} {l : List Operand} {bs : List Value} {args : List ah} {r : ah} [E : Enters P f] (hw : want ops ⟨some d, .call ⟨.value g, l.toArray, aM⟩, ty, pos, after, guard⟩ s = some true) (aq : s.look g = some (aQ (.func (.func f) bs.toArray #[]))) (ab : bs.all Bl = true) (aJ : l.map s.look = args.map some) (hp : aH P f (bs.map xh ++ args) r) (hd : Nat.blt d s.n = true) (h : bc P ops K rest (s.put (some d) r)) :
  bc P ops K (⟨some d, .call ⟨.value g, l.toArray, aM⟩, ty, pos, after, guard⟩ :: rest) s :=
 qt hw (.call f _ r ⟨⟨_, g, rfl, rfl, .inl ⟨bs, aq, by rw [List.toList_toArray, aJ, List.map_append, List.map_map]; rfl, ab⟩⟩, E.h⟩ hp) (kU hd) h
theorem sU {f : FuncId} {g : Operand} {aM : Array TypeId} {l : List Operand} {cs : List AC} {args : List ah} {r : ah} [E : Enters P f] (hw : want ops ⟨some d, .call ⟨.value g, l.toArray, aM⟩, ty, pos, after, guard⟩ s = some true) (aq : s.look g = some (.w (.one (.p (pg (.func f) cs))))) (aJ : l.map s.look = args.map some) (hp : aH P f (args ++ cs.map fun x => .w (.one x)) r) (hd : Nat.blt d s.n = true) (h : bc P ops K rest (s.put (some d) r)) :
  bc P ops K (⟨some d, .call ⟨.value g, l.toArray, aM⟩, ty, pos, after, guard⟩ :: rest) s :=
 qt hw (.call f _ r ⟨⟨_, g, rfl, rfl, .inr ⟨cs, aq, by rw [List.toList_toArray, aJ, List.map_append, List.map_map]; rfl⟩⟩, E.h⟩ hp) (kU hd) h
theorem UU {fn : Fn} {x : Operand} {a : bx} {va : Value} (hw : want ops ⟨some d, .makeFunc fn #[x] #[], ty, pos, after, guard⟩ s = some true) (aa : s.look x = some (.w a)) (iv : mo a = some va) (hd : Nat.blt d s.n = true) (h : bc P ops K rest (s.put (some d) (aQ (.func fn #[va] #[])))) : bc P ops K (⟨some d, .makeFunc fn #[x] #[], ty, pos, after, guard⟩ :: rest) s := by
 refine fS (av := aQ (.func fn #[va] #[])) hw ⟨fun _ _ h => (by cases h), fun z aN => ?_, fun U ad W env he => ⟨.func fn #[va] #[], ?_, ⟨rfl, rfl⟩⟩, fun j ae => absurd ae (ja _ j)⟩ hd h
 ·simp [Op.operands] at aN; subst aN; exact ⟨_, aa⟩
 ·have aF : env x = va := BJ (he x (by simp [Op.operands]) _ aa) iv;have em : (#[x] : Array Operand).map env = #[va] := by simp [aF]
  simp only [execOp, em, Array.map_empty, Instr.makeFunc, Sem.run_bind, Sem.run_pure, Result.andThen_ok]
theorem Ks {f : FuncId} {g : Operand} {aM : Array TypeId} {r : ah} [E : Enters P f] (hw : want ops ⟨some d, .call ⟨.value g, #[], aM⟩, ty, pos, after, guard⟩ s = some true) (aq : s.look g = some (aQ (.func (.func f) #[] #[]))) (hp : aH P f [] r) (hd : Nat.blt d s.n = true) (h : bc P ops K rest (s.put (some d) r)) : bc P ops K (⟨some d, .call ⟨.value g, #[], aM⟩, ty, pos, after, guard⟩ :: rest) s :=
 vW (l := []) hw aq rfl hp hd h
theorem Bd {f : FuncId} {g : Operand} {aM : Array TypeId} {cA : Operand} {a1 : ah} {r : ah} [E : Enters P f] (hw : want ops ⟨some d, .call ⟨.value g, #[cA], aM⟩, ty, pos, after, guard⟩ s = some true) (aq : s.look g = some (aQ (.func (.func f) #[] #[]))) (h1 : s.look cA = some a1) (hp : aH P f [a1] r) (hd : Nat.blt d s.n = true) (h : bc P ops K rest (s.put (some d) r)) : bc P ops K (⟨some d, .call ⟨.value g, #[cA], aM⟩, ty, pos, after, guard⟩ :: rest) s :=
 vW (l := [cA]) hw aq (by simp [h1]) hp hd h
theorem E5 {f : FuncId} {g : Operand} {aM : Array TypeId} {cA cR : Operand} {a1 a2 : ah} {r : ah} [E : Enters P f] (hw : want ops ⟨some d, .call ⟨.value g, #[cA, cR], aM⟩, ty, pos, after, guard⟩ s = some true) (aq : s.look g = some (aQ (.func (.func f) #[] #[]))) (h1 : s.look cA = some a1) (h2 : s.look cR = some a2) (hp : aH P f [a1, a2] r) (hd : Nat.blt d s.n = true) (h : bc P ops K rest (s.put (some d) r)) : bc P ops K (⟨some d, .call ⟨.value g, #[cA, cR], aM⟩, ty, pos, after, guard⟩ :: rest) s :=
 vW (l := [cA, cR]) hw aq (by simp [h1, h2]) hp hd h
theorem E6 {f : FuncId} {g : Operand} {aM : Array TypeId} {cA cR j0 : Operand} {a1 a2 a3 : ah} {r : ah} [E : Enters P f] (hw : want ops ⟨some d, .call ⟨.value g, #[cA, cR, j0], aM⟩, ty, pos, after, guard⟩ s = some true) (aq : s.look g = some (aQ (.func (.func f) #[] #[]))) (h1 : s.look cA = some a1) (h2 : s.look cR = some a2) (ao : s.look j0 = some a3) (hp : aH P f [a1, a2, a3] r) (hd : Nat.blt d s.n = true) (h : bc P ops K rest (s.put (some d) r)) : bc P ops K (⟨some d, .call ⟨.value g, #[cA, cR, j0], aM⟩, ty, pos, after, guard⟩ :: rest) s :=
 vW (l := [cA, cR, j0]) hw aq (by simp [h1, h2, ao]) hp hd h
theorem Kt {f : FuncId} {g : Operand} {aM : Array TypeId} {cA cR j0 pd : Operand} {a1 a2 a3 a4 : ah} {r : ah} [E : Enters P f] (hw : want ops ⟨some d, .call ⟨.value g, #[cA, cR, j0, pd], aM⟩, ty, pos, after, guard⟩ s = some true) (aq : s.look g = some (aQ (.func (.func f) #[] #[]))) (h1 : s.look cA = some a1) (h2 : s.look cR = some a2) (ao : s.look j0 = some a3) (aD : s.look pd = some a4) (hp : aH P f [a1, a2, a3, a4] r) (hd : Nat.blt d s.n = true) (h : bc P ops K rest (s.put (some d) r)) : bc P ops K (⟨some d, .call ⟨.value g, #[cA, cR, j0, pd], aM⟩, ty, pos, after, guard⟩ :: rest) s :=
 vW (l := [cA, cR, j0, pd]) hw aq (by simp [h1, h2, ao, aD]) hp hd h
theorem E7 {f : FuncId} {g : Operand} {aM : Array TypeId} {cA cR j0 pd Ew : Operand} {a1 a2 a3 a4 a5 : ah} {r : ah} [E : Enters P f] (hw : want ops ⟨some d, .call ⟨.value g, #[cA, cR, j0, pd, Ew], aM⟩, ty, pos, after, guard⟩ s = some true) (aq : s.look g = some (aQ (.func (.func f) #[] #[]))) (h1 : s.look cA = some a1) (h2 : s.look cR = some a2) (ao : s.look j0 = some a3) (aD : s.look pd = some a4) (cm : s.look Ew = some a5) (hp : aH P f [a1, a2, a3, a4, a5] r) (hd : Nat.blt d s.n = true) (h : bc P ops K rest (s.put (some d) r)) : bc P ops K (⟨some d, .call ⟨.value g, #[cA, cR, j0, pd, Ew], aM⟩, ty, pos, after, guard⟩ :: rest) s :=
 vW (l := [cA, cR, j0, pd, Ew]) hw aq (by simp [h1, h2, ao, aD, cm]) hp hd h
def qw (ps : List (Nat × Nat)) : List AC → List (Nat × bx) → Option (List AC)
 | cs, [] => some cs
 | cs, (i, z) :: rest => match ps[i]? with
  | some (off, size) => bif Nat.beq size z.cells.length then match o3 cs off z.cells with
    | some r => qw ps r rest
    | none => none
   else none
  | none => none
def nr (look : Operand → Option ah) : List (Nat × Operand) → Option (List (Nat × bx))
 | [] => some []
 | (i, x) :: rest => match look x, nr look rest with
  | some (.w z), some r => some ((i, z) :: r)
  | _, _ => none
theorem ME (off : Nat) : ∀ (zs : List Value) (k : Nat) (mW : Array Value), off + k + zs.length ≤ mW.size → ((zs.zipIdx k).foldl (fun cs (c, j) => cs.setIfInBounds (off + j) c) mW).toList = mW.toList.take (off + k) ++ zs ++ mW.toList.drop (off + k + zs.length)
 | [], k, mW, _ => by simp
 | z :: zs, k, mW, h => by
  simp only [List.zipIdx_cons, p5];rw [ME off zs (k + 1) _ (by simp at h ⊢; omega)];have e := list_seg_step mW.toList (off + k) z zs (by simp at h ⊢; omega);simpa [Array.toList_setIfInBounds, Nat.add_assoc] using e
theorem yD {U : Nat → Prop} {ad : Nat → Nat} {W : World} {ps : List (Nat × Nat)} {place : Nat → Option (Nat × Nat)} (hp : ∀ i q, ps[i]? = some q → place i = some q) {look : Operand → Option ah} {env : Operand → Value} : ∀ (parts : List (Nat × Operand)) (cs : List AC) (vs : List Value) (zs : List (Nat × bx)) (r : List AC), bL U ad W cs vs → nr look parts = some zs → (∀ p ∈ parts, ∀ a, look p.2 = some a → cX U ad W a (env p.2)) → qw ps cs zs = some r →
  ∃ us : List Value, Instr.fill place vs.toArray (parts.map fun p => (p.1, env p.2)) = some us.toArray ∧ bL U ad W r us
 | [], cs, vs, zs, r, ak, aN, _, ab => by cases aN; cases ab; exact ⟨vs, rfl, ak⟩
 | (i, x) :: parts, cs, vs, zs, r, ak, aN, he, ab => by
  simp only [nr] at aN
  split at aN
  ·rename_i z AD aa ap;cases aN;simp only [qw] at ab
   split at ab
   ·rename_i off size nh;cases wI : Nat.beq size z.cells.length with
    | false => rw [wI] at ab; cases ab
    | true =>
     rw [wI] at ab;simp only [cond_true] at ab
     split at ab
     ·rename_i ar G8;have aN : fR U ad W z (env x) := he (i, x) (by simp) _ aa;have oL := aN.cells;obtain ⟨q1, q2⟩ := zU _ _ _ _ G8;have hs := hr wI;have yY : (env x).cells.size = z.cells.length := by have := oL.1; simp at this; exact this.symm
      have Ns := ak.1;have lS := ak.eD oL off q1;rw [q2] at lS;obtain ⟨us, g1, g2⟩ := yD hp parts ar _ AD r lS ap (fun p ng => he p (by simp [ng])) ab;refine ⟨us, ?_, g2⟩;simp only [kG, Instr.fill, hp i _ nh];rw [if_neg (by simp [yY, hs]; omega)];rw [← g1];congr 1;apply Array.ext';have := ME off (env x).cells.toList 0 vs.toArray (by simp [yY]; omega);rw [← Array.foldl_toList, Array.toList_zipIdx];simpa using this
     ·cases ab
   ·cases ab
  ·cases aN
theorem HM {look : Operand → Option ah} : ∀ (parts : List (Nat × Operand)) (zs : List (Nat × bx)), nr look parts = some zs → ∀ p ∈ parts, ∃ z, look p.2 = some (.w z) ∧ (p.1, z) ∈ zs
 | [], _, _, p, hp => by cases hp
 | (i, x) :: parts, zs, h, p, hp => by
  simp only [nr] at h
  split at h
  ·rename_i z AD aa ap;cases h;rcases gj.1 hp with rfl | hp
   ·exact ⟨z, aa, by simp⟩
   ·obtain ⟨ahk, h1, h2⟩ := HM parts AD ap p hp;exact ⟨ahk, h1, by simp [h2]⟩
  ·cases h
theorem OV {look : Operand → Option ah} : ∀ (parts : List (Nat × Operand)) (zs : List (Nat × bx)), nr look parts = some zs → ∀ q ∈ zs, ∃ p ∈ parts, look p.2 = some (.w q.2)
 | [], _, h, q, an => by cases h; cases an
 | (i, x) :: parts, zs, h, q, an => by
  simp only [nr] at h
  split at h
  ·rename_i z AD aa ap;cases h;rcases gj.1 an with rfl | an
   ·exact ⟨(i, x), by simp, aa⟩
   ·obtain ⟨p, h1, h2⟩ := OV parts AD ap q an;exact ⟨p, by simp [h1], h2⟩
  ·cases h
theorem aeG {cs ds r : List AC} {off : Nat} (h : o3 cs off ds = some r) : ∀ x ∈ r, x ∈ cs ∨ x ∈ ds := by
 obtain ⟨_, rfl⟩ := zU _ _ _ _ h;intro x aa;unfold eD at aa;simp only [jS] at aa;rcases aa with (h1 | h1) | h1
 ·exact .inl (mI h1)
 ·exact .inr h1
 ·exact .inl (mJ h1)
theorem Lb {ps : List (Nat × Nat)} : ∀ (zs : List (Nat × bx)) (cs r : List AC), qw ps cs zs = some r → ∀ x ∈ r, x ∈ cs ∨ ∃ q ∈ zs, x ∈ q.2.cells
 | [], cs, r, h, x, aa => by cases h; exact .inl aa
 | (i, z) :: zs, cs, r, h, x, aa => by
  simp only [qw] at h
  split at h
  ·rename_i off size nh;cases wI : Nat.beq size z.cells.length with
   | false => rw [wI] at h; cases h
   | true =>
    rw [wI] at h;simp only [cond_true] at h
    split at h
    ·rename_i ar G8;rcases Lb zs ar r h x aa with h1 | ⟨q, h1, h2⟩
     ·rcases aeG G8 x h1 with h2 | h2
      ·exact .inl h2
      ·exact .inr ⟨(i, z), by simp, h2⟩
     ·exact .inr ⟨q, by simp [h1], h2⟩
    ·cases h
  ·cases h
theorem RT {α β : Type} {f : α → Sem β} {W : World} : ∀ (l : List α) (vs : List β), l.length = vs.length → (∀ (i : Nat) x v, l[i]? = some x → vs[i]? = some v → (f x).run P W = .ok v W) → (l.mapM f).run P W = .ok vs W
 | [], [], _, _ => rfl
 | [], _ :: _, h, _ => by cases h
 | _ :: _, [], h, _ => by cases h
 | x :: l, v :: vs, ak, h => by
  have az := h 0 x v rfl rfl;have bI := RT l vs (by simpa using ak) (fun i x v aa hv => h (i + 1) x v (by simpa using aa) (by simpa using hv));rw [List.mapM_cons];simp only [Sem.run_bind, az, Result.andThen_ok, bI];rfl
theorem O0 {α β : Type} {f : α → Option β} : ∀ (l : List α) (vs : List β), l.mapM f = some vs → l.length = vs.length ∧ ∀ (i : Nat) x v, l[i]? = some x → vs[i]? = some v → f x = some v
 | [], vs, h => by cases h; exact ⟨rfl, fun i x v aa => by simp at aa⟩
 | a :: l, vs, h => by
  rw [List.mapM_cons] at h;cases aJ : f a with
  | none => rw [aJ] at h; cases h
  | some b =>
   rw [aJ] at h;cases ak : l.mapM f with
   | none => rw [ak] at h; cases h
   | some bs =>
    rw [ak] at h;cases h;obtain ⟨h1, h2⟩ := O0 l bs ak;refine ⟨by simp [h1], fun i x v aa hv => ?_⟩;cases i with
    | zero => simp at aa hv; subst aa; subst hv; exact aJ
    | succ i => exact h2 i x v (by simpa using aa) (by simpa using hv)
theorem Uv {t : Nat} {parts : List (Nat × Operand)} {vs : List Value} {ps : List (Nat × Nat)} {zs : List (Nat × bx)} {r : List AC} [Z : A6 P t vs] [L : J0 P t ps] (hw : want ops ⟨some d, .build t parts.toArray, ty, pos, after, guard⟩ s = some true) (aN : nr s.look parts = some zs) (ab : qw ps (vs.map .c) zs = some r) (h1 : (vs.all fun v => v.oneCell') = true) (hd : Nat.blt d s.n = true) (h : bc P ops K rest (s.put (some d) (.w (.agg r)))) : bc P ops K (⟨some d, .build t parts.toArray, ty, pos, after, guard⟩ :: rest) s := by
 refine fS (av := .w (.agg r)) hw ⟨fun _ _ h => (by cases h), fun z tx => ?_, fun U ad W env he => ?_, fun j ae => ?_⟩ hd h
 ·simp only [Op.operands, List.mem_toArray, gm] at tx;obtain ⟨p, hp, rfl⟩ := tx;obtain ⟨z, h1, _⟩ := HM parts zs aN p hp;exact ⟨_, h1⟩
 ·have dQ := Z.h;have iQ := L.h;unfold zeroOf at dQ;unfold DJ at iQ;cases hi : P.info? t with
  | none => rw [hi] at dQ; cases dQ
  | some i =>
   rw [hi] at dQ;simp only [kh] at dQ;cases hE : i.zero with
   | none => rw [hE] at dQ; cases dQ
   | some z =>
    rw [hE] at dQ;cases dQ
    split at iQ
    ·rename_i bg hu;obtain ⟨m1, m2⟩ := O0 _ _ iQ;have r5 : (zeroValue t).run P W = .ok z W := by simp [zeroValue, typeInfo, program, Sem.run_bind, Sem.run, hi, Result.andThen, hE]
     have oI : (bg.mapM fun f => (do pure (f.offset, ← sizeOf f.type) : Sem (Nat × Nat))).run P W = .ok ps.toArray W := by
      rw [Array.mapM_eq_mapM_toList]
      have := RT (P := P) (W := W) (f := fun f : Field => (do pure (f.offset, ← sizeOf f.type) : Sem (Nat × Nat))) bg.toList ps m1 (fun j x v aa hv => by
       have := m2 j x v aa hv;cases GN : P.info? x.type with
       | none => rw [GN] at this; cases this
       | some eE =>
        rw [GN] at this;cases this;simp only [Sem.run_bind, hK GN, Result.andThen_ok, Sem.run_pure])
      simp only [map_eq_pure_bind, Sem.run_bind, this, Result.andThen_ok, Sem.run_pure]
     have jK : bL U ad W (z.cells.toList.map .c) z.cells.toList := ⟨by simp, fun j x v aa hv => by
      rw [eh, hv] at aa;cases aa;exact ⟨rfl, b6.1 h1 v (cV hv)⟩⟩
     obtain ⟨us, g1, g2⟩ := yD (U := U) (ad := ad) (W := W) (ps := ps) (place := fun i => ps.toArray[i]?) (fun i q h => by simpa using h) (look := s.look) (env := env) parts _ _ zs r jK aN (fun p hp a aJ => he p.2 (by simp only [Op.operands, List.mem_toArray, gm]; exact ⟨p, hp, rfl⟩) a aJ) ab;refine ⟨.agg us.toArray, ?_, us, rfl, g2⟩;have tr : (parts.toArray.map fun (i, x) => (i, env x)).toList = parts.map fun p => (p.1, env p.2) := by simp
     have kd : z.cells.toList.toArray = z.cells := by simp
     rw [kd] at g1;simp only [execOp, Instr.build, Sem.run_bind, r5, Result.andThen_ok, run_underlying hu, oI, tr, g1, Sem.run_pure]
    ·rename_i n el hu;have r5 : (zeroValue t).run P W = .ok z W := by simp [zeroValue, typeInfo, program, Sem.run_bind, Sem.run, hi, Result.andThen, hE]
     have jK : bL U ad W (z.cells.toList.map .c) z.cells.toList := ⟨by simp, fun j x v aa hv => by
      rw [eh, hv] at aa;cases aa;exact ⟨rfl, b6.1 h1 v (cV hv)⟩⟩
     cases ax : Nat.ble n 32 with
     | false => rw [ax] at iQ; cases iQ
     | true =>
      rw [ax] at iQ;simp only [cond_true] at iQ;cases GM : P.info? el with
      | none => rw [GM] at iQ; cases iQ
      | some eE =>
       rw [GM] at iQ;simp only [ha, hY] at iQ
       obtain ⟨us, g1, g2⟩ := yD (U := U) (ad := ad) (W := W) (ps := ps) (place := fun i => some (i * eE.size, eE.size)) (fun i q h => by
        rw [← iQ, eh] at h;rcases hZ i n with bb | kx
        ·rw [bJ (by simpa using bb)] at h;simpa using h
        ·rw [l7 (by simpa using kx)] at h;cases h) (look := s.look) (env := env) parts _ _ zs r jK aN (fun p hp a aJ => he p.2 (by simp only [Op.operands, List.mem_toArray, gm]; exact ⟨p, hp, rfl⟩) a aJ) ab
       refine ⟨.agg us.toArray, ?_, us, rfl, g2⟩;have tr : (parts.toArray.map fun (i, x) => (i, env x)).toList = parts.map fun p => (p.1, env p.2) := by simp
       have kd : z.cells.toList.toArray = z.cells := by simp
       rw [kd] at g1;simp only [execOp, Instr.build, Sem.run_bind, r5, Result.andThen_ok, run_underlying hu, hK GM, tr, g1, Sem.run_pure]
    ·cases iQ
 ·obtain ⟨y, ai, lT⟩ := ae;rcases Lb zs _ r ab y ai with h2 | ⟨q, h2, ao⟩
  ·obtain ⟨v, _, rfl⟩ := gm.1 h2; cases lT
  ·obtain ⟨p, hp, ak⟩ := OV parts zs aN q h2;exact ⟨p.2, by simp only [Op.operands, List.mem_toArray, gm]; exact ⟨p, hp, rfl⟩, _, ak, ⟨y, ao, lT⟩⟩
theorem Kr {Fk : Builtin} {aM : Array TypeId} {x y : Operand} {va vb v : Value} (hw : want ops ⟨some d, .call ⟨.builtin Fk, #[x, y], aM⟩, ty, pos, after, guard⟩ s = some true) (aa : s.look x = some (aQ va)) (ai : s.look y = some (aQ vb)) (ap : ∀ cs W, (builtin Fk aM ty cs #[va, vb]).run P W = .ok (.value v) W) (h1 : v.oneCell' = true) (hd : Nat.blt d s.n = true) (h : bc P ops K rest (s.put (some d) (aQ v))) : bc P ops K (⟨some d, .call ⟨.builtin Fk, #[x, y], aM⟩, ty, pos, after, guard⟩ :: rest) s := by
 refine fS (av := aQ v) hw ⟨fun _ _ h => (by cases h), fun z aN => ?_, fun U ad W env he => ⟨v, ?_, ⟨rfl, h1⟩⟩, fun j ae => absurd ae (ja v j)⟩ hd h
 ·simp [Op.operands, Call.operands] at aN;rcases aN with rfl | rfl
  ·exact ⟨_, aa⟩
  ·exact ⟨_, ai⟩
 ·have aF : env x = va := (he x (by simp [Op.operands, Call.operands]) _ aa).1;have aP : env y = vb := (he y (by simp [Op.operands, Call.operands]) _ ai).1;have em : (#[x, y] : Array Operand).map env = #[va, vb] := by simp [aF, aP]
  simp only [execOp, resolve, em, Sem.run_bind, Sem.run_pure, Result.andThen_ok, invoke, ap]
theorem US {aM : Array TypeId} {x y : Operand} {k : IntKind} {a b : Int} (hw : want ops ⟨some d, .call ⟨.builtin .min, #[x, y], aM⟩, ty, pos, after, guard⟩ s = some true) (aa : s.look x = some (aQ (.int k a))) (ai : s.look y = some (aQ (.int k b))) (hd : Nat.blt d s.n = true) (h : bc P ops K rest (s.put (some d) (aQ (.int k (if b < a then b else a))))) : bc P ops K (⟨some d, .call ⟨.builtin .min, #[x, y], aM⟩, ty, pos, after, guard⟩ :: rest) s :=
 Kr hw aa ai (fun cs W => by go_simp; all_goals (first | rfl | (split <;> omega))) rfl hd h
theorem E9 {aM : Array TypeId} {x y : Operand} {k : IntKind} {a b : Int} (hw : want ops ⟨some d, .call ⟨.builtin .max, #[x, y], aM⟩, ty, pos, after, guard⟩ s = some true) (aa : s.look x = some (aQ (.int k a))) (ai : s.look y = some (aQ (.int k b))) (hd : Nat.blt d s.n = true) (h : bc P ops K rest (s.put (some d) (aQ (.int k (if b > a then b else a))))) : bc P ops K (⟨some d, .call ⟨.builtin .max, #[x, y], aM⟩, ty, pos, after, guard⟩ :: rest) s :=
 Kr hw aa ai (fun cs W => by go_simp; all_goals (first | rfl | (split <;> omega))) rfl hd h
theorem Uw {t : Nat} {b : Bool} {l : List Oper} (hs : s.tmps t = some (bk b)) (h1 : b = true → bc P ops K l (s.put (some t) (bk true))) (az : b = false → bc P ops K l (s.put (some t) (bk false))) : bc P ops K l s := by
 have same : ∀ c, b = c → s.put (some t) (bk c) = s := fun c e => by
  subst e;simp only [aC.put];congr 1;funext j
  by_cases ae : j = t
  ·subst ae; rw [cl, hs]
  ·rw [b9 _ _ ae]
 cases b with
 | true => rw [← same true rfl]; exact h1 rfl
 | false => rw [← same false rfl]; exact az rfl
end
theorem aL : ([] : List ResultVar).map (iG P s) = ([] : List bx).map some := rfl
theorem a8 {t : Nat} {x : bx} {l : List ResultVar} {xs : List bx} (h : s.tmps t = some (.w x)) (ak : l.map (iG P s) = xs.map some) : (ResultVar.tmp t :: l).map (iG P s) = (x :: xs).map some := by
 simp only [kG, ak]; rw [show iG P s (.tmp t) = some x by simp only [iG, h]]
theorem cL {a ty k off n : Nat} [T : e6 P ty true n] {cs aT : List AC} {l : List ResultVar} {xs : List bx} (h : s.tmps a = some (mQ k off)) (hm : s.mem k = some cs) (al : takeN cs off n = some aT) (ak : l.map (iG P s) = xs.map some) : (ResultVar.cell a ty :: l).map (iG P s) = (.agg aT :: xs).map some := by
 simp only [kG, ak]; rw [show iG P s (.cell a ty) = some (.agg aT) by simp only [iG, h, hm, kh, Sp T.h al]]
theorem bd {fn : Func} {l : List ResultVar} {xs : List bx} {r : ah} (ap : fn.results = l.toArray) (h : l.map (iG P s) = xs.map some) (hle : (packed xs).aS r) : yn P fn r .ret s := ⟨xs, by rw [ap]; exact h, hle⟩
theorem aef {f : FuncId} {args : List ah} {r : ah} {jj : List Value} (he : args.map (fun x => match x with | .w y => mo y | _ => none) = jj.map some) (jC : ∀ x ∈ args, x.closed) (b0 : r.closed)
  (h : ∀ W, Calls P f jj.toArray W fun e bf => ∃ v, e = .returned v ∧ (∀ U, (∀ b, W.heap.size ≤ b → U b) → cX U id bf r v) ∧ Below W.heap.size W bf) : aH P f args r := by
 refine ⟨jC, b0, fun U W vs cK => ?_⟩
 have e : vs = jj := by
  apply List.ext_getElem?;intro i;have ak := cK.1;have nf : args.length = jj.length := by have := congrArg List.length he; simpa using this
  rcases hZ i args.length with hi | hi
  ·have h1 : (args.map (fun x => match x with | .w y => mo y | _ => none))[i]? = (jj.map some)[i]? := by rw [he]
   rw [eh, eh, bJ hi, bJ (by omega : i < jj.length)] at h1;simp only [ha, hY] at h1;rw [bJ (by omega : i < vs.length), bJ (by omega : i < jj.length)];have h2 := cK.2 i args[i] vs[i] (bJ hi) (bJ (by omega));cases aa : args[i] with
   | w y =>
    rw [aa] at h1 h2;rw [BJ h2 h1]
   | cn xs => rw [aa] at h1; cases h1
  ·rw [l7 (by omega), l7 (by omega)]
 subst e;refine (h W).mono ?_;rintro e bf ⟨v, h1, h2, ao⟩;exact ⟨v, h1, h2 _ fun b ab => .inr ab, ao⟩
def AC.aY : AC → Bool
 | .own _ _ => false
 | _ => true
def bx.aY : bx → Bool
 | .one x => x.aY
 | .agg xs => xs.all AC.aY
def ah.aY : ah → Bool
 | .w x => x.aY
 | .cn xs => xs.all bx.aY
theorem AC.dq {x : AC} (h : x.aY = true) (j : Nat) : ¬ x.owns j := by cases x <;> simp_all [AC.aY, AC.owns]
theorem bx.dq {x : bx} (h : x.aY = true) (j : Nat) : ¬ x.owns j := by
 rintro ⟨y, ai, ae⟩;cases x with
 | one z => simp [bx.cells] at ai; subst ai; exact AC.dq h j ae
 | agg xs => exact AC.dq (b6.1 h y ai) j ae
theorem ah.dq {x : ah} (h : x.aY = true) : x.closed := fun j => by
 cases x with
 | w y => exact bx.dq h j
 | cn xs => rintro ⟨y, ai, ae⟩; exact bx.dq (b6.1 h y ai) j ae
theorem bl {f : FuncId} {fn : Func} {c : Code} {args : List ah} {r : ah} (au : P.funcs[f]? = some fn) (ab : fn.body = some c) (ax : Nat.ble args.length fn.ntmps = true) (jC : args.all ah.aY = true) (b0 : r.aY = true)
  (h : fj P c (yn P fn r) (start fn.ntmps args)) : aH P f args r :=
 aeh au ab (by simpa [Nat.ble_eq] using ax) (fun x aa => ah.dq (b6.1 jC x aa)) (ah.dq b0) h
theorem aee {f : FuncId} {fn : Func} {c : Code} {args : List ah} {r : ah} (au : P.funcs[f]? = some fn) (ab : fn.body = some c) (ax : Nat.ble args.length fn.ntmps = true) (jC : args.all ah.aY = true) (b0 : r.aY = true)
  (h : sG P c (yn P fn r) (start fn.ntmps args)) : aH P f args r :=
 QN au ab (by simpa [Nat.ble_eq] using ax) (fun x aa => ah.dq (b6.1 jC x aa)) (ah.dq b0) h
theorem Iv {f : FuncId} {args : List ah} {r : ah} (jj : List Value) (he : args.map (fun x => match x with | .w y => mo y | _ => none) = jj.map some) (jC : args.all ah.aY = true) (b0 : r.aY = true)
  (h : ∀ W, Calls P f jj.toArray W fun e bf => ∃ v, e = .returned v ∧ (∀ U, (∀ b, W.heap.size ≤ b → U b) → cX U id bf r v) ∧ Below W.heap.size W bf) : aH P f args r :=
 aef he (fun x aa => ah.dq (b6.1 jC x aa)) (ah.dq b0) h
theorem KL {next : aC → Prop} {Q : Exit → aC → Prop} (h : next s) : rD next Q .normal s := h
theorem Vl {next : aC → Prop} {Q : Exit → aC → Prop} {id : Nat} (h : Q (.exit id) s) : rD next Q (.exit id) s := h
theorem Vm {next : aC → Prop} {Q : Exit → aC → Prop} (h : Q .ret s) : rD next Q .ret s := h
theorem Uc {Q : Exit → aC → Prop} {id : Nat} (h : Q .normal s) : vV id Q .normal s := h
theorem Ud {Q : Exit → aC → Prop} {id : Nat} (h : Q .ret s) : vV id Q .ret s := h
theorem Ue {Q : Exit → aC → Prop} {id : Nat} (h : Q .normal s) : vV id Q (.exit id) s := by simp only [vV, Nat.beq_refl, cond_true]; exact h
theorem cg {dst : Option Nat} {op : Op} {ty : Nat} {pos : String} {after : Array Edge} {g t : Nat} {b K1 c : Bool} (hd : (ops[g]?).bind (·.dst) = some t) (hs : s.tmps t = some (bk K1)) (ab : K1 = c)
  (h1 : bc P ops K (⟨dst, op, ty, pos, after, some (g, b)⟩ :: rest) (s.put (some t) (bk c))) : bc P ops K (⟨dst, op, ty, pos, after, some (g, b)⟩ :: rest) s := by
 subst ab;exact Uw hs (fun e => by subst e; exact h1) (fun e => by subst e; exact h1)
theorem KP {c : Operand} {t u : Bool} {x y : Code} {Q : Exit → aC → Prop} (al : s.look c = some (bk t)) (aB : t = u) (h : fj P (bif u then x else y) Q s) : fj P (.cond c x y) Q s := by
 subst aB;cases t with
 | true => exact KR al h
 | false => exact KQ al h
theorem Vp {c : Operand} {t : Bool} {x y : Code} {Q : Exit → aC → Prop} (al : s.look c = some (bk t)) (aB : t = true) (h : fj P x Q s) : fj P (.cond c x y) Q s := KP al aB h
theorem KO {c : Operand} {t : Bool} {x y : Code} {Q : Exit → aC → Prop} (al : s.look c = some (bk t)) (aB : t = false) (h : fj P y Q s) : fj P (.cond c x y) Q s := KP al aB h
end
abbrev aZ (x y : Int) : ah := .w (.agg [.c (.int .i64 x), .c (.int .i64 y)])
def FX (w : World) : AC → Value → Nat → Prop
 | .p R, x, b => R.kW w x b
 | _, _, _ => False
theorem yd (a : Addr) (m j : Nat) : (a.add m).add j = a.add (m + j) := by
 unfold Addr.add
 by_cases h1 : m = 0 <;> by_cases h2 : j = 0 <;> simp [h1, h2, Nat.add_assoc]
theorem block_add (a : Addr) (m : Nat) : (a.add m).block = a.block := by unfold Addr.add; split <;> rfl
structure kL (w : World) (a : Addr) (xs : List AC) (vs : List Value) : Prop where
 lt : a.block < w.heap.size
 oi : bL (fun _ => True) id w xs vs
 at_ : ∀ (j : Nat) v, vs[j]? = some v → w.cell? (a.add j) = some v
 pA : ∀ y ∈ xs, y.aY = true
def mY (w : World) (a : Addr) (xs : List AC) (b : Nat) : Prop := a.block = b ∨ ∃ (j : Nat) (y : AC) (v : Value), xs[j]? = some y ∧ w.cell? (a.add j) = some v ∧ FX w y v b
theorem kL.frame {w w' : World} {a : Addr} {xs : List AC} {vs : List Value} (h : kL w a xs vs) (au : ∀ b, mY w a xs b → w'.heap[b]? = w.heap[b]?) : kL w' a xs vs ∧ ∀ b, mY w' a xs b → mY w a xs b := by
 have ab : w'.heap[a.block]? = w.heap[a.block]? := au _ (.inl rfl);have al : ∀ j, w'.cell? (a.add j) = w.cell? (a.add j) := fun j => World.cell?_of_block (w := w) (by rw [block_add]; exact ab)
 have key : ∀ (j : Nat) (y : AC) (v : Value), xs[j]? = some y → w.cell? (a.add j) = some v → gE (fun _ => True) id w y v → gE (fun _ => True) id w' y v ∧ ∀ b, FX w' y v b → FX w y v b := by
  intro j y v ai hv ap;cases y with
  | c u => exact ⟨ap, fun b h => h⟩
  | own k o => exact ⟨ap, fun b h => h⟩
  | p R =>
   have := R.frame w w' v ap.1 fun b ab => au b (.inr ⟨j, _, v, ai, hv, ab⟩);exact ⟨⟨this.1, fun _ _ => trivial⟩, this.2⟩
 refine ⟨⟨?_, ⟨h.oi.1, fun i y v ai hv => (key i y v ai (h.at_ i v hv) (h.oi.2 i y v ai hv)).1⟩, fun j v hv => by rw [al]; exact h.at_ j v hv, h.pA⟩, ?_⟩
 ·have cm := Array.getElem?_eq_getElem h.lt;exact (jU.1 (ab.trans cm)).1
 ·rintro b (h1 | ⟨j, y, v, ai, hv, gx⟩)
  ·exact .inl h1
  ·rw [al] at hv;have bb : j < vs.length := by rw [← h.oi.1]; exact (bA.1 ai).1
   have h2 := h.at_ j _ (bJ bb);rw [hv] at h2;cases h2;exact .inr ⟨j, y, _, ai, hv, (key j y _ ai hv (h.oi.2 j y _ ai (bJ bb))).2 b gx⟩
theorem kL.ik {w : World} {a : Addr} {xs : List AC} {vs : List Value} {b : Nat} (h : kL w a xs vs) (au : mY w a xs b) : b < w.heap.size := by
 rcases au with rfl | ⟨j, y, v, ai, hv, gx⟩
 ·exact h.lt
 ·have bb : j < vs.length := by rw [← h.oi.1]; exact (bA.1 ai).1
  have h2 := h.at_ j _ (bJ bb);rw [hv] at h2;cases h2;have := h.oi.2 j y _ ai (bJ bb);cases y with
  | c u => cases gx
  | own k o => cases gx
  | p R => exact R.ik _ _ _ this.1 gx
theorem kL.sub {w : World} {a : Addr} {xs : List AC} {vs : List Value} (h : kL w a xs vs) (off n : Nat) : kL w (a.add off) ((xs.drop off).take n) ((vs.drop off).take n) := by
 refine ⟨by rw [block_add]; exact h.lt, h.oi.sub off n, fun j v hv => ?_, fun y ai => h.pA y (mJ (mI ai))⟩;rw [yd]
 have ae : j < n := by
  have := (bA.1 hv).1;simp at this; omega
 rw [fw ae, fP] at hv;exact h.at_ _ v hv
theorem mY.sub {w : World} {a : Addr} {xs : List AC} {off n b : Nat} (h : mY w (a.add off) ((xs.drop off).take n) b) : mY w a xs b := by
 rcases h with h | ⟨j, y, v, ai, hv, gx⟩
 ·rw [block_add] at h; exact .inl h
 ·rw [yd] at hv
  have ae : j < n := by
   have := (bA.1 ai).1;simp at this; omega
  rw [fw ae, fP] at ai;exact .inr ⟨_, y, v, ai, hv, gx⟩
theorem kL.IP {w : World} {a : Addr} {xs : List AC} {vs : List Value} {U : Nat → Prop} {ad : Nat → Nat} (h : kL w a xs vs) (di : ∀ b, mY w a xs b → U b) : bL U ad w xs vs := by
 refine ⟨h.oi.1, fun i y v ai hv => ?_⟩;have h1 := h.oi.2 i y v ai hv;have h2 := h.pA y (cV ai);cases y with
 | c u => exact h1
 | own k o => cases h2
 | p R => exact ⟨h1.1, fun b ab => di b (.inr ⟨i, _, v, ai, h.at_ i v hv, ab⟩)⟩
def EO (xs : List AC) : e0 where
 holds w v := ∃ a vs, v = .pointer (some a) ∧ kL w a xs vs
 kW w v b := ∃ a, v = .pointer (some a) ∧ mY w a xs b
 frame w w' v := by
  rintro ⟨a, vs, rfl, h⟩ au;obtain ⟨h1, h2⟩ := h.frame fun b ab => au b ⟨a, rfl, ab⟩;exact ⟨⟨a, vs, rfl, h1⟩, fun b ⟨a', e, ab⟩ => by cases e; exact ⟨a, rfl, h2 b ab⟩⟩
 ik w v b := by
  rintro ⟨a, vs, rfl, h⟩ ⟨a', e, ab⟩;cases e;exact h.ik ab
 cell w v := by rintro ⟨a, vs, rfl, h⟩; rfl
def bX (sz n : Nat) (xs : List AC) : e0 where
 holds w v := ∃ A c, v = .slice A n c ∧ n ≤ c ∧ xs.length = n * sz ∧ (0 < n → ∃ a vs, A = some a ∧ kL w a xs vs)
 kW w v b := ∃ c a, v = .slice (some a) n c ∧ 0 < n ∧ mY w a xs b
 frame w w' v := by
  rintro ⟨A, c, rfl, al, ak, h⟩ au;refine ⟨⟨A, c, rfl, al, ak, fun ax => ?_⟩, ?_⟩
  ·obtain ⟨a, vs, rfl, aK⟩ := h ax;exact ⟨a, vs, rfl, (aK.frame fun b ab => au b ⟨c, a, rfl, ax, ab⟩).1⟩
  ·rintro b ⟨c', a', e, ax, ab⟩;cases e;obtain ⟨a, vs, e, aK⟩ := h ax;cases e;exact ⟨c, a', rfl, ax, (aK.frame fun b ab => au b ⟨c, a', rfl, ax, ab⟩).2 b ab⟩
 ik w v b := by
  rintro ⟨A, c, rfl, al, ak, h⟩ ⟨c', a', e, ax, ab⟩;cases e;obtain ⟨a, vs, e, aK⟩ := h ax;cases e;exact aK.ik ab
 cell w v := by rintro ⟨A, c, rfl, _⟩; rfl
abbrev cM (sz n : Nat) (xs : List AC) : ah := .w (.one (.p (bX sz n xs)))
abbrev Aw (xs : List AC) : ah := .w (.one (.p (EO xs)))
theorem ly (R : e0) (j : Nat) : ¬ (ah.w (.one (.p R))).owns j := fun ⟨y, ai, h⟩ => by simp [bx.cells] at ai; subst ai; cases h
section
variable {P : Program} {s : aC} {o : Oper} {ops : Array Oper} {K : aC → Prop} {rest : List Oper} {op : Op} {ty : Nat} {pos : String} {after : Array Edge} {guard : Option (Nat × Bool)} {d : Nat}
theorem E8 {av : ah} (hw : want ops ⟨some d, op, ty, pos, after, guard⟩ s = some true) (an : vN P s.look ⟨some d, op, ty, pos, after, guard⟩ av) (hd : Nat.blt d s.n = true) (h : bc P ops K rest (s.put (some d) av)) : bc P ops K (⟨some d, op, ty, pos, after, guard⟩ :: rest) s :=
 qt (e := ⟨av, none⟩) hw (.fresh av an) (kU hd) h
theorem mN {t sz : Nat} (h : sC P t = some sz) : ∃ e i, P.underlying t = some (.slice e) ∧ P.info? e = some i ∧ i.size = sz := by
 unfold sC at h
 split at h
 ·rename_i e hu;cases hi : P.info? e with
  | none => rw [hi] at h; cases h
  | some i => rw [hi] at h; cases h; exact ⟨e, i, hu, hi, rfl⟩
 ·cases h
theorem kr {t e : Nat} (h : P.underlying t = some (.slice e)) : P.elem t = e := by simp [Program.elem, h]
theorem Kz {t sz agE n : Nat} {xs : List AC} {x : Operand} [S : hP P t agE] (hw : want ops ⟨some d, .call ⟨.builtin .len, #[x], #[t]⟩, ty, pos, after, guard⟩ s = some true) (aa : s.look x = some (cM sz n xs)) (hd : Nat.blt d s.n = true)
  (h : bc P ops K rest (s.put (some d) (aE n))) : bc P ops K (⟨some d, .call ⟨.builtin .len, #[x], #[t]⟩, ty, pos, after, guard⟩ :: rest) s := by
 refine fS (av := aE n) hw ⟨fun _ _ h => (by cases h), fun y ai => ?_, fun U ad W env he => ⟨.int .i64 n, ?_, rfl, rfl⟩, fun j ae => absurd ae (ja _ j)⟩ hd h
 ·simp [Op.operands, Call.operands] at ai;subst ai;exact ⟨_, aa⟩
 ·obtain ⟨⟨A, c, aF, _⟩, _⟩ := he x (by simp [Op.operands, Call.operands]) _ aa;obtain ⟨e, i, hu, hi, _⟩ := mN S.h;have e4 : P.underlying t = some (.slice (P.elem t)) := by rw [kr hu]; exact hu
  have em : (#[x] : Array Operand).map env = #[.slice A n c] := by simp [aF]
  simp only [execOp, resolve, em, Sem.run_bind, Sem.run_pure, Result.andThen_ok, invoke, builtin];rw [run_len_slice W t ty A n c e4];rfl
theorem Ky {x y : Operand} {t sz n : Nat} {gV : IntKind} {i : Int} {xs aT : List AC} [S : hP P t sz] (hw : want ops ⟨some d, .indexAddr t x y, ty, pos, after, guard⟩ s = some true) (aa : s.look x = some (cM sz n xs)) (ai : s.look y = some (aQ (.int gV i))) (az : 0 ≤ i) (h1 : i < n)
  (he : (xs.drop (i.toNat * sz)).take sz = aT) (hd : Nat.blt d s.n = true) (h : bc P ops K rest (s.put (some d) (Aw aT))) : bc P ops K (⟨some d, .indexAddr t x y, ty, pos, after, guard⟩ :: rest) s := by
 subst he;refine fS hw ⟨fun _ _ h => (by cases h), fun z aN => ?_, fun U ad W env he => ?_, fun j ae => absurd ae (ly _ j)⟩ hd h
 ·simp [Op.operands] at aN;rcases aN with rfl | rfl
  ·exact ⟨_, aa⟩
  ·exact ⟨_, ai⟩
 ·obtain ⟨⟨A, c, aF, al, ak, ec⟩, di⟩ := he x (by simp [Op.operands]) _ aa;have hi : env y = .int gV i := (he y (by simp [Op.operands]) _ ai).1;obtain ⟨e, eE, hu, c4, hs⟩ := mN S.h;obtain ⟨a, vs, rfl, eu⟩ := ec (by omega);refine ⟨.pointer (some (a.add (i.toNat * sz))), ?_, ⟨_, _, rfl, eu.sub _ _⟩, ?_⟩
  ·simp only [execOp, Instr.indexAt, aF, hi, asIntOf, Sem.run_bind, Sem.run_pure, Result.andThen_ok, run_underlying hu, hK c4, if_pos (And.intro az h1), hs]
  ·rintro b ⟨a', e, ab⟩;cases e;exact di b ⟨c, a, aF, by omega, ab.sub⟩
theorem Kw {x : Operand} {qa i h7 : Nat} {xs : List AC} [F : kM P qa i h7] (hw : want ops ⟨some d, .fieldAddr qa x i, ty, pos, after, guard⟩ s = some true) (aa : s.look x = some (Aw xs)) (hd : Nat.blt d s.n = true) (h : bc P ops K rest (s.put (some d) (Aw (xs.drop h7)))) : bc P ops K (⟨some d, .fieldAddr qa x i, ty, pos, after, guard⟩ :: rest) s := by
 refine fS hw ⟨fun _ _ h => (by cases h), fun y ai => ?_, fun U ad W env he => ?_, fun j ae => absurd ae (ly _ j)⟩ hd h
 ·simp [Op.operands] at ai;subst ai;exact ⟨_, aa⟩
 ·obtain ⟨⟨a, vs, aF, eu⟩, di⟩ := he x (by simp [Op.operands]) _ aa;have hF := F.h;unfold s9 at hF
  split at hF
  ·rename_i bg hu;cases au : bg[i]? with
   | none => rw [au] at hF; cases hF
   | some f =>
    rw [au] at hF;simp only [kh] at hF;cases hi : P.info? f.type with
    | none => rw [hi] at hF; cases hF
    | some t =>
     rw [hi] at hF;simp only [kh] at hF
     split at hF
     ·cases hF
     ·rename_i bU;cases hF;have zi := eu.sub f.offset xs.length;rw [gn (by simp), gn (by have := eu.oi.1; simp; omega)] at zi;refine ⟨.pointer (some (a.add f.offset)), ?_, ⟨_, _, rfl, zi⟩, ?_⟩
      ·simp only [execOp, Instr.fieldAt, aF, Instr.sureAddr, Sem.run_bind, Sem.run_pure, Result.andThen_ok, run_underlying hu, au, fieldPlace, hK hi, if_neg bU]
      ·rintro b ⟨a', e, ab⟩;cases e;refine di b ⟨a, aF, mY.sub (off := f.offset) (n := xs.length) ?_⟩;rw [gn (by simp)];exact ab
  ·cases hF
theorem UQ {x : Operand} {lt n : Nat} {xs : List AC} {y : AC} [T : e6 P lt false n] (hw : want ops ⟨some d, .load lt x, ty, pos, after, guard⟩ s = some true) (aa : s.look x = some (Aw xs)) (al : xs[0]? = some y) (cC : y.aY = true) (hd : Nat.blt d s.n = true) (h : bc P ops K rest (s.put (some d) (.w (.one y)))) : bc P ops K (⟨some d, .load lt x, ty, pos, after, guard⟩ :: rest) s := by
 refine fS hw ⟨fun _ _ h => (by cases h), fun y ai => ?_, fun U ad W env he => ?_, fun j ae => ?_⟩ hd h
 ·simp [Op.operands] at ai;subst ai;exact ⟨_, aa⟩
 ·obtain ⟨⟨a, vs, aF, eu⟩, di⟩ := he x (by simp [Op.operands]) _ aa;have ap := eu.IP (U := U) (ad := ad) fun b ab => di b ⟨a, aF, ab⟩;have bb : 0 < vs.length := by rw [← ap.1]; exact (bA.1 al).1
  have hv := bJ bb;refine ⟨_, ?_, ap.2 0 y _ al hv⟩;have cB := T.h;have jq : W.cell? a = some vs[0] := eu.at_ 0 _ hv;unfold kj at cB;cases hu : P.underlying lt with
  | none => rw [hu] at cB; cases cB
  | some D =>
   have key : (loadVar lt a).run P W = .ok vs[0] W := by
    refine IW hu (fun bg e => ?_) (fun m bo e => ?_) jq
    ·subst e;cases hi : P.info? lt with
     | none => simp [hu, hi] at cB
     | some eE => simp [hu, hi] at cB
    ·subst e;cases hi : P.info? lt with
     | none => simp [hu, hi] at cB
     | some eE => simp [hu, hi] at cB
   simp only [execOp, Instr.loadAt, aF, Instr.sureAddr, Sem.run_bind, Sem.run_pure, Result.andThen_ok, key]
 ·exact absurd ae (ah.dq (x := .w (.one y)) cC j)
theorem KA {x : Operand} {lt n : Nat} {xs aT : List AC} [T : e6 P lt true n] (hw : want ops ⟨some d, .load lt x, ty, pos, after, guard⟩ s = some true) (aa : s.look x = some (Aw xs)) (al : takeN xs 0 n = some aT) (cC : (bx.agg aT).aY = true) (hd : Nat.blt d s.n = true) (h : bc P ops K rest (s.put (some d) (.w (.agg aT)))) : bc P ops K (⟨some d, .load lt x, ty, pos, after, guard⟩ :: rest) s := by
 refine fS hw ⟨fun _ _ h => (by cases h), fun y ai => ?_, fun U ad W env he => ?_, fun j ae => ?_⟩ hd h
 ·simp [Op.operands] at ai;subst ai;exact ⟨_, aa⟩
 ·obtain ⟨⟨a, vs, aF, eu⟩, di⟩ := he x (by simp [Op.operands]) _ aa;obtain ⟨q1, q2⟩ := Eh _ _ _ _ al;have zi := eu.sub 0 n;have ap := zi.IP (U := U) (ad := ad) fun b ab => di b ⟨a, aF, mY.sub ab⟩;rw [q2] at ap;have aJ : a.add 0 = a := rfl;refine ⟨.agg ((vs.drop 0).take n).toArray, ?_, _, rfl, ap⟩;have cB := T.h;unfold kj at cB;have hlen : ((vs.drop 0).take n).length = n := by have := eu.oi.1; simp; omega
  have jq := zi.at_;rw [aJ] at jq;cases hu : P.underlying lt with
  | none => rw [hu] at cB; cases cB
  | some D =>
   cases hi : P.info? lt with
   | none => rw [hu, hi] at cB; cases D <;> cases cB
   | some eE =>
    rw [hu, hi] at cB;have key : ((∃ bg, D = .struct bg) ∨ ∃ n e, D = .array n e) ∧ eE.size = n := by cases D <;> simp at cB <;> simp [cB]
    have := IV (P := P) (w := W) (A := a) hu key.1 hi (by rw [hlen, key.2]) jq;simp only [execOp, Instr.loadAt, aF, Instr.sureAddr, Sem.run_bind, Sem.run_pure, Result.andThen_ok, this]
 ·exact absurd ae (ah.dq (x := .w (.agg aT)) cC j)
def xy (P : Program) (t : TypeId) : Option (List Value) :=
 match P.underlying t with
 | some (.slice e) => zeroOf P e
 | _ => none
class nL (P : Program) (t : TypeId) (vs : outParam (List Value)) : Prop where
 h : xy P t = some vs
def h4 (n sz : Nat) (vs : List Value) : List AC := (List.range (n * sz)).map fun j => .c (vs.toArray[j % vs.length]!)
def xl (n sz : Nat) : List (Nat × Nat) := (List.range n).map fun i => (i * sz, sz)
theorem Ve {w : World} {sx : List AC} {us : List Value} {ty : TypeId} {U : Nat → Prop} {ad : Nat → Nat} (h : bL U ad w sx us) (cC : ∀ y ∈ sx, y.aY = true) : kL (w.alloc (.cells us.toArray ty)) ⟨w.heap.size, 0, none⟩ sx us := by
 refine ⟨by show w.heap.size < (w.heap.push _).size; simp, ⟨h.1, fun i y v ai hv => ?_⟩, fun j v hv => ?_, cC⟩
 ·refine (h.2 i y v ai hv).map (fun b ab ak => ⟨trivial, Below.heap_alloc _ _ _ ak⟩) fun j ae => ?_;exact absurd ae (AC.dq (cC y (cV ai)) j)
 ·have ku : (⟨w.heap.size, 0, none⟩ : Addr).add j = ⟨w.heap.size, j, none⟩ := by unfold Addr.add; split <;> simp_all
  rw [ku];have : (w.alloc (.cells us.toArray ty)).heap[w.heap.size]? = some (.cells us.toArray ty (0, 0)) := by show (w.heap.push _)[w.heap.size]? = _; simp
  simp only [World.cell?, this];simpa using hv
theorem Vf {w : World} {sx : List AC} {us : List Value} {ty : TypeId} {U : Nat → Prop} {ad : Nat → Nat} {b : Nat} (h : bL U ad w sx us) (au : mY (w.alloc (.cells us.toArray ty)) ⟨w.heap.size, 0, none⟩ sx b) : U b ∨ w.heap.size ≤ b := by
 rcases au with rfl | ⟨j, y, v, ai, hv, gx⟩
 ·exact .inr (dE _)
 ·have ku : (⟨w.heap.size, 0, none⟩ : Addr).add j = ⟨w.heap.size, j, none⟩ := by unfold Addr.add; split <;> simp_all
  rw [ku] at hv;have : (w.alloc (.cells us.toArray ty)).heap[w.heap.size]? = some (.cells us.toArray ty (0, 0)) := by show (w.heap.push _)[w.heap.size]? = _; simp
  simp only [World.cell?, this] at hv;have bQ : us[j]? = some v := by simpa using hv
  have ap := h.2 j y v ai bQ;cases y with
  | c u => cases gx
  | own k o => cases gx
  | p R =>
   refine .inl (ap.2 b ?_);exact (R.frame w _ v ap.1 fun bS dc => Below.heap_alloc _ _ _ (R.ik _ _ _ ap.1 dc)).2 b gx
theorem Uu {t n sz : Nat} {parts : List (Nat × Operand)} {vs : List Value} {zs : List (Nat × bx)} {r : List AC} [S : hP P t sz] [Z : nL P t vs] (hw : want ops ⟨some d, .buildSlice t n parts.toArray, ty, pos, after, guard⟩ s = some true) (aN : nr s.look parts = some zs) (ab : qw (xl n sz) (h4 n sz vs) zs = some r)
  (h1 : (vs.all fun v => v.oneCell') = true) (hs : Nat.beq vs.length sz = true) (az : Nat.blt 0 (n * sz) = true) (h2 : Nat.ble (n * sz) 16777216 = true) (ap : Nat.beq r.length (n * sz) = true) (cC : r.all AC.aY = true) (hd : Nat.blt d s.n = true) (h : bc P ops K rest (s.put (some d) (cM sz n r))) : bc P ops K (⟨some d, .buildSlice t n parts.toArray, ty, pos, after, guard⟩ :: rest) s := by
 refine E8 (av := cM sz n r) hw ⟨fun z tx => ?_, fun j ae => ly _ j ae, fun U ad W env he => ?_⟩ hd h
 ·simp only [Op.operands, List.mem_toArray, gm] at tx;obtain ⟨p, hp, rfl⟩ := tx;obtain ⟨z, h1, _⟩ := HM parts zs aN p hp;exact ⟨_, h1⟩
 ·obtain ⟨e, i, hu, hi, bF⟩ := mN S.h;have dQ := Z.h;unfold xy at dQ;rw [hu] at dQ;simp only at dQ;unfold zeroOf at dQ;rw [hi] at dQ;simp only [kh] at dQ;cases hE : i.zero with
  | none => rw [hE] at dQ; cases dQ
  | some z =>
   rw [hE] at dQ;cases dQ;have hlen : z.cells.toList.length = sz := hr hs;have yG : 0 < n * sz := by simpa [Nat.blt_eq] using az
   have wD : n * sz ≤ 16777216 := by simpa [Nat.ble_eq] using h2
   have y8 : r.length = n * sz := hr ap;have rP : ∀ y ∈ r, y.aY = true := b6.1 cC;have r5 : (zeroValue e).run P W = .ok z W := by simp [zeroValue, typeInfo, program, Sem.run_bind, Sem.run, hi, Result.andThen, hE]
   have jK : bL U ad W (h4 n sz z.cells.toList) ((List.range (n * sz)).map fun j => z.cells[j % z.cells.size]!) := by
    refine ⟨by simp [h4], fun j x v aa hv => ?_⟩;have ae : j < n * sz := by have := (bA.1 hv).1; simpa using this
    simp only [h4, eh, List.getElem?_range ae, ha, hY] at aa hv;subst aa; subst hv;have vc : z.cells.size = sz := by simpa using hlen
    have Cw : 0 < sz := Nat.pos_of_mul_pos_left yG |> fun h => by
     rcases vu sz with q | q
     ·rw [q] at yG; simp at yG
     ·exact q
    have bb : j % z.cells.size < z.cells.size := Nat.mod_lt _ (by omega);have aP : z.cells.toList.toArray[j % z.cells.toList.length]! = z.cells[j % z.cells.size]! := by simp
    refine ⟨aP.symm, ?_⟩;rw [aP, getElem!_pos z.cells _ bb];exact b6.1 h1 _ (by simp)
   obtain ⟨us, g1, g2⟩ := yD (U := U) (ad := ad) (W := W) (ps := xl n sz) (place := fun i => some (i * sz, sz)) (fun i q an => by
     simp only [xl, eh] at an;cases ap : (List.range n)[i]? with
     | none => rw [ap] at an; cases an
     | some m =>
      rw [ap] at an;cases an;have := bA.1 ap;obtain ⟨ao, aD⟩ := this;simp at aD;rw [aD]) (look := s.look) (env := env) parts _ _ zs r jK aN (fun p hp a aJ => he p.2 (by simp only [Op.operands, List.mem_toArray, gm]; exact ⟨p, hp, rfl⟩) a aJ) ab
   refine ⟨.slice (some ⟨W.heap.size, 0, none⟩) n n, W.alloc (.cells us.toArray e), ?_, ⟨⟨some ⟨W.heap.size, 0, none⟩, n, rfl, dE _, y8, fun ax => ⟨_, us, rfl, Ve g2 rP⟩⟩, ?_⟩, (Below.refl _ _).alloc (dE _) _⟩
   ·have tr : (parts.toArray.map fun (i, x) => (i, env x)).toList = parts.map fun p => (p.1, env p.2) := by simp
    have cr : (Array.range (n * sz)).map (fun j => z.cells[j % z.cells.size]!) = ((List.range (n * sz)).map fun j => z.cells[j % z.cells.size]!).toArray := by simp [← List.toArray_range]
    simp only [execOp, Instr.buildSlice, Sem.run_bind, run_underlying hu, Result.andThen_ok, hK hi, bF];rw [if_neg (by omega), if_neg (by omega)];simp only [Sem.run_bind, Sem.run_pure, r5, Result.andThen_ok, cr, tr, g1, newRow, newObj, Sem.run];rfl
   ·rintro b ⟨c, a, e, ax, ab⟩;cases e;exact Vf g2 ab
end
def ke {α : Type} : List (Nat × α) → Nat → Option α
 | [], _ => none
 | (k, v) :: r, t => bif Nat.beq t k then some v else ke r t
def tD (n : Nat) (aM : List (Nat × ah)) (bi : List (Nat × List AC)) : aC := ⟨n, ke aM, ke bi⟩
def ow {α : Type} (f : Nat → Option α) : List (Nat × α) → Prop
 | [] => True
 | (k, v) :: r => f k = some v ∧ ow f r
theorem Fe {α : Type} {f : Nat → Option α} : ∀ (l : List (Nat × α)), ow f l → ∀ t v, ke l t = some v → f t = some v
 | [], _, t, v, h => by cases h
 | (k, u) :: r, aJ, t, v, h => by
  simp only [ke] at h;cases ab : Nat.beq t k with
  | true => rw [ab] at h; cases h; rw [hr ab]; exact aJ.1
  | false => rw [ab] at h; exact Fe r aJ.2 t v h
theorem Da {s : aC} {n : Nat} {aM : List (Nat × ah)} {bi : List (Nat × List AC)} (ax : n = s.n) (aB : ow s.tmps aM) (hm : ow s.mem bi) : s.aS (tD n aM bi) :=
 ⟨ax, Fe aM aB, Fe bi hm⟩
def CW {α : Type} (bi : List (Nat × α)) (k : Nat) : Bool := bi.any fun p => Nat.beq k p.1
def A7 (bi : List (Nat × List AC)) : AC → Bool
 | .own k _ => CW bi k
 | _ => true
def Vn (bi : List (Nat × List AC)) : ah → Bool
 | .w x => x.cells.all (A7 bi)
 | .cn xs => xs.all fun x => x.cells.all (A7 bi)
def okB (aM : List (Nat × ah)) (bi : List (Nat × List AC)) : Bool := aM.all (fun p => Vn bi p.2) && bi.all fun p => p.2.all (A7 bi)
theorem OH {α : Type} {k : Nat} : ∀ (bi : List (Nat × α)), CW bi k = true → ∃ v, ke bi k = some v
 | [], h => by cases h
 | (j, u) :: r, h => by
  simp only [CW, List.any_cons, so] at h;simp only [ke];cases ab : Nat.beq k j with
  | true => exact ⟨u, rfl⟩
  | false => rw [ab] at h; exact OH r (by simpa [CW] using h)
theorem HK {α : Type} {k : Nat} {v : α} : ∀ (bi : List (Nat × α)), ke bi k = some v → (k, v) ∈ bi
 | [], h => by cases h
 | (j, u) :: r, h => by
  simp only [ke] at h;cases ab : Nat.beq k j with
  | true => rw [ab] at h; cases h; rw [hr ab]; simp
  | false => rw [ab] at h; exact k5 _ (HK r h)
theorem E1 {bi : List (Nat × List AC)} {x : AC} {j : Nat} (h : A7 bi x = true) (ae : x.owns j) : ∃ cs, ke bi j = some cs := by
 cases x with
 | c v => cases ae
 | p R => cases ae
 | own k o => cases ae; exact OH bi h
theorem HS {n : Nat} {aM : List (Nat × ah)} {bi : List (Nat × List AC)} (h : okB aM bi = true) : (tD n aM bi).cN := by
 unfold okB at h;rw [c5] at h;refine ⟨fun t av j aB ae => ?_, fun k cs x j af aa ae => ?_⟩
 ·have h1 := b6.1 h.1 _ (HK aM aB);cases av with
  | w x =>
   obtain ⟨y, ai, lT⟩ := ae;exact E1 (b6.1 h1 y ai) lT
  | cn xs =>
   obtain ⟨z, aN, y, ai, lT⟩ := ae;exact E1 (b6.1 (b6.1 h1 z aN) y ai) lT
 ·have h1 := b6.1 h.2 _ (HK bi af);exact E1 (b6.1 h1 x aa) ae
section
variable {P : Program} {s : aC} {x : Code}
theorem qv {Q : Exit → aC → Prop} (N : Nat) (I : Nat → List (Nat × ah) → List (Nat × List AC) → Prop) (k : Nat) (aM : List (Nat × ah)) (bi : List (Nat × List AC)) (bj : I k aM bi) (ax : N = s.n) (aB : ow s.tmps aM) (hm : ow s.mem bi) (ok : okB aM bi = true)
  (round : ∀ k aM bi, I k aM bi → okB aM bi = true → fj P x (rD (fun s' => ∃ k' pc oP, k' < k ∧ I k' pc oP ∧ N = s'.n ∧ ow s'.tmps pc ∧ ow s'.mem oP ∧ okB pc oP = true) Q) (tD N aM bi)) : fj P (.loop x) Q s := by
 refine KS (fun k s => ∃ aM bi, I k aM bi ∧ okB aM bi = true ∧ s = tD N aM bi) k (tD N aM bi) (Da ax aB hm) (HS ok) ⟨aM, bi, bj, ok, rfl⟩ ?_;rintro k s ⟨aM, bi, bj, ok, rfl⟩;intro dO B A ad a w aw;refine sE (round k aM bi bj ok dO B A ad a w aw) ?_;rintro e a' w' ⟨s', a7, vo, ct, an⟩;refine ⟨s', a7, vo, ct, ?_⟩;cases e with
 | normal =>
  obtain ⟨k', pc, oP, h1, h2, ao, aD, cm, eQ⟩ := an;exact ⟨k', h1, tD N pc oP, Da ao aD cm, HS eQ, pc, oP, h2, eQ, rfl⟩
 | _ => exact an
def z7 (P : Program) (x : Code) (Q : Exit → aC → Prop) : Nat → aC → Prop
 | 0, _ => False
 | n + 1, s => fj P x (rD (z7 P x Q n) Q) s
theorem afl {Q : Exit → aC → Prop} {n : Nat} (h : fj P x (rD (z7 P x Q n) Q) s) : z7 P x Q (n + 1) s := h
theorem Vr (n : Nat) {Q : Exit → aC → Prop} (h : z7 P x Q n s) : fj P (.loop x) Q s := by
 intro ok;refine KS (fun k s => s.cN ∧ z7 P x Q k s) n s ⟨rfl, fun _ _ h => h, fun _ _ h => h⟩ ok ⟨ok, h⟩ ?_ ok;rintro k s ⟨ok, h⟩;cases k with
 | zero => cases h
 | succ k =>
  intro dO B A ad a w aw;refine sE (h dO B A ad a w aw) ?_;rintro e a' w' ⟨s', a7, vo, ct, an⟩;refine ⟨s', a7, vo, ct, ?_⟩;cases e with
  | normal => exact ⟨k, Nat.lt_succ_self k, s', ⟨rfl, fun _ _ h => h, fun _ _ h => h⟩, vo, vo, an⟩
  | _ => exact an
end
def okW (x : bx) : Bool := x.cells.all fun y => match y with | .c v => v.oneCell' | _ => true
def wx : List bx → Option (List Value)
 | [] => some []
 | x :: xs => match mo x, wx xs with
  | some v, some r => some (v :: r)
  | _, _ => none
def qB : ah → Option Value
 | .w x => mo x
 | .cn xs => match wx xs with
  | some r => some (.tuple r.toArray)
  | none => none
def Ic : ah → Bool
 | .w x => okW x
 | .cn xs => xs.all okW
section
variable {U : Nat → Prop} {ad : Nat → Nat} {W : World}
theorem RF : ∀ (xs : List AC) (r : List Value), s7 xs = some r → (xs.all fun y => match y with | .c v => v.oneCell' | _ => true) = true → bL U ad W xs r
 | [], r, h, _ => by cases h; exact ⟨rfl, fun i x v h => by simp at h⟩
 | .c v :: xs, r, h, ok => by
  simp only [s7] at h
  split at h
  ·rename_i aV ap;cases h;simp only [jV, c5] at ok;have bI := RF xs aV ap ok.2;refine ⟨by simp [bI.1], fun i x u aa hu => ?_⟩;cases i with
   | zero => simp at aa hu; subst aa; subst hu; exact ⟨rfl, ok.1⟩
   | succ i => exact bI.2 i x u (by simpa using aa) (by simpa using hu)
  ·cases h
 | .own _ _ :: _, _, h, _ => by cases h
 | .p _ :: _, _, h, _ => by cases h
theorem RK {x : bx} {u : Value} (h : mo x = some u) (ok : okW x = true) : fR U ad W x u := by
 cases x with
 | one y => cases y with
  | c v => cases h; simp [okW, bx.cells] at ok; exact ⟨rfl, ok⟩
  | own => cases h
  | p => cases h
 | agg xs =>
  simp only [mo] at h
  split at h
  ·rename_i r ap; cases h; exact ⟨r, rfl, RF xs r ap ok⟩
  ·cases h
theorem RH : ∀ (xs : List bx) (r : List Value), wx xs = some r → xs.all okW = true → xs.length = r.length ∧ ∀ (i : Nat) (x : bx) (v : Value), xs[i]? = some x → r[i]? = some v → fR U ad W x v
 | [], r, h, _ => by cases h; exact ⟨rfl, fun i x v h => by simp at h⟩
 | x :: xs, r, h, ok => by
  simp only [wx] at h
  split at h
  ·rename_i v aV hv ap;cases h;simp only [jV, c5] at ok;obtain ⟨h1, h2⟩ := RH xs aV ap ok.2;refine ⟨by simp [h1], fun i y u ai hu => ?_⟩;cases i with
   | zero => simp at ai hu; subst ai; subst hu; exact RK hv ok.1
   | succ i => exact h2 i y u (by simpa using ai) (by simpa using hu)
  ·cases h
theorem DZ {x : ah} {u : Value} (h : qB x = some u) (ok : Ic x = true) : cX U ad W x u := by
 cases x with
 | w y => exact RK h ok
 | cn xs =>
  simp only [qB] at h
  split at h
  ·rename_i r ap; cases h; exact ⟨r, rfl, RH xs r ap ok⟩
  ·cases h
end
theorem hJ {P : Program} {f : FuncId} {args : List ah} {r : ah} (jj : List Value) (bW : Value) (he : args.map (fun x => match x with | .w y => mo y | _ => none) = jj.map some) (ap : qB r = some bW) (jC : args.all ah.aY = true) (b0 : r.aY = true) (ok : Ic r = true)
  (h : ∀ W, Calls P f jj.toArray W fun e bf => e = .returned bW ∧ Below W.heap.size W bf) : aH P f args r :=
 Iv jj he jC b0 fun W => (h W).mono fun e w' ⟨h1, h2⟩ => ⟨bW, h1, fun _ _ => DZ ap ok, h2⟩
structure x8 where
 ty : List (Nat × Bool × Nat)
 zero : List (Nat × List Value)
 nV : List (Nat × List (Nat × Nat))
 mW : List (Nat × Nat × Nat)
 iC : List (Nat × List (Nat × Nat))
def lg {α : Type} (R : α → Prop) : List α → Prop
 | [] => True
 | a :: l => R a ∧ lg R l
theorem qu {α : Type} {R : Nat × α → Prop} {k : Nat} {v : α} : ∀ (l : List (Nat × α)), lg R l → ke l k = some v → R (k, v)
 | [], _, h => by cases h
 | (j, u) :: l, ak, h => by
  simp only [ke] at h;cases ab : Nat.beq k j with
  | true => rw [ab] at h; cases h; obtain rfl := hr ab; exact ak.1
  | false => rw [ab] at h; exact qu l ak.2 h
class EQ (P : Program) (T : outParam x8) : Prop where
 ty : lg (fun p => kj P p.1 = some p.2) T.ty
 zero : lg (fun p => zeroOf P p.1 = some p.2) T.zero
 nV : lg (fun p => lg (fun q => s9 P p.1 q.1 = some q.2) p.2) T.nV
 mW : lg (fun p => Bf P p.1 = some p.2) T.mW
 iC : lg (fun p => DJ P p.1 = some p.2) T.iC
def Rj (b : BinOp) (m n : Int) : Option Bool :=
 match b with
 | .lss => some (decide (m < n))
 | .leq => some (decide (m ≤ n))
 | .gtr => some (decide (n < m))
 | .geq => some (decide (n ≤ m))
 | .eql => some (decide (m = n))
 | .neq => some (!decide (m = n))
 | _ => none
def mF (T : x8) (s : aC) (d : Nat) : Op → Option aC
 | .move x => match s.look x with
  | some av => some (s.put (some d) av)
  | none => none
 | .assign x => match s.look x with
  | some av => some (s.put (some d) av)
  | none => none
 | .pick c x y => match s.look c, s.look x, s.look y with
  | some (.w (.one (.c (.bool true)))), some av, some _ => some (s.put (some d) av)
  | some (.w (.one (.c (.bool false)))), some _, some bv => some (s.put (some d) bv)
  | _, _, _ => none
 | .alloc t => match ke T.zero t, s.mem d with
  | some vs, none => bif vs.all fun v => v.oneCell' then some ((s.ed d (vs.map .c)).put (some d) (mQ d 0)) else none
  | _, _ => none
 | .box _ x => match s.look x, s.mem d with
  | some (.w z), none => some ((s.ed d z.cells).put (some d) (mQ d 0))
  | _, _ => none
 | .load t x => match s.look x with
  | some (.w (.one (.own k off))) => match s.mem k with
   | some cs => match ke T.ty t with
    | some (false, _) => match cs[off]? with
     | some y => some (s.put (some d) (.w (.one y)))
     | none => none
    | some (true, n) => match takeN cs off n with
     | some aT => some (s.put (some d) (.w (.agg aT)))
     | none => none
    | none => none
   | none => none
  | _ => none
 | .fieldAddr t x i => match s.look x with
  | some (.w (.one (.own k off))) => match ke T.nV t with
   | some l => match ke l i with
    | some h7 => some (s.put (some d) (mQ k (off + h7)))
    | none => none
   | none => none
  | _ => none
 | .indexAddr t x y => match s.look x, s.look y with
  | some (.w (.one (.own k off))), some (.w (.one (.c (.int _ i)))) => match ke T.mW t with
   | some (n, size) => bif decide (0 ≤ i) && decide (i < n) then some (s.put (some d) (mQ k (off + i.toNat * size))) else none
   | none => none
  | _, _ => none
 | .extract x i => match s.look x with
  | some (.cn xs) => match xs[i]? with
   | some y => some (s.put (some d) (.w y))
   | none => none
  | _ => none
 | .build t parts => match nr s.look parts.toList, ke T.zero t, ke T.iC t with
  | some zs, some vs, some ps => match qw ps (vs.map .c) zs with
   | some r => bif vs.all fun v => v.oneCell' then some (s.put (some d) (.w (.agg r))) else none
   | none => none
  | _, _, _ => none
 | .binOp b _ x y _ => match s.look x, s.look y with
  | some (.w (.one (.c (.int k m)))), some (.w (.one (.c (.int k' n)))) => match decEq k k' with
   | isTrue _ => match Rj b m n with
    | some r => some (s.put (some d) (bk r))
    | none => none
   | isFalse _ => none
  | _, _ => none
 | .unOp .not _ x => match s.look x with
  | some (.w (.one (.c (.bool b)))) => some (s.put (some d) (bk (!b)))
  | _ => none
 | _ => none
def Rl (T : x8) (ops : Array Oper) (s : aC) (o : Oper) : Option aC :=
 match want ops o s with
 | some true => match o.dst with
  | some d => bif Nat.blt d s.n then mF T s d o.op else none
  | none => match o.op with
   | .store t x y => match s.look x, s.look y with
    | some (.w (.one (.own k off))), some (.w z) => match s.mem k, ke T.ty t with
     | some cs, some (_, n) => bif Nat.beq n z.cells.length then (match o3 cs off z.cells with
      | some ds => some (s.ed k ds)
      | none => none) else none
     | _, _ => none
    | _, _ => none
   | _ => none
 | some false => match o.dst with
  | some d => bif Nat.blt d s.n then some (s.put (some d) (.cn [])) else none
  | none => some s
 | none => none
section
variable {P : Program} {T : x8} {s s' : aC} {ops : Array Oper} {K : aC → Prop} {rest : List Oper}
theorem U6 [Q : EQ P T] {d ty : Nat} {op : Op} {pos : String} {after : Array Edge} {guard : Option (Nat × Bool)} (hw : want ops ⟨some d, op, ty, pos, after, guard⟩ s = some true) (hd : Nat.blt d s.n = true) (h : mF T s d op = some s') (k : bc P ops K rest s') :
  bc P ops K (⟨some d, op, ty, pos, after, guard⟩ :: rest) s := by
 cases op with
 | move x =>
  simp only [mF] at h
  split at h
  ·rename_i av aa; cases h; exact UW hw aa hd k
  ·cases h
 | assign x =>
  simp only [mF] at h
  split at h
  ·rename_i av aa; cases h; exact Us hw aa hd k
  ·cases h
 | pick c x y =>
  simp only [mF] at h
  split at h
  ·rename_i av bv al aa ai; cases h; exact U5 hw al aa ai hd k
  ·rename_i av bv al aa ai; cases h; exact U4 hw al ai aa hd k
  ·cases h
 | alloc t =>
  simp only [mF] at h
  split at h
  ·rename_i vs aN hm;have dQ := qu _ Q.zero aN;cases h1 : (vs.all fun v => v.oneCell') with
   | true =>
    rw [h1] at h;cases h;have : A6 P t vs := ⟨dQ⟩;exact Ur hw hm h1 hd k
   | false => rw [h1] at h; cases h
  ·cases h
 | box t x =>
  simp only [mF] at h
  split at h
  ·rename_i z aa hm; cases h; exact Ut hw aa hm hd k
  ·cases h
 | load t x =>
  simp only [mF] at h
  split at h
  ·rename_i j off aa
   split at h
   ·rename_i cs hm
    split at h
    ·rename_i n cB;have yL := qu _ Q.ty cB
     split at h
     ·rename_i y al; cases h; have : e6 P t false n := ⟨yL⟩; exact UO hw aa hm al hd k
     ·cases h
    ·rename_i n cB;have yL := qu _ Q.ty cB
     split at h
     ·rename_i aT al; cases h; have : e6 P t true n := ⟨yL⟩; exact UP hw aa hm al hd k
     ·cases h
    ·cases h
   ·cases h
  ·cases h
 | fieldAddr t x i =>
  simp only [mF] at h
  split at h
  ·rename_i j off aa
   split at h
   ·rename_i l ak
    split at h
    ·rename_i h7 au;have hF := qu _ (qu _ Q.nV ak) au;cases h;have : kM P t i h7 := ⟨hF⟩;exact UH hw aa hd k
    ·cases h
   ·cases h
  ·cases h
 | indexAddr t x y =>
  simp only [mF] at h
  split at h
  ·rename_i j off gV i aa ai
   split at h
   ·rename_i n size ec;have uR := qu _ Q.mW ec;cases h1 : (decide (0 ≤ i) && decide (i < (n : Int))) with
    | true =>
     rw [h1] at h;cases h;rw [c5, b4, b4] at h1;have : Jz P t n size := ⟨uR⟩;exact Kx hw aa ai h1.1 h1.2 hd k
    | false => rw [h1] at h; cases h
   ·cases h
  ·cases h
 | extract x i =>
  simp only [mF] at h
  split at h
  ·rename_i xs aa
   split at h
   ·rename_i y ai; cases h; exact UE hw aa ai hd k
   ·cases h
  ·cases h
 | build t parts =>
  simp only [mF] at h
  split at h
  ·rename_i zs vs ps aN hv hp;have dQ := qu _ Q.zero hv;have iQ := qu _ Q.iC hp
   split at h
   ·rename_i r ap;cases h1 : (vs.all fun v => v.oneCell') with
    | true =>
     rw [h1] at h;cases h;have : A6 P t vs := ⟨dQ⟩;have : J0 P t ps := ⟨iQ⟩;have g : bc P ops K (⟨some d, .build t parts.toList.toArray, ty, pos, after, guard⟩ :: rest) s := Uv (by rw [Array.toArray_toList]; exact hw) aN ap h1 hd k;rwa [Array.toArray_toList] at g
    | false => rw [h1] at h; cases h
   ·cases h
  ·cases h
 | binOp b c6 x y dK =>
  simp only [mF] at h
  split at h
  ·rename_i gV m ajd n aa ai
   split at h
   ·rename_i e he;subst e;cases b <;> simp only [Rj] at h <;> cases h
    ·exact UB hw aa ai hd k
    ·exact UZ hw aa ai hd k
    ·exact UR hw aa ai hd k
    ·exact UN hw aa ai hd k
    ·exact UK hw aa ai hd k
    ·exact UJ hw aa ai hd k
   ·cases h
  ·cases h
 | unOp u c6 x =>
  cases u <;> simp only [mF] at h <;> try (cases h; done)
  split at h
  ·rename_i b aa; cases h; exact U3 hw aa hd k
  ·cases h
 | _ => simp only [mF] at h; cases h
theorem yi [Q : EQ P T] {o : Oper} (h : Rl T ops s o = some s') (k : bc P ops K rest s') : bc P ops K (o :: rest) s := by
 obtain ⟨dst, op, ty, pos, after, guard⟩ := o;unfold Rl at h
 split at h
 ·rename_i hw;cases dst with
  | some d =>
   simp only at h;cases hd : Nat.blt d s.n with
   | true => rw [hd] at h; exact U6 hw hd h k
   | false => rw [hd] at h; cases h
  | none =>
   simp only at h
   split at h
   ·rename_i t x y
    split at h
    ·rename_i j off z aa ai
     split at h
     ·rename_i cs b n hm cB;have yL := qu _ Q.ty cB;cases ax : Nat.beq n z.cells.length with
      | true =>
       rw [ax] at h;simp only [cond_true] at h
       split at h
       ·rename_i ds hp;cases h;have : e6 P t b n := ⟨yL⟩;exact Vb hw aa ai hm ax hp k
       ·cases h
      | false => rw [ax] at h; cases h
     ·cases h
    ·cases h
   ·cases h
 ·rename_i hw;cases dst with
  | some d =>
   simp only at h;cases hd : Nat.blt d s.n with
   | true => rw [hd] at h; cases h; exact KD hw (fun d' e => by cases e; exact hd) k
   | false => rw [hd] at h; cases h
  | none => cases h; exact KD hw (fun d' e => by cases e) k
 ·cases h
end
end Go.Proofs.YtbcecodakfejaaaGreat
namespace Go.Proofs.YtbcecodakfejaaaGreat
instance : e6 ag 3 false 1 := ⟨by kernel_rfl⟩
instance : EJ ag 3 .i64 := ⟨by kernel_rfl⟩
instance : e6 ag 4 false 1 := ⟨by kernel_rfl⟩
instance : hP ag 22 5 := ⟨by kernel_rfl⟩
instance : e6 ag 27 false 1 := ⟨by kernel_rfl⟩
instance : nL ag 27 [.int .i64 0, .int .i64 0] := ⟨by kernel_rfl⟩
instance : hP ag 27 2 := ⟨by kernel_rfl⟩
instance : nL ag 28 [.slice none 0 0, .slice none 0 0] := ⟨by kernel_rfl⟩
instance : hP ag 28 2 := ⟨by kernel_rfl⟩
instance : e6 ag 30 true 10 := ⟨by kernel_rfl⟩
instance : kM ag 30 2 2 := ⟨by kernel_rfl⟩
instance : e6 ag 32 false 1 := ⟨by kernel_rfl⟩
instance : nL ag 32 [.int .i64 0] := ⟨by kernel_rfl⟩
instance : hP ag 32 1 := ⟨by kernel_rfl⟩
instance : e6 ag 34 true 2 := ⟨by kernel_rfl⟩
instance : kM ag 34 0 0 := ⟨by kernel_rfl⟩
instance : kM ag 34 1 1 := ⟨by kernel_rfl⟩
instance : e6 ag 36 true 2 := ⟨by kernel_rfl⟩
instance : e6 ag 38 true 2 := ⟨by kernel_rfl⟩
instance : kM ag 38 0 0 := ⟨by kernel_rfl⟩
instance : kM ag 38 1 1 := ⟨by kernel_rfl⟩
instance : e6 ag 40 true 2 := ⟨by kernel_rfl⟩
instance : kM ag 40 0 0 := ⟨by kernel_rfl⟩
instance : kM ag 40 1 1 := ⟨by kernel_rfl⟩
instance : nL ag 43 [.int .i64 0, .int .i64 0] := ⟨by kernel_rfl⟩
instance : hP ag 43 2 := ⟨by kernel_rfl⟩
instance : e6 ag 48 true 2 := ⟨by kernel_rfl⟩
instance : e6 ag 53 true 5 := ⟨by kernel_rfl⟩
instance : kM ag 53 0 0 := ⟨by kernel_rfl⟩
instance : kM ag 53 1 2 := ⟨by kernel_rfl⟩
instance : e6 ag 68 true 5 := ⟨by kernel_rfl⟩
instance : nL ag 69 [.int .i64 0, .int .i64 0, .int .i64 0, .int .i64 0, .int .i64 0] := ⟨by kernel_rfl⟩
instance : hP ag 69 5 := ⟨by kernel_rfl⟩
instance : nL ag 76 [.int .i64 0, .int .i64 0, .int .i64 0, .int .i64 0] := ⟨by kernel_rfl⟩
instance : hP ag 76 4 := ⟨by kernel_rfl⟩
instance : kM ag 78 1 1 := ⟨by kernel_rfl⟩
instance : nL ag 83 [.bool false, .slice none 0 0, .bool false, .slice none 0 0, .bool false, .slice none 0 0, .bool false, .slice none 0 0, .bool false] := ⟨by kernel_rfl⟩
instance : hP ag 83 9 := ⟨by kernel_rfl⟩
instance : e6 ag 87 true 4 := ⟨by kernel_rfl⟩
instance : e6 ag 89 true 9 := ⟨by kernel_rfl⟩
instance : kM ag 89 0 0 := ⟨by kernel_rfl⟩
instance : kM ag 89 1 4 := ⟨by kernel_rfl⟩
instance : e6 ag 104 true 6 := ⟨by kernel_rfl⟩
instance : nL ag 134 [.int .i64 0, .int .i64 0, .int .i64 0] := ⟨by kernel_rfl⟩
instance : hP ag 134 3 := ⟨by kernel_rfl⟩
instance : e6 ag 146 true 2 := ⟨by kernel_rfl⟩
instance : e6 ag 148 true 4 := ⟨by kernel_rfl⟩
instance : e6 ag 150 true 13 := ⟨by kernel_rfl⟩
instance : e6 ag 155 true 4 := ⟨by kernel_rfl⟩
instance : e6 ag 181 true 4 := ⟨by kernel_rfl⟩
instance : nL ag 193 [.slice none 0 0] := ⟨by kernel_rfl⟩
instance : hP ag 193 1 := ⟨by kernel_rfl⟩
instance : nL ag 194 [.slice none 0 0] := ⟨by kernel_rfl⟩
instance : hP ag 194 1 := ⟨by kernel_rfl⟩
instance : e6 ag 209 false 1 := ⟨by kernel_rfl⟩
instance : EJ ag 209 .u64 := ⟨by kernel_rfl⟩
instance : e6 ag 214 true 3 := ⟨by kernel_rfl⟩
instance : kM ag 214 1 2 := ⟨by kernel_rfl⟩
instance : e6 ag 225 true 3 := ⟨by kernel_rfl⟩
instance : e6 ag 227 true 10 := ⟨by kernel_rfl⟩
instance : e6 ag 246 true 4 := ⟨by kernel_rfl⟩
instance : e6 ag 250 true 2 := ⟨by kernel_rfl⟩
instance : Enters ag 7 := ⟨by kernel_rfl⟩
instance : Enters ag 8 := ⟨by kernel_rfl⟩
instance : Enters ag 9 := ⟨by kernel_rfl⟩
instance : Enters ag 10 := ⟨by kernel_rfl⟩
instance : Enters ag 11 := ⟨by kernel_rfl⟩
instance : Enters ag 13 := ⟨by kernel_rfl⟩
instance : Enters ag 14 := ⟨by kernel_rfl⟩
instance : Enters ag 15 := ⟨by kernel_rfl⟩
instance : Enters ag 16 := ⟨by kernel_rfl⟩
instance : Enters ag 17 := ⟨by kernel_rfl⟩
instance : Enters ag 18 := ⟨by kernel_rfl⟩
instance : Enters ag 19 := ⟨by kernel_rfl⟩
instance : Enters ag 20 := ⟨by kernel_rfl⟩
instance : Enters ag 21 := ⟨by kernel_rfl⟩
instance : Enters ag 25 := ⟨by kernel_rfl⟩
instance : Enters ag 26 := ⟨by kernel_rfl⟩
instance : Enters ag 27 := ⟨by kernel_rfl⟩
instance : Enters ag 28 := ⟨by kernel_rfl⟩
instance : Enters ag 29 := ⟨by kernel_rfl⟩
instance : Enters ag 30 := ⟨by kernel_rfl⟩
instance : Enters ag 31 := ⟨by kernel_rfl⟩
instance : Enters ag 32 := ⟨by kernel_rfl⟩
instance : Enters ag 33 := ⟨by kernel_rfl⟩
instance : Enters ag 34 := ⟨by kernel_rfl⟩
instance : Enters ag 35 := ⟨by kernel_rfl⟩
instance : Enters ag 36 := ⟨by kernel_rfl⟩
instance : Enters ag 38 := ⟨by kernel_rfl⟩
instance : Enters ag 39 := ⟨by kernel_rfl⟩
instance : Enters ag 40 := ⟨by kernel_rfl⟩
instance : Enters ag 41 := ⟨by kernel_rfl⟩
instance : Enters ag 42 := ⟨by kernel_rfl⟩
instance : Enters ag 43 := ⟨by kernel_rfl⟩
instance : Enters ag 44 := ⟨by kernel_rfl⟩
instance : Enters ag 49 := ⟨by kernel_rfl⟩
instance : Enters ag 50 := ⟨by kernel_rfl⟩
instance : Enters ag 51 := ⟨by kernel_rfl⟩
instance : Enters ag 52 := ⟨by kernel_rfl⟩
instance : Enters ag 53 := ⟨by kernel_rfl⟩
instance : Enters ag 54 := ⟨by kernel_rfl⟩
instance : Enters ag 55 := ⟨by kernel_rfl⟩
instance : Enters ag 56 := ⟨by kernel_rfl⟩
instance : Enters ag 57 := ⟨by kernel_rfl⟩
instance : Enters ag 58 := ⟨by kernel_rfl⟩
instance : Enters ag 59 := ⟨by kernel_rfl⟩
instance : Enters ag 60 := ⟨by kernel_rfl⟩
instance : Enters ag 61 := ⟨by kernel_rfl⟩
instance : Enters ag 62 := ⟨by kernel_rfl⟩
instance : Enters ag 63 := ⟨by kernel_rfl⟩
instance : Enters ag 64 := ⟨by kernel_rfl⟩
instance : Enters ag 65 := ⟨by kernel_rfl⟩
instance : Enters ag 66 := ⟨by kernel_rfl⟩
instance : Enters ag 76 := ⟨by kernel_rfl⟩
instance : Enters ag 77 := ⟨by kernel_rfl⟩
instance : Enters ag 85 := ⟨by kernel_rfl⟩
instance : Enters ag 86 := ⟨by kernel_rfl⟩
instance : Enters ag 87 := ⟨by kernel_rfl⟩
instance : Enters ag 88 := ⟨by kernel_rfl⟩
instance : Enters ag 89 := ⟨by kernel_rfl⟩
instance : Enters ag 90 := ⟨by kernel_rfl⟩
instance : Enters ag 91 := ⟨by kernel_rfl⟩
instance : Enters ag 92 := ⟨by kernel_rfl⟩
instance : Enters ag 93 := ⟨by kernel_rfl⟩
instance : Enters ag 94 := ⟨by kernel_rfl⟩
instance : Enters ag 95 := ⟨by kernel_rfl⟩
instance : Enters ag 96 := ⟨by kernel_rfl⟩
instance : Enters ag 97 := ⟨by kernel_rfl⟩
instance : Enters ag 98 := ⟨by kernel_rfl⟩
instance : Enters ag 99 := ⟨by kernel_rfl⟩
instance : Enters ag 100 := ⟨by kernel_rfl⟩
instance : Enters ag 101 := ⟨by kernel_rfl⟩
instance : Enters ag 102 := ⟨by kernel_rfl⟩
instance : Enters ag 103 := ⟨by kernel_rfl⟩
instance : Enters ag 104 := ⟨by kernel_rfl⟩
instance : Enters ag 105 := ⟨by kernel_rfl⟩
instance : Enters ag 106 := ⟨by kernel_rfl⟩
instance : Enters ag 107 := ⟨by kernel_rfl⟩
instance : Enters ag 108 := ⟨by kernel_rfl⟩
instance : Enters ag 109 := ⟨by kernel_rfl⟩
instance : Enters ag 120 := ⟨by kernel_rfl⟩
instance : Enters ag 121 := ⟨by kernel_rfl⟩
instance : Enters ag 122 := ⟨by kernel_rfl⟩
instance : Enters ag 123 := ⟨by kernel_rfl⟩
instance : Enters ag 124 := ⟨by kernel_rfl⟩
instance : Enters ag 125 := ⟨by kernel_rfl⟩
instance : Enters ag 126 := ⟨by kernel_rfl⟩
instance : Enters ag 127 := ⟨by kernel_rfl⟩
instance : Enters ag 128 := ⟨by kernel_rfl⟩
instance : Enters ag 129 := ⟨by kernel_rfl⟩
instance : Enters ag 130 := ⟨by kernel_rfl⟩
instance : Enters ag 131 := ⟨by kernel_rfl⟩
instance : Enters ag 132 := ⟨by kernel_rfl⟩
instance : Enters ag 133 := ⟨by kernel_rfl⟩
instance : Enters ag 134 := ⟨by kernel_rfl⟩
instance : Enters ag 135 := ⟨by kernel_rfl⟩
instance : Enters ag 136 := ⟨by kernel_rfl⟩
instance : Enters ag 137 := ⟨by kernel_rfl⟩
instance : Enters ag 138 := ⟨by kernel_rfl⟩
instance : Enters ag 140 := ⟨by kernel_rfl⟩
instance : Enters ag 141 := ⟨by kernel_rfl⟩
instance : Enters ag 142 := ⟨by kernel_rfl⟩
instance : Enters ag 143 := ⟨by kernel_rfl⟩
instance : Enters ag 144 := ⟨by kernel_rfl⟩
instance : Enters ag 145 := ⟨by kernel_rfl⟩
instance : Enters ag 146 := ⟨by kernel_rfl⟩
instance : Enters ag 147 := ⟨by kernel_rfl⟩
instance : Enters ag 148 := ⟨by kernel_rfl⟩
instance : Enters ag 149 := ⟨by kernel_rfl⟩
instance : Enters ag 150 := ⟨by kernel_rfl⟩
instance : Enters ag 151 := ⟨by kernel_rfl⟩
instance : Enters ag 152 := ⟨by kernel_rfl⟩
instance : Enters ag 153 := ⟨by kernel_rfl⟩
instance : Enters ag 154 := ⟨by kernel_rfl⟩
instance : Enters ag 155 := ⟨by kernel_rfl⟩
instance : Enters ag 156 := ⟨by kernel_rfl⟩
instance : Enters ag 157 := ⟨by kernel_rfl⟩
instance : Enters ag 158 := ⟨by kernel_rfl⟩
instance : Enters ag 159 := ⟨by kernel_rfl⟩
instance : Enters ag 160 := ⟨by kernel_rfl⟩
instance : Enters ag 163 := ⟨by kernel_rfl⟩
instance : Enters ag 164 := ⟨by kernel_rfl⟩
instance : Enters ag 165 := ⟨by kernel_rfl⟩
instance : Enters ag 166 := ⟨by kernel_rfl⟩
instance : Enters ag 167 := ⟨by kernel_rfl⟩
instance : Enters ag 168 := ⟨by kernel_rfl⟩
instance : Enters ag 169 := ⟨by kernel_rfl⟩
instance : Enters ag 170 := ⟨by kernel_rfl⟩
instance : Enters ag 171 := ⟨by kernel_rfl⟩
instance : Enters ag 172 := ⟨by kernel_rfl⟩
instance : Enters ag 173 := ⟨by kernel_rfl⟩
instance : Enters ag 174 := ⟨by kernel_rfl⟩
instance : Enters ag 175 := ⟨by kernel_rfl⟩
instance : Enters ag 176 := ⟨by kernel_rfl⟩
instance : Enters ag 177 := ⟨by kernel_rfl⟩
instance : Enters ag 179 := ⟨by kernel_rfl⟩
instance : Enters ag 180 := ⟨by kernel_rfl⟩
instance : Enters ag 181 := ⟨by kernel_rfl⟩
instance : Enters ag 182 := ⟨by kernel_rfl⟩
instance : Enters ag 185 := ⟨by kernel_rfl⟩
instance : Enters ag 186 := ⟨by kernel_rfl⟩
instance : Enters ag 187 := ⟨by kernel_rfl⟩
instance : Enters ag 188 := ⟨by kernel_rfl⟩
instance : Enters ag 189 := ⟨by kernel_rfl⟩
instance : Enters ag 190 := ⟨by kernel_rfl⟩
instance : Enters ag 191 := ⟨by kernel_rfl⟩
instance : Enters ag 192 := ⟨by kernel_rfl⟩
instance : Enters ag 194 := ⟨by kernel_rfl⟩
instance : Enters ag 195 := ⟨by kernel_rfl⟩
instance : Enters ag 196 := ⟨by kernel_rfl⟩
instance : Enters ag 197 := ⟨by kernel_rfl⟩
instance : Enters ag 198 := ⟨by kernel_rfl⟩
instance : Enters ag 199 := ⟨by kernel_rfl⟩
instance : Enters ag 200 := ⟨by kernel_rfl⟩
instance : Enters ag 201 := ⟨by kernel_rfl⟩
instance : Enters ag 203 := ⟨by kernel_rfl⟩
instance : Enters ag 204 := ⟨by kernel_rfl⟩
instance : Enters ag 205 := ⟨by kernel_rfl⟩
instance : Enters ag 206 := ⟨by kernel_rfl⟩
instance : Enters ag 208 := ⟨by kernel_rfl⟩
instance : Enters ag 209 := ⟨by kernel_rfl⟩
instance : Enters ag 212 := ⟨by kernel_rfl⟩
instance : Enters ag 213 := ⟨by kernel_rfl⟩
instance : Enters ag 215 := ⟨by kernel_rfl⟩
instance : Enters ag 216 := ⟨by kernel_rfl⟩
instance : Enters ag 217 := ⟨by kernel_rfl⟩
instance : Enters ag 218 := ⟨by kernel_rfl⟩
instance : Enters ag 219 := ⟨by kernel_rfl⟩
def tab : x8 where
 ty := [(0, false, 1), (1, false, 1), (2, false, 1), (3, false, 1), (4, false, 1), (9, false, 1), (20, false, 1), (22, false, 1), (25, false, 1), (27, false, 1), (28, false, 1), (30, true, 10), (32, false, 1), (34, true, 2), (36, true, 2), (38, true, 2), (40, true, 2), (43, false, 1), (46, true, 2), (48, true, 2), (53, true, 5), (68, true, 5), (69, false, 1), (75, false, 1), (76, false, 1), (78, true, 13), (83, false, 1), (85, true, 2), (87, true, 4), (89, true, 9), (103, true, 4), (104, true, 6), (108, false, 1), (133, false, 1), (134, false, 1), (136, true, 1), (138, true, 2), (140, false, 1), (144, false, 1), (146, true, 2), (148, true, 4), (150, true, 13), (153, false, 1), (155, true, 4), (157, false, 1), (160, false, 1), (162, false, 1), (175, false, 1), (176, false, 1), (178, false, 1), (181, true, 4), (193, false, 1), (194, false, 1), (196, false, 1), (201, false, 1), (204, false, 1), (209, false, 1), (210, false, 1), (212, false, 1), (214, true, 3), (223, true, 6), (225, true, 3), (227, true, 10), (229, false, 1), (230, true, 4), (231, false, 1), (232, false, 1), (234, false, 1), (238, false, 1), (246, true, 4), (250, true, 2), (251, false, 1), (258, false, 1), (264, false, 1)]
 zero := [(1, [.nilFunc]), (2, [.int .i64 0]), (3, [.int .i64 0]), (4, [.bool false]), (9, [.string ByteArray.empty]), (20, [.nilIface]), (22, [.slice none 0 0]), (25, [.pointer none]), (27, [.slice none 0 0]), (28, [.slice none 0 0]), (30, [.int .i64 0, .int .i64 0, .int .i64 0, .int .i64 0, .int .i64 0, .int .i64 0, .bool false, .slice none 0 0, .slice none 0 0, .slice none 0 0]), (32, [.slice none 0 0]), (34, [.slice none 0 0, .slice none 0 0]), (36, [.int .i64 0, .int .i64 0]), (38, [.int .i64 0, .int .i64 0]), (40, [.int .i64 0, .int .i64 0]), (43, [.slice none 0 0]), (46, [.int .i64 0, .slice none 0 0]), (48, [.slice none 0 0, .slice none 0 0]), (53, [.int .i64 0, .int .i64 0, .int .i64 0, .int .i64 0, .int .i64 0]), (68, [.int .i64 0, .int .i64 0, .int .i64 0, .int .i64 0, .int .i64 0]), (69, [.slice none 0 0]), (75, [.pointer none]), (76, [.slice none 0 0]), (78, [.slice none 0 0, .int .i64 0, .int .i64 0, .int .i64 0, .int .i64 0, .int .i64 0, .int .i64 0, .bool false, .slice none 0 0, .slice none 0 0, .slice none 0 0, .pointer none, .slice none 0 0]), (83, [.slice none 0 0]), (85, [.bool false, .slice none 0 0]), (87, [.bool false, .slice none 0 0, .bool false, .slice none 0 0]), (89, [.bool false, .slice none 0 0, .bool false, .slice none 0 0, .bool false, .slice none 0 0, .bool false, .slice none 0 0, .bool false]), (103, [.nilFunc, .nilFunc, .nilFunc, .nilFunc]), (104, [.int .i64 0, .int .i64 0, .int .i64 0, .int .i64 0, .int .i64 0, .int .i64 0]), (108, [.nilFunc]), (133, [.nilFunc]), (134, [.slice none 0 0]), (136, [.slice none 0 0]), (138, [.slice none 0 0, .int .i64 0]), (144, [.int .u64 0]), (146, [.int .i64 0, .int .u64 0]), (148, [.int .i64 0, .int .u64 0, .int .i64 0, .int .u64 0]), (150, [.int .i64 0, .int .i64 0, .int .u64 0, .int .i64 0, .int .u64 0, .int .i64 0, .int .u64 0, .int .i64 0, .int .u64 0, .int .i64 0, .int .i64 0, .int .i64 0, .int .i64 0]), (153, [.pointer none]), (155, [.int .i64 0, .int .i64 0, .int .i64 0, .int .i64 0]), (160, [.nilFunc]), (175, [.int .i64 0]), (181, [.int .i64 0, .int .i64 0, .int .i64 0, .int .i64 0]), (193, [.slice none 0 0]), (194, [.slice none 0 0]), (209, [.int .u64 0]), (212, [.pointer none]), (214, [.int .i64 0, .int .i64 0, .int .i64 0]), (223, [.int .i64 0, .int .i64 0, .int .i64 0, .int .i64 0, .bool false, .bool false]), (225, [.int .i64 0, .int .i64 0, .bool false]), (227, [.int .i64 0, .int .i64 0, .int .i64 0, .int .i64 0, .int .i64 0, .int .i64 0, .bool false, .int .i64 0, .int .i64 0, .bool false]), (229, [.nilFunc]), (230, [.nilFunc, .nilFunc, .nilFunc, .nilFunc]), (231, [.int .u32 0]), (238, [.nilFunc]), (246, [.int .i64 0, .int .i64 0, .int .i64 0, .int .i64 0]), (250, [.int .u64 0, .int .u64 0])]
 nV := [(30, [(0, 0), (1, 1), (2, 2), (3, 3), (4, 4), (5, 5), (6, 6), (7, 7), (8, 8), (9, 9)]), (34, [(0, 0), (1, 1)]), (36, [(0, 0), (1, 1)]), (38, [(0, 0), (1, 1)]), (40, [(0, 0), (1, 1)]), (46, [(0, 0), (1, 1)]), (48, [(0, 0), (1, 1)]), (53, [(0, 0), (1, 2), (2, 4)]), (68, [(0, 0), (1, 2), (2, 4)]), (78, [(0, 0), (1, 1), (2, 11), (3, 12)]), (85, [(0, 0), (1, 1)]), (87, [(0, 0), (1, 2)]), (89, [(0, 0), (1, 4), (2, 8)]), (136, [(0, 0)]), (138, [(0, 0), (1, 1)]), (146, [(0, 0), (1, 1)]), (148, [(0, 0), (1, 2)]), (150, [(0, 0), (1, 1), (2, 5), (3, 9), (4, 11)]), (155, [(0, 0), (1, 2)]), (181, [(0, 0), (1, 2)]), (214, [(0, 0), (1, 2)]), (223, [(0, 0), (1, 2), (2, 4), (3, 5)]), (225, [(0, 0), (1, 1), (2, 2)]), (227, [(0, 0), (1, 2), (2, 4), (3, 7)]), (246, [(0, 0), (1, 2)]), (250, [(0, 0), (1, 1)])]
 mW := [(103, 4, 1), (104, 6, 1), (230, 4, 1)]
 iC := [(30, [(0, 1), (1, 1), (2, 1), (3, 1), (4, 1), (5, 1), (6, 1), (7, 1), (8, 1), (9, 1)]), (34, [(0, 1), (1, 1)]), (36, [(0, 1), (1, 1)]), (38, [(0, 1), (1, 1)]), (40, [(0, 1), (1, 1)]), (46, [(0, 1), (1, 1)]), (48, [(0, 1), (1, 1)]), (53, [(0, 2), (2, 2), (4, 1)]), (68, [(0, 2), (2, 2), (4, 1)]), (78, [(0, 1), (1, 10), (11, 1), (12, 1)]), (85, [(0, 1), (1, 1)]), (87, [(0, 2), (2, 2)]), (89, [(0, 4), (4, 4), (8, 1)]), (103, [(0, 1), (1, 1), (2, 1), (3, 1)]), (104, [(0, 1), (1, 1), (2, 1), (3, 1), (4, 1), (5, 1)]), (136, [(0, 1)]), (138, [(0, 1), (1, 1)]), (146, [(0, 1), (1, 1)]), (148, [(0, 2), (2, 2)]), (150, [(0, 1), (1, 4), (5, 4), (9, 2), (11, 2)]), (155, [(0, 2), (2, 2)]), (181, [(0, 2), (2, 2)]), (214, [(0, 2), (2, 1)]), (223, [(0, 2), (2, 2), (4, 1), (5, 1)]), (225, [(0, 1), (1, 1), (2, 1)]), (227, [(0, 2), (2, 2), (4, 3), (7, 3)]), (230, [(0, 1), (1, 1), (2, 1), (3, 1)]), (246, [(0, 2), (2, 2)]), (250, [(0, 1), (1, 1)])]
theorem vX {α β : Type} {g h : α → β} : ∀ l : List α, l.map g = l.map h → lg (fun p => g p = h p) l
 | [], _ => trivial
 | a :: l, e => by
  rw [kG, kG, List.cons.injEq] at e;exact ⟨e.1, vX l e.2⟩
theorem KG {α β γ : Type} {k : α → List γ} {g h : α → γ → β} : ∀ l : List α, (l.map fun p => (k p).map (g p)) = (l.map fun p => (k p).map (h p)) → lg (fun p => lg (fun q => g p q = h p q) (k p)) l
 | [], _ => trivial
 | a :: l, e => by
  rw [kG, kG, List.cons.injEq] at e;exact ⟨vX _ e.1, KG l e.2⟩
theorem agI : lg (fun p => kj ag p.1 = some p.2) tab.ty := vX _ (by kernel_rfl)
theorem agJ : lg (fun p => zeroOf ag p.1 = some p.2) tab.zero := vX _ (by kernel_rfl)
theorem agF : lg (fun p => Bf ag p.1 = some p.2) tab.mW := vX _ (by kernel_rfl)
theorem agH : lg (fun p => DJ ag p.1 = some p.2) tab.iC := vX _ (by kernel_rfl)
theorem agG : lg (fun p => lg (fun q => s9 ag p.1 q.1 = some q.2) p.2) tab.nV := KG _ (by kernel_rfl)
instance : EQ ag tab := ⟨agI, agJ, agG, agF, agH⟩
end Go.Proofs.YtbcecodakfejaaaGreat
namespace Go.Proofs.YtbcecodakfejaaaGreat
open Go.RowKit
section
variable {P : Program} {s : aC} {ops : Array Oper} {K : aC → Prop} {rest : List Oper} {ty : Nat} {pos : String} {after : Array Edge} {guard : Option (Nat × Bool)} {d : Nat}
theorem UY {c6 : Nat} {x : Operand} {k : IntKind} {a c : Int} (hw : want ops ⟨some d, .unOp .neg c6 x, ty, pos, after, guard⟩ s = some true) (aa : s.look x = some (aQ (.int k a))) (al : k.wrap (-a) = c) (hd : Nat.blt d s.n = true) (h : bc P ops K rest (s.put (some d) (aQ (.int k c)))) : bc P ops K (⟨some d, .unOp .neg c6 x, ty, pos, after, guard⟩ :: rest) s := by
 refine KF hw aa (fun W => ?_) rfl hd h;rw [← al, show -a = 0 - a by omega];cases k <;> rfl
end
abbrev jg (l1 l2 h1 h2 : Int) : ah := .w (.agg [.c (.int .i64 l1), .c (.int .i64 l2), .c (.int .i64 h1), .c (.int .i64 h2)])
def c7 (a b c d : Int) : Bool := decide (a = c) && decide (b = d)
theorem mX {a b c d : Int} : c7 a b c d = true ↔ a = c ∧ b = d := by unfold c7; rw [c5, b4, b4]
def uM (a b c d a' bS c' d' : Int) : Bool := c7 a b a' bS && c7 c d c' d'
class xM (P : Program) (t : TypeId) : Prop where
 g : P.eqGuardType P.depth t = false
 h : ∀ (a b c d : Int) W, (Op.equalIn 10000 t (.agg #[.int .i64 a, .int .i64 b]) (.agg #[.int .i64 c, .int .i64 d])).run P W = .ok (c7 a b c d) W
class JF (P : Program) (t : TypeId) : Prop where
 g : P.eqGuardType P.depth t = false
 h : ∀ (a b c d a' bS c' d' : Int) W, (Op.equalIn 10000 t (.agg #[.int .i64 a, .int .i64 b, .int .i64 c, .int .i64 d]) (.agg #[.int .i64 a', .int .i64 bS, .int .i64 c', .int .i64 d'])).run P W = .ok (uM a b c d a' bS c' d') W
theorem BH {P : Program} {op : BinOp} {t : TypeId} {x y : Operand} {u v : Array Value} {W : World} (aq : P.eqGuardType P.depth t = false) : (eqGuard op t x y (.agg u) (.agg v)).run P W = .ok () W := by
 unfold eqGuard;cases op <;> first | rfl | simp [Sem.run_bind, program, Sem.run, Result.andThen, aq]
section
variable {P : Program} {s : aC} {ops : Array Oper} {K : aC → Prop} {rest : List Oper} {ty : Nat} {pos : String} {after : Array Edge} {guard : Option (Nat × Bool)} {d : Nat}
theorem Uz {t dK : Nat} {x y : Operand} {a b a' bS : Int} [E : xM P t] (hw : want ops ⟨some d, .binOp .eql t x y dK, ty, pos, after, guard⟩ s = some true) (aa : s.look x = some (aZ a b)) (ai : s.look y = some (aZ a' bS)) (hd : Nat.blt d s.n = true) (h : bc P ops K rest (s.put (some d) (bk (c7 a b a' bS)))) : bc P ops K (⟨some d, .binOp .eql t x y dK, ty, pos, after, guard⟩ :: rest) s :=
 sT hw aa ai rfl rfl (fun W => BH E.g) (fun W => by rw [run_eql_struct, E.h]; rfl) rfl hd h
theorem U0 {t dK : Nat} {x y : Operand} {a b a' bS : Int} [E : xM P t] (hw : want ops ⟨some d, .binOp .neq t x y dK, ty, pos, after, guard⟩ s = some true) (aa : s.look x = some (aZ a b)) (ai : s.look y = some (aZ a' bS)) (hd : Nat.blt d s.n = true) (h : bc P ops K rest (s.put (some d) (bk (!c7 a b a' bS)))) : bc P ops K (⟨some d, .binOp .neq t x y dK, ty, pos, after, guard⟩ :: rest) s :=
 sT hw aa ai rfl rfl (fun W => BH E.g) (fun W => by rw [run_neq_struct, E.h]; rfl) rfl hd h
theorem Uy {t dK : Nat} {x y : Operand} {a b c e a' bS c' bo : Int} [E : JF P t] (hw : want ops ⟨some d, .binOp .eql t x y dK, ty, pos, after, guard⟩ s = some true) (aa : s.look x = some (jg a b c e)) (ai : s.look y = some (jg a' bS c' bo)) (hd : Nat.blt d s.n = true) (h : bc P ops K rest (s.put (some d) (bk (uM a b c e a' bS c' bo)))) : bc P ops K (⟨some d, .binOp .eql t x y dK, ty, pos, after, guard⟩ :: rest) s :=
 sT hw aa ai rfl rfl (fun W => BH E.g) (fun W => by rw [run_eql_struct, E.h]; rfl) rfl hd h
end
theorem W1 (a b c d : Int) (W : World) : (Op.equalIn 10000 36 (.agg #[.int .i64 a, .int .i64 b]) (.agg #[.int .i64 c, .int .i64 d])).run ag W = .ok (c7 a b c d) W := by
 unfold c7
 go_simp
 by_cases h1 : a = c <;> by_cases h2 : b = d <;> simp [h1, h2]
instance aiZ : xM ag 36 := ⟨by kernel_rfl, W1⟩
theorem WZ (a b c d : Int) (W : World) : (Op.equalIn 10000 40 (.agg #[.int .i64 a, .int .i64 b]) (.agg #[.int .i64 c, .int .i64 d])).run ag W = .ok (c7 a b c d) W := by
 unfold c7
 go_simp
 by_cases h1 : a = c <;> by_cases h2 : b = d <;> simp [h1, h2]
instance ai0 : xM ag 40 := ⟨by kernel_rfl, WZ⟩
theorem W0 (a b c d : Int) (W : World) : (Op.equalIn 10000 38 (.agg #[.int .i64 a, .int .i64 b]) (.agg #[.int .i64 c, .int .i64 d])).run ag W = .ok (c7 a b c d) W := by
 unfold c7
 go_simp
 by_cases h1 : a = c <;> by_cases h2 : b = d <;> simp [h1, h2]
instance ai1 : xM ag 38 := ⟨by kernel_rfl, W0⟩
def s8 (n : Int) : Bool := decide (-536870912 ≤ n) && decide (n ≤ 536870912)
theorem Ml {n : Int} : s8 n = true ↔ -536870912 ≤ n ∧ n ≤ 536870912 := by unfold s8; rw [c5, b4, b4]
def ei (x y : Int) : Bool := s8 x && s8 y
theorem Ro {x y : Int} : ei x y = true ↔ (-536870912 ≤ x ∧ x ≤ 536870912) ∧ -536870912 ≤ y ∧ y ≤ 536870912 := by unfold ei; rw [c5, Ml, Ml]
theorem Qk {n : Int} {b : Bool} (ab : s8 n = b) : aH ag 189 [aE n] (bk b) := by
 have cs : (-536870912 ≤ n ∧ n ≤ 536870912 ∧ b = true) ∨ (-536870912 ≤ n ∧ ¬ n ≤ 536870912 ∧ b = false) ∨ (¬ -536870912 ≤ n ∧ b = false) := by
  rw [← ab]; unfold s8
  by_cases h1 : -536870912 ≤ n <;> by_cases h2 : n ≤ 536870912 <;> simp [h1, h2]
 clear ab;rcases cs with ⟨h1, h2, rfl⟩ | ⟨h1, h2, rfl⟩ | ⟨h1, rfl⟩
 all_goals
  refine bl (f := 189) Tryz.func189 rfl rfl rfl rfl ?_;(repeat first | refine eA ?_ | (with_reducible apply cg (c := true)); rfl; rfl; (exact bZ (by omega)) | (with_reducible apply cg (c := false)); rfl; rfl; (exact cp (by omega)))
  ((refine bd rfl (a8 rfl aL) ?_))
  first | exact ah.aS.refl _ | exact ah.aS.of_eq (by rw [bZ h2]; rfl) | exact ah.aS.of_eq (by rw [cp h2]; rfl)
theorem sg {x y : Int} {b : Bool} (ab : ei x y = b) : aH ag 164 [aZ x y] (bk b) := by
 have aW := Qk (n := x) rfl;have bH := Qk (n := y) rfl;unfold ei at ab;cases q1 : s8 x <;> cases q2 : s8 y <;> rw [q1] at aW <;> rw [q2] at bH <;> rw [q1, q2] at ab <;> subst ab <;> clear q1 q2
 all_goals
  refine bl (f := 164) Tryz.func164 rfl rfl rfl rfl ?_;(refine cc ?_)
  ((refine bd rfl (a8 rfl aL) ?_))
  exact ah.aS.refl _
def b0 (o1 o2 a1 a2 b1 b2 : Int) : Int := (a1 - o1) * (b2 - o2) - (a2 - o2) * (b1 - o1)
theorem H2 {x y A B : Int} (h1 : -A ≤ x) (h2 : x ≤ A) (ao : -B ≤ y) (aD : y ≤ B) : -(A * B) ≤ x * y ∧ x * y ≤ A * B := by
 have aa : x.natAbs ≤ A.natAbs := by omega
 have ai : y.natAbs ≤ B.natAbs := by omega
 have h := Nat.mul_le_mul aa ai;rw [← Int.natAbs_mul, ← Int.natAbs_mul] at h;have ec : 0 ≤ A * B := fY (by omega) (by omega);omega
theorem Pm {x y : Int} (h1 : -1073741824 ≤ x) (h2 : x ≤ 1073741824) (ao : -1073741824 ≤ y) (aD : y ≤ 1073741824) : -1152921504606846976 ≤ x * y ∧ x * y ≤ 1152921504606846976 := by
 have := H2 h1 h2 ao aD;omega
theorem Qf {o1 o2 a1 a2 b1 b2 : Int} (aA : ei o1 o2 = true) (aJ : ei a1 a2 = true) (ab : ei b1 b2 = true) : aH ag 146 [aZ o1 o2, aZ a1 a2, aZ b1 b2] (aE (b0 o1 o2 a1 a2 b1 b2)) := by
 have bh := sg aA;have fk := sg aJ;have j4 := sg ab;rw [Ro] at aA aJ ab;have m1 := Pm (x := a1 - o1) (y := b2 - o2) (by omega) (by omega) (by omega) (by omega);have m2 := Pm (x := a2 - o2) (y := b1 - o1) (by omega) (by omega) (by omega) (by omega);refine bl (f := 146) Tryz.func146 rfl rfl rfl rfl ?_;(refine cc ?_)
 ((refine bd rfl (a8 rfl aL) ?_))
 exact ah.aS.refl _
theorem acQ {o1 o2 a1 a2 b1 b2 : Int} (h : (ei o1 o2 && ei a1 a2 && ei b1 b2) = false) : aH ag 146 [aZ o1 o2, aZ a1 a2, aZ b1 b2] (aE 0) := by
 have bh := sg (x := o1) (y := o2) rfl;have fk := sg (x := a1) (y := a2) rfl;have j4 := sg (x := b1) (y := b2) rfl
 have cs : ei o1 o2 = false ∨ (ei o1 o2 = true ∧ ei a1 a2 = false) ∨ (ei o1 o2 = true ∧ ei a1 a2 = true ∧ ei b1 b2 = false) := by
  generalize ei o1 o2 = p at *;generalize ei a1 a2 = q at *;generalize ei b1 b2 = r at *;cases p <;> cases q <;> cases r <;> simp_all
 clear h;rcases cs with h1 | ⟨h1, h2⟩ | ⟨h1, h2, ao⟩ <;> simp only [*] at bh fk j4
 all_goals
  refine bl (f := 146) Tryz.func146 rfl rfl rfl rfl ?_;(refine cc ?_)
  ((refine bd rfl (a8 rfl aL) ?_))
  exact ah.aS.refl _
def rH (o1 o2 a1 a2 b1 b2 : Int) : Int := if (ei o1 o2 && ei a1 a2 && ei b1 b2) = true then b0 o1 o2 a1 a2 b1 b2 else 0
theorem acP {o1 o2 a1 a2 b1 b2 : Int} : aH ag 146 [aZ o1 o2, aZ a1 a2, aZ b1 b2] (aE (rH o1 o2 a1 a2 b1 b2)) := by
 unfold rH
 by_cases h : (ei o1 o2 && ei a1 a2 && ei b1 b2) = true
 ·rw [if_pos h];simp only [c5] at h;exact Qf h.1.1 h.1.2 h.2
 ·rw [if_neg h];exact acQ (by simpa using h)
def rl (n : Int) : Int := if n < 0 then -1 else if 0 < n then 1 else 0
theorem adn {o1 o2 a1 a2 b1 b2 : Int} : aH ag 192 [aZ o1 o2, aZ a1 a2, aZ b1 b2] (aE (rl (rH o1 o2 a1 a2 b1 b2))) := by
 have aW := acP (o1 := o1) (o2 := o2) (a1 := a1) (a2 := a2) (b1 := b1) (b2 := b2);generalize rH o1 o2 a1 a2 b1 b2 = c at *;have cs : (c < 0 ∧ rl c = -1) ∨ (¬ c < 0 ∧ 0 < c ∧ rl c = 1) ∨ (¬ c < 0 ∧ ¬ 0 < c ∧ rl c = 0) := by unfold rl; repeat' split <;> omega
 rcases cs with ⟨h1, h⟩ | ⟨h1, h2, h⟩ | ⟨h1, h2, h⟩ <;> rw [h] <;> clear h
 all_goals
  refine bl (f := 192) Tryz.func192 rfl rfl rfl rfl ?_;(refine cc ?_)
  ((refine bd rfl (a8 rfl aL) ?_))
  exact ah.aS.refl _
abbrev gX (a b : Int) : Int := if b < a then b else a
abbrev gW (a b : Int) : Int := if b > a then b else a
theorem acL {a1 a2 b1 b2 : Int} : aH ag 191 [aZ a1 a2, aZ b1 b2] (jg (gX a1 b1) (gX a2 b2) (gW a1 b1) (gW a2 b2)) := by
 refine bl (f := 191) Tryz.func191 rfl rfl rfl rfl ?_;(refine eS ?_)
 ((refine bd rfl (cL rfl rfl rfl aL) ?_))
 exact ah.aS.refl _
def eM (l1 l2 h1 h2 p1 p2 : Int) : Bool := decide (l1 ≤ p1) && decide (p1 ≤ h1) && decide (l2 ≤ p2) && decide (p2 ≤ h2)
theorem XL {l1 l2 h1 h2 p1 p2 : Int} : eM l1 l2 h1 h2 p1 p2 = true ↔ l1 ≤ p1 ∧ p1 ≤ h1 ∧ l2 ≤ p2 ∧ p2 ≤ h2 := by unfold eM; simp only [c5, b4, and_assoc]
theorem acY {l1 l2 h1 h2 p1 p2 : Int} {b : Bool} (ab : eM l1 l2 h1 h2 p1 p2 = b) : aH ag 190 [jg l1 l2 h1 h2, aZ p1 p2] (bk b) := by
 have cs : (l1 ≤ p1 ∧ p1 ≤ h1 ∧ l2 ≤ p2 ∧ p2 ≤ h2 ∧ b = true) ∨ (l1 ≤ p1 ∧ p1 ≤ h1 ∧ l2 ≤ p2 ∧ ¬ p2 ≤ h2 ∧ b = false) ∨ (l1 ≤ p1 ∧ p1 ≤ h1 ∧ ¬ l2 ≤ p2 ∧ b = false) ∨ (l1 ≤ p1 ∧ ¬ p1 ≤ h1 ∧ b = false) ∨ (¬ l1 ≤ p1 ∧ b = false) := by
  rw [← ab]; unfold eM
  by_cases q1 : l1 ≤ p1 <;> by_cases q2 : p1 ≤ h1 <;> by_cases bR : l2 ≤ p2 <;> by_cases dD : p2 ≤ h2 <;> simp [q1, q2, bR, dD]
 clear ab;rcases cs with ⟨q1, q2, bR, dD, rfl⟩ | ⟨q1, q2, bR, dD, rfl⟩ | ⟨q1, q2, bR, rfl⟩ | ⟨q1, q2, rfl⟩ | ⟨q1, rfl⟩
 all_goals
  refine bl (f := 190) Tryz.func190 rfl rfl rfl rfl ?_;(repeat first | refine eA ?_ | (with_reducible apply cg (c := true)); rfl; rfl; (exact bZ (by omega)) | (with_reducible apply cg (c := false)); rfl; rfl; (exact cp (by omega)))
  ((refine bd rfl (a8 rfl aL) ?_))
  first | exact ah.aS.refl _ | exact ah.aS.of_eq (by rw [bZ dD]; rfl) | exact ah.aS.of_eq (by rw [cp dD]; rfl)
def Dx (p1 p2 a1 a2 b1 b2 : Int) : Bool := ei p1 p2 && ei a1 a2 && ei b1 b2 && eM (gX a1 b1) (gX a2 b2) (gW a1 b1) (gW a2 b2) p1 p2 && decide (b0 a1 a2 b1 b2 p1 p2 = 0)
theorem af1 {n : Int} : rl n = 0 ↔ n = 0 := by unfold rl; repeat' split <;> omega
theorem adb {p1 p2 a1 a2 b1 b2 : Int} {b : Bool} (ab : Dx p1 p2 a1 a2 b1 b2 = b) : aH ag 165 [aZ p1 p2, aZ a1 a2, aZ b1 b2] (bk b) := by
 have bh := sg (x := p1) (y := p2) rfl;have fk := sg (x := a1) (y := a2) rfl;have j4 := sg (x := b1) (y := b2) rfl;have H1 := acL (a1 := a1) (a2 := a2) (b1 := b1) (b2 := b2);have cW := acY (l1 := gX a1 b1) (l2 := gX a2 b2) (h1 := gW a1 b1) (h2 := gW a2 b2) (p1 := p1) (p2 := p2) rfl;have rz := adn (o1 := a1) (o2 := a2) (a1 := b1) (a2 := b2) (b1 := p1) (b2 := p2);unfold Dx at ab
 have cs : (ei p1 p2 = false ∧ b = false) ∨ (ei p1 p2 = true ∧ ei a1 a2 = false ∧ b = false) ∨ (ei p1 p2 = true ∧ ei a1 a2 = true ∧ ei b1 b2 = false ∧ b = false)
   ∨ (ei p1 p2 = true ∧ ei a1 a2 = true ∧ ei b1 b2 = true ∧ eM (gX a1 b1) (gX a2 b2) (gW a1 b1) (gW a2 b2) p1 p2 = false ∧ b = false)
   ∨ (ei p1 p2 = true ∧ ei a1 a2 = true ∧ ei b1 b2 = true ∧ eM (gX a1 b1) (gX a2 b2) (gW a1 b1) (gW a2 b2) p1 p2 = true ∧ b = decide (rl (rH a1 a2 b1 b2 p1 p2) = 0)) := by
  have e : decide (rl (rH a1 a2 b1 b2 p1 p2) = 0) = decide (rH a1 a2 b1 b2 p1 p2 = 0) := by rw [nx, b4, b4, af1]
  rw [e];unfold rH;generalize b0 a1 a2 b1 b2 p1 p2 = c at *;generalize ei p1 p2 = cA at *;generalize ei a1 a2 = cR at *;generalize ei b1 b2 = j0 at *;generalize eM _ _ _ _ p1 p2 = pd at *;cases cA <;> cases cR <;> cases j0 <;> cases pd <;> simp_all
 clear ab;generalize eM _ _ _ _ p1 p2 = pd at *;generalize gX a1 b1 = i1 at *;generalize gX a2 b2 = i2 at *;generalize gW a1 b1 = i3 at *;generalize gW a2 b2 = i4 at *;generalize rl (rH a1 a2 b1 b2 p1 p2) = t at *;rcases cs with ⟨h1, rfl⟩ | ⟨h1, h2, rfl⟩ | ⟨h1, h2, ao, rfl⟩ | ⟨h1, h2, ao, rfl, rfl⟩ | ⟨h1, h2, ao, rfl, rfl⟩ <;> simp only [*] at bh fk j4
 all_goals
  refine bl (f := 165) Tryz.func165 rfl rfl rfl rfl ?_;(refine cc ?_)
  ((refine bd rfl (a8 rfl aL) ?_))
  exact ah.aS.refl _
end Go.Proofs.YtbcecodakfejaaaGreat
