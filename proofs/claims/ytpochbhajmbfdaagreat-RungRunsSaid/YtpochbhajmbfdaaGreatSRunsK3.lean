/-
  My own texts, without what this claim does not need. My own text.
-/
import Derived.Tactics
import Derived.IntWalk
import Derived.Test.YtpochbhajmbfdaaGreatProg
import Derived.ProofKit
import Derived.Laws.StructEq
import Derived.Test.YtpochbhajmbfdaaGreatSRunsK2
set_option maxRecDepth 100000
set_option maxHeartbeats 64000000
set_option linter.unusedVariables false
set_option linter.unusedSimpArgs false
set_option linter.unusedSectionVars false
open Go.Proofs.Tryz renaming prog → aj
namespace Go.Proofs.YtpochbhajmbfdaaGreat
open Go.RowKit
abbrev aR (v : Value) : ai := .w (.one (.c v))
abbrev aV (n : Int) : ai := aR (.int .i64 n)
abbrev bD (b : Bool) : ai := aR (.bool b)
abbrev nf (k off : Nat) : ai := .w (.one (.own k off))
def kE (P : Program) (ty : TypeId) : Option (Bool × Nat) :=
 match P.underlying ty, P.info? ty with
 | some (.struct _), some i | some (.array _ _), some i => some (true, i.size)
 | some _, some i => some (false, i.size)
 | _, _ => none
class gd (P : Program) (ty : TypeId) (agg : outParam Bool) (n : outParam Nat) : Prop where
 h : kE P ty = some (agg, n)
def zeroOf (P : Program) (ty : TypeId) : Option (List Value) := ((P.info? ty).bind (·.zero)).map fun z => z.cells.toList
class BV (P : Program) (ty : TypeId) (vs : outParam (List Value)) : Prop where
 h : zeroOf P ty = some vs
def tL (P : Program) (ty : TypeId) (i : Nat) : Option Nat :=
 match P.underlying ty with
 | some (.struct bm) => (bm[i]?).bind fun f => (P.info? f.type).bind fun t => if t.size = 0 then none else some f.offset
 | _ => none
class mx (P : Program) (ty : TypeId) (i : Nat) (off : outParam Nat) : Prop where
 h : tL P ty i = some off
def B3 (P : Program) (ty : TypeId) : Option (Nat × Nat) :=
 match P.underlying ty with
 | some (.array n e) => (P.info? e).map fun t => (n, t.size)
 | _ => none
class JH (P : Program) (ty : TypeId) (n size : outParam Nat) : Prop where
 h : B3 P ty = some (n, size)
def s7 (P : Program) (ty : TypeId) : Option Nat :=
 match P.underlying ty with
 | some (.slice e) => (P.info? e).map fun t => t.size
 | _ => none
class iC (P : Program) (ty : TypeId) (size : outParam Nat) : Prop where
 h : s7 P ty = some size
def Eo (P : Program) (ty : TypeId) : Option (List (Nat × Nat)) :=
 match P.underlying ty with
 | some (.struct bm) => bm.toList.mapM fun f => (P.info? f.type).map fun t => (f.offset, t.size)
 | some (.array n e) => bif Nat.ble n 32 then (P.info? e).map fun t => (List.range n).map fun i => (i * t.size, t.size) else none
 | _ => none
class J3 (P : Program) (ty : TypeId) (ps : outParam (List (Nat × Nat))) : Prop where
 h : Eo P ty = some ps
class Fx (P : Program) (ty : TypeId) (k : outParam IntKind) : Prop where
 h : P.underlying ty = some (.int k)
class Enters (P : Program) (f : FuncId) : Prop where
 h : enters P f = true
def takeN : List AC → Nat → Nat → Option (List AC)
 | _, 0, 0 => some []
 | [], _, _ => none
 | c :: cs, 0, n + 1 => match takeN cs 0 n with
  | some r => some (c :: r)
  | none => none
 | _ :: cs, off + 1, n => takeN cs off n
def pf : List AC → Nat → List AC → Option (List AC)
 | cs, 0, [] => some cs
 | [], _, _ => none
 | _ :: cs, 0, d :: ds => match pf cs 0 ds with
  | some r => some (d :: r)
  | none => none
 | c :: cs, off + 1, ds => match pf cs off ds with
  | some r => some (c :: r)
  | none => none
theorem E3 : ∀ (cs : List AC) (off n : Nat) (r : List AC), takeN cs off n = some r → off + n ≤ cs.length ∧ (cs.drop off).take n = r
 | cs, 0, 0, r, h => by
  cases cs <;> (simp only [takeN, ib] at h; subst h; simp)
 | [], 0, n + 1, r, h => by simp [takeN] at h
 | [], off + 1, n, r, h => by cases n <;> simp [takeN] at h
 | c :: cs, 0, n + 1, r, h => by
  simp only [takeN] at h
  split at h
  ·rename_i a8 ap;cases h;have := E3 cs 0 n a8 ap;simp at this ⊢;exact this
  ·cases h
 | c :: cs, off + 1, n, r, h => by
  have aF : takeN cs off n = some r := by cases n <;> simpa [takeN] using h
  have := E3 cs off n r aF;exact ⟨by have := this.1; simp; omega, by simpa using this.2⟩
theorem Av : ∀ (cs : List AC) (off : Nat) (ds : List AC) (r : List AC), pf cs off ds = some r → off + ds.length ≤ cs.length ∧ er cs off ds = r
 | cs, 0, [], r, h => by
  cases cs <;> (simp only [pf, ib] at h; subst h; simp [er])
 | [], 0, d :: ds, r, h => by simp [pf] at h
 | [], off + 1, ds, r, h => by cases ds <;> simp [pf] at h
 | c :: cs, 0, d :: ds, r, h => by
  simp only [pf] at h
  split at h
  ·rename_i a8 ap;cases h;have := Av cs 0 ds a8 ap;simp [er] at this ⊢;exact this
  ·cases h
 | c :: cs, off + 1, ds, r, h => by
  simp only [pf] at h
  split at h
  ·rename_i a8 ap;cases h;have := Av cs off ds a8 ap;simp [er, Nat.add_right_comm] at this ⊢;exact this
  ·cases h
section
variable {P : Program} {s s' : aC} {o : Oper} {ops : Array Oper} {rest : List Oper} {K : aC → Prop}
theorem ay (h : K s) : bi P ops K [] s := h
theorem hH {ia : List (Nat × Nat)} (hs : ia.all (mw s) = true) (h : K s) : bi P ops (fun s => ia.all (mw s) = true ∧ K s) [] s := ⟨hs, h⟩
theorem qG {e : cq} (hw : want ops o s = some true) (he : e8 P s.n s.look s.mem o true e) (hd : ∀ d, o.dst = some d → d < s.n) (h : bi P ops K rest (e.on o.dst s)) : bi P ops K (o :: rest) s := ⟨true, hw, e, he, hd, h⟩
section
variable {d ty : Nat} {op : Op} {pos : String} {after : Array Edge} {guard : Option (Nat × Bool)}
theorem k9 {d : Nat} (hd : Nat.blt d s.n = true) : ∀ d', some d = some d' → d' < s.n := fun d' e => by cases e; simpa [Nat.blt_eq] using hd
theorem KK {dst : Option Nat} (hw : want ops ⟨dst, op, ty, pos, after, guard⟩ s = some false) (hd : ∀ d, dst = some d → Nat.blt d s.n = true) (h : bi P ops K rest (s.put dst (.da []))) : bi P ops K (⟨dst, op, ty, pos, after, guard⟩ :: rest) s :=
 ⟨false, hw, _, .skip, fun d e => by have := hd d e; simpa [Nat.blt_eq] using this, h⟩
theorem fY {av : ai} (hw : want ops ⟨some d, op, ty, pos, after, guard⟩ s = some true) (al : wD P s.look ⟨some d, op, ty, pos, after, guard⟩ av) (hd : Nat.blt d s.n = true) (h : bi P ops K rest (s.put (some d) av)) : bi P ops K (⟨some d, op, ty, pos, after, guard⟩ :: rest) s :=
 qG hw (.quiet av al) (k9 hd) h
theorem T1 {x : Operand} {av : ai} (hw : want ops ⟨some d, .move x, ty, pos, after, guard⟩ s = some true) (aa : s.look x = some av) (hd : Nat.blt d s.n = true) (h : bi P ops K rest (s.put (some d) av)) : bi P ops K (⟨some d, .move x, ty, pos, after, guard⟩ :: rest) s := by
 refine fY hw ⟨fun _ _ h => (by cases h), fun y ag => ?_, fun U ad W env he => ⟨env x, rfl, he x (by simp [Op.operands]) av aa⟩, fun j ae => ⟨x, by simp [Op.operands], av, aa, ae⟩⟩ hd h;simp [Op.operands] at ag;subst ag;exact ⟨av, aa⟩
theorem TF {x : Operand} {av : ai} (hw : want ops ⟨some d, .assign x, ty, pos, after, guard⟩ s = some true) (aa : s.look x = some av) (hd : Nat.blt d s.n = true) (h : bi P ops K rest (s.put (some d) av)) : bi P ops K (⟨some d, .assign x, ty, pos, after, guard⟩ :: rest) s := by
 refine fY hw ⟨fun _ _ h => (by cases h), fun y ag => ?_, fun U ad W env he => ⟨env x, rfl, he x (by simp [Op.operands]) av aa⟩, fun j ae => ⟨x, by simp [Op.operands], av, aa, ae⟩⟩ hd h;simp [Op.operands] at ag;subst ag;exact ⟨av, aa⟩
theorem TO {x : Operand} {i : Nat} {xs : List bK} {y : bK} (hw : want ops ⟨some d, .extract x i, ty, pos, after, guard⟩ s = some true) (aa : s.look x = some (.da xs)) (hi : xs[i]? = some y) (hd : Nat.blt d s.n = true) (h : bi P ops K rest (s.put (some d) (.w y))) : bi P ops K (⟨some d, .extract x i, ty, pos, after, guard⟩ :: rest) s := by
 refine fY (av := .w y) hw ⟨fun _ _ h => (by cases h), fun y ag => ?_, fun U ad W env he => ?_, fun j ae => ⟨x, by simp [Op.operands], _, aa, ⟨y, dJ hi, ae⟩⟩⟩ hd h
 ·simp [Op.operands] at ag;subst ag;exact ⟨_, aa⟩
 ·obtain ⟨vs, e, ao, hv⟩ := he x (by simp [Op.operands]) _ aa;have bj : i < vs.length := by rw [← ao]; exact (bV.1 hi).1
  refine ⟨vs[i], ?_, hv i y _ hi (cl bj)⟩;simp only [execOp, Instr.extract, e];simp [bj]
theorem TR {x : Operand} {qq i k off im : Nat} [F : mx P qq i im] (hw : want ops ⟨some d, .fieldAddr qq x i, ty, pos, after, guard⟩ s = some true) (aa : s.look x = some (nf k off)) (hd : Nat.blt d s.n = true) (h : bi P ops K rest (s.put (some d) (nf k (off + im)))) : bi P ops K (⟨some d, .fieldAddr qq x i, ty, pos, after, guard⟩ :: rest) s := by
 refine fY hw ⟨fun _ _ h => (by cases h), fun y ag => ?_, fun U ad W env he => ?_, fun j ae => ⟨x, by simp [Op.operands], _, aa, ?_⟩⟩ hd h
 ·simp [Op.operands] at ag;subst ag;exact ⟨_, aa⟩
 ·have hp : env x = .pointer (some ⟨ad k, off, none⟩) := he x (by simp [Op.operands]) _ aa;have hF := F.h;unfold tL at hF
  split at hF
  ·rename_i bm hu;cases au : bm[i]? with
   | none => rw [au] at hF; cases hF
   | some f =>
    rw [au] at hF;simp only [kz] at hF;cases hi : P.info? f.type with
    | none => rw [hi] at hF; cases hF
    | some t =>
     rw [hi] at hF;simp only [kz] at hF
     split at hF
     ·cases hF
     ·rename_i ck;cases hF;refine ⟨.pointer (some ⟨ad k, off + f.offset, none⟩), ?_, rfl⟩;have kP : (⟨ad k, off, none⟩ : Addr).add f.offset = ⟨ad k, off + f.offset, none⟩ := by unfold Addr.add; split <;> simp_all
      simp only [execOp, Instr.fieldAt, hp, Instr.sureAddr, Sem.run_bind, Sem.run_pure, Result.andThen_ok, run_underlying hu, au, fieldPlace, hV hi, if_neg ck, kP]
  ·cases hF
 ·obtain ⟨y, ag, mg⟩ := ae;exact ⟨.own k off, by simp [bK.cells], by simp [bK.cells] at ag; subst ag; exact mg⟩
theorem hl {x y : Operand} {F2 k off n size : Nat} {ha : IntKind} {i : Int} [A : JH P F2 n size] (hw : want ops ⟨some d, .indexAddr F2 x y, ty, pos, after, guard⟩ s = some true) (aa : s.look x = some (nf k off)) (ag : s.look y = some (aR (.int ha i))) (aI : 0 ≤ i) (h1 : i < n) (hd : Nat.blt d s.n = true) (h : bi P ops K rest (s.put (some d) (nf k (off + i.toNat * size)))) : bi P ops K (⟨some d, .indexAddr F2 x y, ty, pos, after, guard⟩ :: rest) s := by
 refine fY hw ⟨fun _ _ h => (by cases h), fun z aZ => ?_, fun U ad W env he => ?_, fun j ae => ⟨x, by simp [Op.operands], _, aa, ?_⟩⟩ hd h
 ·simp [Op.operands] at aZ;rcases aZ with rfl | rfl
  ·exact ⟨_, aa⟩
  ·exact ⟨_, ag⟩
 ·have hp : env x = .pointer (some ⟨ad k, off, none⟩) := he x (by simp [Op.operands]) _ aa;have hi : env y = .int ha i := (he y (by simp [Op.operands]) _ ag).1;have dO := A.h;unfold B3 at dO
  split at dO
  ·rename_i n' e hu;cases dq : P.info? e with
   | none => rw [dq] at dO; cases dO
   | some t =>
    rw [dq] at dO;cases dO;refine ⟨.pointer (some ⟨ad k, off + i.toNat * t.size, none⟩), ?_, rfl⟩;have kP : (⟨ad k, off, none⟩ : Addr).add (i.toNat * t.size) = ⟨ad k, off + i.toNat * t.size, none⟩ := by unfold Addr.add; split <;> simp_all
    simp only [execOp, Instr.indexAt, hp, hi, asIntOf, Instr.sureAddr, Sem.run_bind, Sem.run_pure, Result.andThen_ok, run_underlying hu, hV dq, if_pos (And.intro aI h1), kP]
  ·cases dO
 ·obtain ⟨y, ag, mg⟩ := ae;exact ⟨.own k off, by simp [bK.cells], by simp [bK.cells] at ag; subst ag; exact mg⟩
theorem afT {ty n : Nat} (h : kE P ty = some (false, n)) {cs : List AC} {off : Nat} {y : AC} (ak : cs[off]? = some y) : pick P ty cs off = some (.one y) := by (try (unfold kE pick at *)); grind
theorem Ru {ty n : Nat} (h : kE P ty = some (true, n)) {cs aU : List AC} {off : Nat} (ak : takeN cs off n = some aU) : pick P ty cs off = some (.agg aU) := by
 obtain ⟨h1, h2⟩ := E3 _ _ _ _ ak;unfold kE at h;unfold pick
 split at h
 ·rename_i i hu hi; cases h; simp only [hu, hi, kz, if_pos h1, h2]
 ·rename_i i hu hi; cases h; simp only [hu, hi, kz, if_pos h1, h2]
 ·cases h
 ·cases h
theorem afS {ty n : Nat} {b : Bool} (h : kE P ty = some (b, n)) : ∃ i, P.info? ty = some i ∧ i.size = n := by (try (unfold kE at *)); grind
theorem TX {x : Operand} {lt k off n : Nat} {cs : List AC} {y : AC} [T : gd P lt false n] (hw : want ops ⟨some d, .load lt x, ty, pos, after, guard⟩ s = some true) (aa : s.look x = some (nf k off)) (hm : s.mem k = some cs) (ak : cs[off]? = some y) (hd : Nat.blt d s.n = true) (h : bi P ops K rest (s.put (some d) (.w (.one y)))) : bi P ops K (⟨some d, .load lt x, ty, pos, after, guard⟩ :: rest) s :=
 qG hw (.load lt x k off cs _ rfl aa hm (afT T.h ak)) (k9 hd) h
theorem TY {x : Operand} {lt k off n : Nat} {cs aU : List AC} [T : gd P lt true n] (hw : want ops ⟨some d, .load lt x, ty, pos, after, guard⟩ s = some true) (aa : s.look x = some (nf k off)) (hm : s.mem k = some cs) (ak : takeN cs off n = some aU) (hd : Nat.blt d s.n = true) (h : bi P ops K rest (s.put (some d) (.w (.agg aU)))) : bi P ops K (⟨some d, .load lt x, ty, pos, after, guard⟩ :: rest) s :=
 qG hw (.load lt x k off cs _ rfl aa hm (Ru T.h ak)) (k9 hd) h
theorem Ua {x y : Operand} {st k off n : Nat} {b : Bool} {cs ds : List AC} {z : bK} [T : gd P st b n] (hw : want ops ⟨none, .store st x y, ty, pos, after, guard⟩ s = some true) (aa : s.look x = some (nf k off)) (ag : s.look y = some (.w z)) (hm : s.mem k = some cs) (aE : Nat.beq n z.cells.length = true) (hp : pf cs off z.cells = some ds) (h : bi P ops K rest (s.eh k ds)) : bi P ops K (⟨none, .store st x y, ty, pos, after, guard⟩ :: rest) s := by
 obtain ⟨i, hi, hs⟩ := afS T.h;obtain ⟨h1, h2⟩ := Av _ _ _ _ hp;refine qG hw (.store st x y k off cs z i rfl aa ag hm hi (by rw [hs]; exact hE aE) h1) (fun d e => by cases e) ?_;simp only [cq.on, h2];exact h
theorem TD {iE : Nat} {vs : List Value} [Z : BV P iE vs] (hw : want ops ⟨some d, .alloc iE, ty, pos, after, guard⟩ s = some true) (hm : s.mem d = none) (h1 : (vs.all fun v => v.oneCell') = true) (hd : Nat.blt d s.n = true) (h : bi P ops K rest ((s.eh d (vs.map .c)).put (some d) (nf d 0))) : bi P ops K (⟨some d, .alloc iE, ty, pos, after, guard⟩ :: rest) s := by
 have aZ := Z.h;unfold zeroOf at aZ;cases hi : P.info? iE with
 | none => rw [hi] at aZ; cases aZ
 | some i =>
  rw [hi] at aZ;simp only [kz] at aZ;cases hP : i.zero with
  | none => rw [hP] at aZ; cases aZ
  | some z =>
   rw [hP] at aZ;cases aZ;exact qG hw (.new _ d rfl hm (.alloc iE i z _ rfl hi hP rfl h1)) (k9 hd) h
theorem TG {F8 : Nat} {x : Operand} {z : bK} (hw : want ops ⟨some d, .box F8 x, ty, pos, after, guard⟩ s = some true) (aa : s.look x = some (.w z)) (hm : s.mem d = none) (hd : Nat.blt d s.n = true) (h : bi P ops K rest ((s.eh d z.cells).put (some d) (nf d 0))) : bi P ops K (⟨some d, .box F8 x, ty, pos, after, guard⟩ :: rest) s :=
 qG hw (.new _ d rfl hm (.box F8 x z rfl aa)) (k9 hd) h
def wY : List AC → Option (List Value)
 | [] => some []
 | .c v :: xs => match wY xs with
  | some r => some (v :: r)
  | none => none
 | _ :: _ => none
def nT : bK → Option Value
 | .one (.c v) => some v
 | .one _ => none
 | .agg xs => match wY xs with
  | some r => some (.agg r.toArray)
  | none => none
theorem L1 {U : Nat → Prop} {ad : Nat → Nat} {W : World} : ∀ (xs : List AC) (vs r : List Value), bZ U ad W xs vs → wY xs = some r → vs = r
 | [], vs, r, h, he => by cases he; have := h.1; exact na this.symm
 | .c v :: xs, vs, r, h, he => by
  simp only [wY] at he
  split at he
  ·rename_i a8 ap;cases he;cases vs with
   | nil => have := h.1; cases this
   | cons u us =>
    have aI : u = v := (h.2 0 _ _ rfl rfl).1;have := L1 xs us a8 ⟨by have := h.1; simpa using this, fun i x w aa hw => h.2 (i + 1) x w (by simpa using aa) (by simpa using hw)⟩ ap;rw [aI, this]
  ·cases he
 | .own _ _ :: _, _, _, _, he => by cases he
 | .p _ :: _, _, _, _, he => by cases he
theorem CC {U : Nat → Prop} {ad : Nat → Nat} {W : World} {x : bK} {v u : Value} (h : gS U ad W x v) (he : nT x = some u) : v = u := by
 cases x with
 | one y => cases y with
  | c w => cases he; exact h.1
  | own => cases he
  | p => cases he
 | agg xs =>
  simp only [nT] at he
  split at he
  ·rename_i r ap;cases he;obtain ⟨vs, rfl, ao⟩ := h;rw [L1 xs vs r ao ap]
  ·cases he
theorem iJ (v : Value) (j : Nat) : ¬ (aR v).owns j := fun ⟨y, ag, h⟩ => by simp [bK.cells] at ag; subst ag; cases h
theorem fK {r3 : BinOp} {dc dK : Nat} {x y : Operand} {a b : bK} {iV fG v : Value} (hw : want ops ⟨some d, .binOp r3 dc x y dK, ty, pos, after, guard⟩ s = some true) (aa : s.look x = some (.w a)) (ag : s.look y = some (.w b)) (iF : nT a = some iV) (l8 : nT b = some fG)
  (aw : ∀ W, (eqGuard r3 dc x y iV fG).run P W = .ok () W) (ap : ∀ W, (binOp r3 dc iV fG).run P W = .ok v W) (h1 : v.oneCell' = true) (hd : Nat.blt d s.n = true) (h : bi P ops K rest (s.put (some d) (aR v))) : bi P ops K (⟨some d, .binOp r3 dc x y dK, ty, pos, after, guard⟩ :: rest) s := by
 refine fY (av := aR v) hw ⟨fun _ _ h => (by cases h), fun z aZ => ?_, fun U ad W env he => ⟨v, ?_, ⟨rfl, h1⟩⟩, fun j ae => absurd ae (iJ v j)⟩ hd h
 ·simp [Op.operands] at aZ;rcases aZ with rfl | rfl
  ·exact ⟨_, aa⟩
  ·exact ⟨_, ag⟩
 ·have aG : env x = iV := CC (he x (by simp [Op.operands]) _ aa) iF;have aO : env y = fG := CC (he y (by simp [Op.operands]) _ ag) l8;simp only [execOp, aG, aO, Sem.run_bind, aw, Result.andThen_ok, ap, Sem.run_pure]
theorem qF {r3 : BinOp} {dc dK : Nat} {x y : Operand} {k : IntKind} {a b : Int} {v : Value} (hw : want ops ⟨some d, .binOp r3 dc x y dK, ty, pos, after, guard⟩ s = some true) (aa : s.look x = some (aR (.int k a))) (ag : s.look y = some (aR (.int k b)))
  (ap : ∀ W, (binOp r3 dc (.int k a) (.int k b)).run P W = .ok v W) (h1 : v.oneCell' = true) (hd : Nat.blt d s.n = true) (h : bi P ops K rest (s.put (some d) (aR v))) : bi P ops K (⟨some d, .binOp r3 dc x y dK, ty, pos, after, guard⟩ :: rest) s :=
 fK hw aa ag rfl rfl (fun W => by unfold eqGuard; cases r3 <;> rfl) ap h1 hd h
theorem TZ {dc dK : Nat} {x y : Operand} {k : IntKind} {a b : Int} (hw : want ops ⟨some d, .binOp .lss dc x y dK, ty, pos, after, guard⟩ s = some true) (aa : s.look x = some (aR (.int k a))) (ag : s.look y = some (aR (.int k b))) (hd : Nat.blt d s.n = true) (h : bi P ops K rest (s.put (some d) (bD (decide (a < b))))) : bi P ops K (⟨some d, .binOp .lss dc x y dK, ty, pos, after, guard⟩ :: rest) s :=
 qF hw aa ag (fun W => by cases k <;> rfl) rfl hd h
theorem TW {dc dK : Nat} {x y : Operand} {k : IntKind} {a b : Int} (hw : want ops ⟨some d, .binOp .leq dc x y dK, ty, pos, after, guard⟩ s = some true) (aa : s.look x = some (aR (.int k a))) (ag : s.look y = some (aR (.int k b))) (hd : Nat.blt d s.n = true) (h : bi P ops K rest (s.put (some d) (bD (decide (a ≤ b))))) : bi P ops K (⟨some d, .binOp .leq dc x y dK, ty, pos, after, guard⟩ :: rest) s :=
 qF hw aa ag (fun W => by cases k <;> rfl) rfl hd h
theorem TT {dc dK : Nat} {x y : Operand} {k : IntKind} {a b : Int} (hw : want ops ⟨some d, .binOp .gtr dc x y dK, ty, pos, after, guard⟩ s = some true) (aa : s.look x = some (aR (.int k a))) (ag : s.look y = some (aR (.int k b))) (hd : Nat.blt d s.n = true) (h : bi P ops K rest (s.put (some d) (bD (decide (b < a))))) : bi P ops K (⟨some d, .binOp .gtr dc x y dK, ty, pos, after, guard⟩ :: rest) s :=
 qF hw aa ag (fun W => by cases k <;> rfl) rfl hd h
theorem TS {dc dK : Nat} {x y : Operand} {k : IntKind} {a b : Int} (hw : want ops ⟨some d, .binOp .geq dc x y dK, ty, pos, after, guard⟩ s = some true) (aa : s.look x = some (aR (.int k a))) (ag : s.look y = some (aR (.int k b))) (hd : Nat.blt d s.n = true) (h : bi P ops K rest (s.put (some d) (bD (decide (b ≤ a))))) : bi P ops K (⟨some d, .binOp .geq dc x y dK, ty, pos, after, guard⟩ :: rest) s :=
 qF hw aa ag (fun W => by cases k <;> rfl) rfl hd h
theorem TN {dc dK : Nat} {x y : Operand} {k : IntKind} {a b : Int} (hw : want ops ⟨some d, .binOp .eql dc x y dK, ty, pos, after, guard⟩ s = some true) (aa : s.look x = some (aR (.int k a))) (ag : s.look y = some (aR (.int k b))) (hd : Nat.blt d s.n = true) (h : bi P ops K rest (s.put (some d) (bD (decide (a = b))))) : bi P ops K (⟨some d, .binOp .eql dc x y dK, ty, pos, after, guard⟩ :: rest) s :=
 qF hw aa ag (fun W => by cases k <;> rfl) rfl hd h
theorem T2 {dc dK : Nat} {x y : Operand} {k : IntKind} {a b : Int} (hw : want ops ⟨some d, .binOp .neq dc x y dK, ty, pos, after, guard⟩ s = some true) (aa : s.look x = some (aR (.int k a))) (ag : s.look y = some (aR (.int k b))) (hd : Nat.blt d s.n = true) (h : bi P ops K rest (s.put (some d) (bD (!decide (a = b))))) : bi P ops K (⟨some d, .binOp .neq dc x y dK, ty, pos, after, guard⟩ :: rest) s :=
 qF hw aa ag (fun W => by cases k <;> rfl) rfl hd h
theorem dB {dc dK : Nat} {x y : Operand} {k : IntKind} {a b c : Int} (hw : want ops ⟨some d, .binOp .add dc x y dK, ty, pos, after, guard⟩ s = some true) (aa : s.look x = some (aR (.int k a))) (ag : s.look y = some (aR (.int k b))) (ak : k.wrap (a + b) = c) (hd : Nat.blt d s.n = true) (h : bi P ops K rest (s.put (some d) (aR (.int k c)))) : bi P ops K (⟨some d, .binOp .add dc x y dK, ty, pos, after, guard⟩ :: rest) s :=
 qF hw aa ag (fun W => by rw [← ak]; cases k <;> rfl) rfl hd h
theorem oz {dc dK : Nat} {x y : Operand} {k : IntKind} {a b c : Int} (hw : want ops ⟨some d, .binOp .sub dc x y dK, ty, pos, after, guard⟩ s = some true) (aa : s.look x = some (aR (.int k a))) (ag : s.look y = some (aR (.int k b))) (ak : k.wrap (a - b) = c) (hd : Nat.blt d s.n = true) (h : bi P ops K rest (s.put (some d) (aR (.int k c)))) : bi P ops K (⟨some d, .binOp .sub dc x y dK, ty, pos, after, guard⟩ :: rest) s :=
 qF hw aa ag (fun W => by rw [← ak]; cases k <;> rfl) rfl hd h
theorem tn {dc dK : Nat} {x y : Operand} {k : IntKind} {a b c : Int} (hw : want ops ⟨some d, .binOp .mul dc x y dK, ty, pos, after, guard⟩ s = some true) (aa : s.look x = some (aR (.int k a))) (ag : s.look y = some (aR (.int k b))) (ak : k.wrap (a * b) = c) (hd : Nat.blt d s.n = true) (h : bi P ops K rest (s.put (some d) (aR (.int k c)))) : bi P ops K (⟨some d, .binOp .mul dc x y dK, ty, pos, after, guard⟩ :: rest) s :=
 qF hw aa ag (fun W => by rw [← ak]; cases k <;> rfl) rfl hd h
theorem cp {n : Int} (h : -9223372036854775808 ≤ n ∧ n < 9223372036854775808) : IntKind.i64.wrap n = n := IntWalk.i64_in n (by omega)
theorem T4 {dc : Nat} {x : Operand} {b : Bool} (hw : want ops ⟨some d, .unOp .not dc x, ty, pos, after, guard⟩ s = some true) (aa : s.look x = some (bD b)) (hd : Nat.blt d s.n = true) (h : bi P ops K rest (s.put (some d) (bD (!b)))) : bi P ops K (⟨some d, .unOp .not dc x, ty, pos, after, guard⟩ :: rest) s := by
 refine fY (av := bD (!b)) hw ⟨fun _ _ h => (by cases h), fun z aZ => ?_, fun U ad W env he => ⟨.bool (!b), ?_, ⟨rfl, rfl⟩⟩, fun j ae => absurd ae (iJ _ j)⟩ hd h
 ·simp [Op.operands] at aZ; subst aZ; exact ⟨_, aa⟩
 ·have aG : env x = .bool b := (he x (by simp [Op.operands]) _ aa).1;simp only [execOp, aG, Sem.run_bind, Op.unary];rfl
theorem hn {Jy : UnOp} {dc : Nat} {x : Operand} {iV v : Value} (hw : want ops ⟨some d, .unOp Jy dc x, ty, pos, after, guard⟩ s = some true) (aa : s.look x = some (aR iV)) (ap : ∀ W, (Op.unary Jy iV).run P W = .ok v W) (h1 : v.oneCell' = true) (hd : Nat.blt d s.n = true) (h : bi P ops K rest (s.put (some d) (aR v))) : bi P ops K (⟨some d, .unOp Jy dc x, ty, pos, after, guard⟩ :: rest) s := by
 refine fY (av := aR v) hw ⟨fun _ _ h => (by cases h), fun z aZ => ?_, fun U ad W env he => ⟨v, ?_, ⟨rfl, h1⟩⟩, fun j ae => absurd ae (iJ v j)⟩ hd h
 ·simp [Op.operands] at aZ; subst aZ; exact ⟨_, aa⟩
 ·have aG : env x = iV := (he x (by simp [Op.operands]) _ aa).1;simp only [execOp, aG, Sem.run_bind, ap, Result.andThen_ok, Sem.run_pure]
theorem TL {src dst : Nat} {x : Operand} {iV v : Value} (hw : want ops ⟨some d, .convert src dst x, ty, pos, after, guard⟩ s = some true) (aa : s.look x = some (aR iV)) (ap : ∀ W, (convert src dst iV).run P W = .ok v W) (h1 : v.oneCell' = true) (hd : Nat.blt d s.n = true) (h : bi P ops K rest (s.put (some d) (aR v))) : bi P ops K (⟨some d, .convert src dst x, ty, pos, after, guard⟩ :: rest) s := by
 refine fY (av := aR v) hw ⟨fun _ _ h => (by cases h), fun z aZ => ?_, fun U ad W env he => ⟨v, ?_, ⟨rfl, h1⟩⟩, fun j ae => absurd ae (iJ v j)⟩ hd h
 ·simp [Op.operands] at aZ; subst aZ; exact ⟨_, aa⟩
 ·have aG : env x = iV := (he x (by simp [Op.operands]) _ aa).1;simp only [execOp, aG, Sem.run_bind, ap, Result.andThen_ok, Sem.run_pure]
theorem FU {src dst n : Nat} {b : Bool} {k k' : IntKind} {x : Operand} {a c : Int} [S : gd P src b n] [I : Fx P dst k'] (hw : want ops ⟨some d, .convert src dst x, ty, pos, after, guard⟩ s = some true) (aa : s.look x = some (aR (.int k a))) (ak : k'.wrap a = c) (hd : Nat.blt d s.n = true) (h : bi P ops K rest (s.put (some d) (aR (.int k' c)))) : bi P ops K (⟨some d, .convert src dst x, ty, pos, after, guard⟩ :: rest) s := by
 refine TL hw aa (fun W => ?_) rfl hd h
 have hs : ∃ D, P.underlying src = some D := by
  have := S.h;unfold kE at this;cases hu : P.underlying src with
  | none => rw [hu] at this; cases this
  | some D => exact ⟨D, rfl⟩
 obtain ⟨D, hs⟩ := hs;unfold convert;simp only [Sem.run_bind, run_underlying hs, run_underlying I.h, Result.andThen_ok];rw [← ak];cases D <;> rfl
theorem T6 {c x y : Operand} {av : ai} (hw : want ops ⟨some d, .pick c x y, ty, pos, after, guard⟩ s = some true) (ak : s.look c = some (bD true)) (aa : s.look x = some av) {bv : ai} (ag : s.look y = some bv) (hd : Nat.blt d s.n = true) (h : bi P ops K rest (s.put (some d) av)) : bi P ops K (⟨some d, .pick c x y, ty, pos, after, guard⟩ :: rest) s := by
 refine fY hw ⟨fun _ _ h => (by cases h), fun z aZ => ?_, fun U ad W env he => ⟨env x, ?_, he x (by simp [Op.operands]) av aa⟩, fun j ae => ⟨x, by simp [Op.operands], av, aa, ae⟩⟩ hd h
 ·simp [Op.operands] at aZ;rcases aZ with rfl | rfl | rfl
  ·exact ⟨_, ak⟩
  ·exact ⟨_, aa⟩
  ·exact ⟨_, ag⟩
 ·have aG : env c = .bool true := (he c (by simp [Op.operands]) _ ak).1;simp [execOp, aG, asBool]
theorem T5 {c x y : Operand} {av : ai} (hw : want ops ⟨some d, .pick c x y, ty, pos, after, guard⟩ s = some true) (ak : s.look c = some (bD false)) (aa : s.look y = some av) {bv : ai} (ag : s.look x = some bv) (hd : Nat.blt d s.n = true) (h : bi P ops K rest (s.put (some d) av)) : bi P ops K (⟨some d, .pick c x y, ty, pos, after, guard⟩ :: rest) s := by
 refine fY hw ⟨fun _ _ h => (by cases h), fun z aZ => ?_, fun U ad W env he => ⟨env y, ?_, he y (by simp [Op.operands]) av aa⟩, fun j ae => ⟨y, by simp [Op.operands], av, aa, ae⟩⟩ hd h
 ·simp [Op.operands] at aZ;rcases aZ with rfl | rfl | rfl
  ·exact ⟨_, ak⟩
  ·exact ⟨_, ag⟩
  ·exact ⟨_, aa⟩
 ·have aG : env c = .bool false := (he c (by simp [Op.operands]) _ ak).1;simp [execOp, aG, asBool]
theorem wH {f : FuncId} {g : Operand} {ts : Array TypeId} {l : List Operand} {args : List ai} {r : ai} [E : Enters P f] (hw : want ops ⟨some d, .call ⟨.value g, l.toArray, ts⟩, ty, pos, after, guard⟩ s = some true) (aw : s.look g = some (aR (.func (.func f) #[] #[]))) (aL : l.map s.look = args.map some) (hp : aT P f args r) (hd : Nat.blt d s.n = true) (h : bi P ops K rest (s.put (some d) r)) :
  bi P ops K (⟨some d, .call ⟨.value g, l.toArray, ts⟩, ty, pos, after, guard⟩ :: rest) s :=
 qG hw (.call f args r ⟨⟨_, g, rfl, rfl, .inl ⟨[], aw, by simpa using aL, rfl⟩⟩, E.h⟩ hp) (k9 hd) h
theorem TJ {f : FuncId} {g : Operand} {ts : Array TypeId} {l : List Operand} {bs : List Value} {args : List ai} {r : ai} [E : Enters P f] (hw : want ops ⟨some d, .call ⟨.value g, l.toArray, ts⟩, ty, pos, after, guard⟩ s = some true) (aw : s.look g = some (aR (.func (.func f) bs.toArray #[]))) (ab : bs.all B8 = true) (aL : l.map s.look = args.map some) (hp : aT P f (bs.map xK ++ args) r) (hd : Nat.blt d s.n = true) (h : bi P ops K rest (s.put (some d) r)) :
  bi P ops K (⟨some d, .call ⟨.value g, l.toArray, ts⟩, ty, pos, after, guard⟩ :: rest) s :=
 qG hw (.call f _ r ⟨⟨_, g, rfl, rfl, .inl ⟨bs, aw, by rw [List.toList_toArray, aL, List.map_append, List.map_map]; rfl, ab⟩⟩, E.h⟩ hp) (k9 hd) h
theorem KH {f : FuncId} {g : Operand} {ts : Array TypeId} {l : List Operand} {cs : List AC} {args : List ai} {r : ai} [E : Enters P f] (hw : want ops ⟨some d, .call ⟨.value g, l.toArray, ts⟩, ty, pos, after, guard⟩ s = some true) (aw : s.look g = some (.w (.one (.p (pt (.func f) cs))))) (aL : l.map s.look = args.map some) (hp : aT P f (args ++ cs.map fun x => .w (.one x)) r) (hd : Nat.blt d s.n = true) (h : bi P ops K rest (s.put (some d) r)) :
  bi P ops K (⟨some d, .call ⟨.value g, l.toArray, ts⟩, ty, pos, after, guard⟩ :: rest) s :=
 qG hw (.call f _ r ⟨⟨_, g, rfl, rfl, .inr ⟨cs, aw, by rw [List.toList_toArray, aL, List.map_append, List.map_map]; rfl⟩⟩, E.h⟩ hp) (k9 hd) h
theorem yx {fn : Fn} {x : Operand} {a : bK} {iV : Value} (hw : want ops ⟨some d, .makeFunc fn #[x] #[], ty, pos, after, guard⟩ s = some true) (aa : s.look x = some (.w a)) (iF : nT a = some iV) (hd : Nat.blt d s.n = true) (h : bi P ops K rest (s.put (some d) (aR (.func fn #[iV] #[])))) : bi P ops K (⟨some d, .makeFunc fn #[x] #[], ty, pos, after, guard⟩ :: rest) s := by
 refine fY (av := aR (.func fn #[iV] #[])) hw ⟨fun _ _ h => (by cases h), fun z aZ => ?_, fun U ad W env he => ⟨.func fn #[iV] #[], ?_, ⟨rfl, rfl⟩⟩, fun j ae => absurd ae (iJ _ j)⟩ hd h
 ·simp [Op.operands] at aZ; subst aZ; exact ⟨_, aa⟩
 ·have aG : env x = iV := CC (he x (by simp [Op.operands]) _ aa) iF;have em : (#[x] : Array Operand).map env = #[iV] := by simp [aG]
  simp only [execOp, em, Array.map_empty, Instr.makeFunc, Sem.run_bind, Sem.run_pure, Result.andThen_ok]
theorem hG {f : FuncId} {g : Operand} {ts : Array TypeId} {r : ai} [E : Enters P f] (hw : want ops ⟨some d, .call ⟨.value g, #[], ts⟩, ty, pos, after, guard⟩ s = some true) (aw : s.look g = some (aR (.func (.func f) #[] #[]))) (hp : aT P f [] r) (hd : Nat.blt d s.n = true) (h : bi P ops K rest (s.put (some d) r)) : bi P ops K (⟨some d, .call ⟨.value g, #[], ts⟩, ty, pos, after, guard⟩ :: rest) s :=
 wH (l := []) hw aw rfl hp hd h
theorem dj {f : FuncId} {g : Operand} {ts : Array TypeId} {dh : Operand} {a1 : ai} {r : ai} [E : Enters P f] (hw : want ops ⟨some d, .call ⟨.value g, #[dh], ts⟩, ty, pos, after, guard⟩ s = some true) (aw : s.look g = some (aR (.func (.func f) #[] #[]))) (h1 : s.look dh = some a1) (hp : aT P f [a1] r) (hd : Nat.blt d s.n = true) (h : bi P ops K rest (s.put (some d) r)) : bi P ops K (⟨some d, .call ⟨.value g, #[dh], ts⟩, ty, pos, after, guard⟩ :: rest) s :=
 wH (l := [dh]) hw aw (by simp [h1]) hp hd h
theorem cI {f : FuncId} {g : Operand} {ts : Array TypeId} {dh dE : Operand} {a1 a2 : ai} {r : ai} [E : Enters P f] (hw : want ops ⟨some d, .call ⟨.value g, #[dh, dE], ts⟩, ty, pos, after, guard⟩ s = some true) (aw : s.look g = some (aR (.func (.func f) #[] #[]))) (h1 : s.look dh = some a1) (h2 : s.look dE = some a2) (hp : aT P f [a1, a2] r) (hd : Nat.blt d s.n = true) (h : bi P ops K rest (s.put (some d) r)) : bi P ops K (⟨some d, .call ⟨.value g, #[dh, dE], ts⟩, ty, pos, after, guard⟩ :: rest) s :=
 wH (l := [dh, dE]) hw aw (by simp [h1, h2]) hp hd h
theorem eR {f : FuncId} {g : Operand} {ts : Array TypeId} {dh dE kZ : Operand} {a1 a2 a3 : ai} {r : ai} [E : Enters P f] (hw : want ops ⟨some d, .call ⟨.value g, #[dh, dE, kZ], ts⟩, ty, pos, after, guard⟩ s = some true) (aw : s.look g = some (aR (.func (.func f) #[] #[]))) (h1 : s.look dh = some a1) (h2 : s.look dE = some a2) (aq : s.look kZ = some a3) (hp : aT P f [a1, a2, a3] r) (hd : Nat.blt d s.n = true) (h : bi P ops K rest (s.put (some d) r)) : bi P ops K (⟨some d, .call ⟨.value g, #[dh, dE, kZ], ts⟩, ty, pos, after, guard⟩ :: rest) s :=
 wH (l := [dh, dE, kZ]) hw aw (by simp [h1, h2, aq]) hp hd h
theorem nR {f : FuncId} {g : Operand} {ts : Array TypeId} {dh dE kZ nE : Operand} {a1 a2 a3 a4 : ai} {r : ai} [E : Enters P f] (hw : want ops ⟨some d, .call ⟨.value g, #[dh, dE, kZ, nE], ts⟩, ty, pos, after, guard⟩ s = some true) (aw : s.look g = some (aR (.func (.func f) #[] #[]))) (h1 : s.look dh = some a1) (h2 : s.look dE = some a2) (aq : s.look kZ = some a3) (aK : s.look nE = some a4) (hp : aT P f [a1, a2, a3, a4] r) (hd : Nat.blt d s.n = true) (h : bi P ops K rest (s.put (some d) r)) : bi P ops K (⟨some d, .call ⟨.value g, #[dh, dE, kZ, nE], ts⟩, ty, pos, after, guard⟩ :: rest) s :=
 wH (l := [dh, dE, kZ, nE]) hw aw (by simp [h1, h2, aq, aK]) hp hd h
theorem TI {f : FuncId} {g : Operand} {ts : Array TypeId} {dh dE kZ nE Fh : Operand} {a1 a2 a3 a4 a5 : ai} {r : ai} [E : Enters P f] (hw : want ops ⟨some d, .call ⟨.value g, #[dh, dE, kZ, nE, Fh], ts⟩, ty, pos, after, guard⟩ s = some true) (aw : s.look g = some (aR (.func (.func f) #[] #[]))) (h1 : s.look dh = some a1) (h2 : s.look dE = some a2) (aq : s.look kZ = some a3) (aK : s.look nE = some a4) (cO : s.look Fh = some a5) (hp : aT P f [a1, a2, a3, a4, a5] r) (hd : Nat.blt d s.n = true) (h : bi P ops K rest (s.put (some d) r)) : bi P ops K (⟨some d, .call ⟨.value g, #[dh, dE, kZ, nE, Fh], ts⟩, ty, pos, after, guard⟩ :: rest) s :=
 wH (l := [dh, dE, kZ, nE, Fh]) hw aw (by simp [h1, h2, aq, aK, cO]) hp hd h
def qK (ps : List (Nat × Nat)) : List AC → List (Nat × bK) → Option (List AC)
 | cs, [] => some cs
 | cs, (i, z) :: rest => match ps[i]? with
  | some (off, size) => bif Nat.beq size z.cells.length then match pf cs off z.cells with
    | some r => qK ps r rest
    | none => none
   else none
  | none => none
def nx (look : Operand → Option ai) : List (Nat × Operand) → Option (List (Nat × bK))
 | [] => some []
 | (i, x) :: rest => match look x, nx look rest with
  | some (.w z), some r => some ((i, z) :: r)
  | _, _ => none
theorem Mb (off : Nat) : ∀ (zs : List Value) (k : Nat) (nl : Array Value), off + k + zs.length ≤ nl.size → ((zs.zipIdx k).foldl (fun cs (c, j) => cs.setIfInBounds (off + j) c) nl).toList = nl.toList.take (off + k) ++ zs ++ nl.toList.drop (off + k + zs.length)
 | [], k, nl, _ => by simp
 | z :: zs, k, nl, h => by
  simp only [List.zipIdx_cons, List.foldl_cons];rw [Mb off zs (k + 1) _ (by simp at h ⊢; omega)];have e := list_seg_step nl.toList (off + k) z zs (by simp at h ⊢; omega);simpa [Array.toList_setIfInBounds, Nat.add_assoc] using e
theorem y2 {U : Nat → Prop} {ad : Nat → Nat} {W : World} {ps : List (Nat × Nat)} {place : Nat → Option (Nat × Nat)} (hp : ∀ i q, ps[i]? = some q → place i = some q) {look : Operand → Option ai} {env : Operand → Value} : ∀ (parts : List (Nat × Operand)) (cs : List AC) (vs : List Value) (zs : List (Nat × bK)) (r : List AC), bZ U ad W cs vs → nx look parts = some zs → (∀ p ∈ parts, ∀ a, look p.2 = some a → di U ad W a (env p.2)) → qK ps cs zs = some r →
  ∃ us : List Value, Instr.fill place vs.toArray (parts.map fun p => (p.1, env p.2)) = some us.toArray ∧ bZ U ad W r us
 | [], cs, vs, zs, r, ao, aZ, _, ab => by cases aZ; cases ab; exact ⟨vs, rfl, ao⟩
 | (i, x) :: parts, cs, vs, zs, r, ao, aZ, he, ab => by
  simp only [nx] at aZ
  split at aZ
  ·rename_i z Bc aa ap;cases aZ;simp only [qK] at ab
   split at ab
   ·rename_i off size xp;cases xc : Nat.beq size z.cells.length with
    | false => rw [xc] at ab; cases ab
    | true =>
     rw [xc] at ab;simp only [cond_true] at ab
     split at ab
     ·rename_i ar HD;have aZ : gS U ad W z (env x) := he (i, x) (by simp) _ aa;have oU := aZ.cells;obtain ⟨q1, q2⟩ := Av _ _ _ _ HD;have hs := hE xc;have zp : (env x).cells.size = z.cells.length := by have := oU.1; simp at this; exact this.symm
      have MY := ao.1;have mf := ao.er oU off q1;rw [q2] at mf;obtain ⟨us, g1, g2⟩ := y2 hp parts ar _ Bc r mf ap (fun p oP => he p (by simp [oP])) ab;refine ⟨us, ?_, g2⟩;simp only [lp, Instr.fill, hp i _ xp];rw [if_neg (by simp [zp, hs]; omega)];rw [← g1];congr 1;apply Array.ext';have := Mb off (env x).cells.toList 0 vs.toArray (by simp [zp]; omega);rw [← Array.foldl_toList, Array.toList_zipIdx];simpa using this
     ·cases ab
   ·cases ab
  ·cases aZ
theorem Ik {look : Operand → Option ai} : ∀ (parts : List (Nat × Operand)) (zs : List (Nat × bK)), nx look parts = some zs → ∀ p ∈ parts, ∃ z, look p.2 = some (.w z) ∧ (p.1, z) ∈ zs
 | [], _, _, p, hp => by cases hp
 | (i, x) :: parts, zs, h, p, hp => by
  simp only [nx] at h
  split at h
  ·rename_i z Bc aa ap;cases h;rcases hf.1 hp with rfl | hp
   ·exact ⟨z, aa, by simp⟩
   ·obtain ⟨agd, h1, h2⟩ := Ik parts Bc ap p hp;exact ⟨agd, h1, by simp [h2]⟩
  ·cases h
theorem Oi {look : Operand → Option ai} : ∀ (parts : List (Nat × Operand)) (zs : List (Nat × bK)), nx look parts = some zs → ∀ q ∈ zs, ∃ p ∈ parts, look p.2 = some (.w q.2)
 | [], _, h, q, al => by cases h; cases al
 | (i, x) :: parts, zs, h, q, al => by
  simp only [nx] at h
  split at h
  ·rename_i z Bc aa ap;cases h;rcases hf.1 al with rfl | al
   ·exact ⟨(i, x), by simp, aa⟩
   ·obtain ⟨p, h1, h2⟩ := Oi parts Bc ap q al;exact ⟨p, by simp [h1], h2⟩
  ·cases h
theorem adO {cs ds r : List AC} {off : Nat} (h : pf cs off ds = some r) : ∀ x ∈ r, x ∈ cs ∨ x ∈ ds := by
 obtain ⟨_, rfl⟩ := Av _ _ _ _ h;intro x aa;unfold er at aa;simp only [ms] at aa;rcases aa with (h1 | h1) | h1
 ·exact .inl (qd h1)
 ·exact .inr h1
 ·exact .inl (ob h1)
theorem K3 {ps : List (Nat × Nat)} : ∀ (zs : List (Nat × bK)) (cs r : List AC), qK ps cs zs = some r → ∀ x ∈ r, x ∈ cs ∨ ∃ q ∈ zs, x ∈ q.2.cells
 | [], cs, r, h, x, aa => by cases h; exact .inl aa
 | (i, z) :: zs, cs, r, h, x, aa => by
  simp only [qK] at h
  split at h
  ·rename_i off size xp;cases xc : Nat.beq size z.cells.length with
   | false => rw [xc] at h; cases h
   | true =>
    rw [xc] at h;simp only [cond_true] at h
    split at h
    ·rename_i ar HD;rcases K3 zs ar r h x aa with h1 | ⟨q, h1, h2⟩
     ·rcases adO HD x h1 with h2 | h2
      ·exact .inl h2
      ·exact .inr ⟨(i, z), by simp, h2⟩
     ·exact .inr ⟨q, by simp [h1], h2⟩
    ·cases h
  ·cases h
theorem QY {α β : Type} {f : α → Sem β} {W : World} : ∀ (l : List α) (vs : List β), l.length = vs.length → (∀ (i : Nat) x v, l[i]? = some x → vs[i]? = some v → (f x).run P W = .ok v W) → (l.mapM f).run P W = .ok vs W
 | [], [], _, _ => rfl
 | [], _ :: _, h, _ => by cases h
 | _ :: _, [], h, _ => by cases h
 | x :: l, v :: vs, ao, h => by
  have aI := h 0 x v rfl rfl;have cF := QY l vs (by simpa using ao) (fun i x v aa hv => h (i + 1) x v (by simpa using aa) (by simpa using hv));rw [List.mapM_cons];simp only [Sem.run_bind, aI, Result.andThen_ok, cF];rfl
theorem Ou {α β : Type} {f : α → Option β} : ∀ (l : List α) (vs : List β), l.mapM f = some vs → l.length = vs.length ∧ ∀ (i : Nat) x v, l[i]? = some x → vs[i]? = some v → f x = some v
 | [], vs, h => by cases h; exact ⟨rfl, fun i x v aa => by simp at aa⟩
 | a :: l, vs, h => by
  rw [List.mapM_cons] at h;cases aL : f a with
  | none => rw [aL] at h; cases h
  | some b =>
   rw [aL] at h;cases ao : l.mapM f with
   | none => rw [ao] at h; cases h
   | some bs =>
    rw [ao] at h;cases h;obtain ⟨h1, h2⟩ := Ou l bs ao;refine ⟨by simp [h1], fun i x v aa hv => ?_⟩;cases i with
    | zero => simp at aa hv; subst aa; subst hv; exact aL
    | succ i => exact h2 i x v (by simpa using aa) (by simpa using hv)
theorem TH {t : Nat} {parts : List (Nat × Operand)} {vs : List Value} {ps : List (Nat × Nat)} {zs : List (Nat × bK)} {r : List AC} [Z : BV P t vs] [L : J3 P t ps] (hw : want ops ⟨some d, .build t parts.toArray, ty, pos, after, guard⟩ s = some true) (aZ : nx s.look parts = some zs) (ab : qK ps (vs.map .c) zs = some r) (h1 : (vs.all fun v => v.oneCell') = true) (hd : Nat.blt d s.n = true) (h : bi P ops K rest (s.put (some d) (.w (.agg r)))) : bi P ops K (⟨some d, .build t parts.toArray, ty, pos, after, guard⟩ :: rest) s := by
 refine fY (av := .w (.agg r)) hw ⟨fun _ _ h => (by cases h), fun z zO => ?_, fun U ad W env he => ?_, fun j ae => ?_⟩ hd h
 ·simp only [Op.operands, List.mem_toArray, ix] at zO;obtain ⟨p, hp, rfl⟩ := zO;obtain ⟨z, h1, _⟩ := Ik parts zs aZ p hp;exact ⟨_, h1⟩
 ·have dP := Z.h;have hK := L.h;unfold zeroOf at dP;unfold Eo at hK;cases hi : P.info? t with
  | none => rw [hi] at dP; cases dP
  | some i =>
   rw [hi] at dP;simp only [kz] at dP;cases hP : i.zero with
   | none => rw [hP] at dP; cases dP
   | some z =>
    rw [hP] at dP;cases dP
    split at hK
    ·rename_i bm hu;obtain ⟨m1, m2⟩ := Ou _ _ hK;have sD : (zeroValue t).run P W = .ok z W := by simp [zeroValue, typeInfo, program, Sem.run_bind, Sem.run, hi, Result.andThen, hP]
     have oQ : (bm.mapM fun f => (do pure (f.offset, ← sizeOf f.type) : Sem (Nat × Nat))).run P W = .ok ps.toArray W := by
      rw [Array.mapM_eq_mapM_toList]
      have := QY (P := P) (W := W) (f := fun f : Field => (do pure (f.offset, ← sizeOf f.type) : Sem (Nat × Nat))) bm.toList ps m1 (fun j x v aa hv => by
       have := m2 j x v aa hv;cases Hk : P.info? x.type with
       | none => rw [Hk] at this; cases this
       | some eQ =>
        rw [Hk] at this;cases this;simp only [Sem.run_bind, hV Hk, Result.andThen_ok, Sem.run_pure])
      simp only [map_eq_pure_bind, Sem.run_bind, this, Result.andThen_ok, Sem.run_pure]
     have j0 : bZ U ad W (z.cells.toList.map .c) z.cells.toList := ⟨by simp, fun j x v aa hv => by
      rw [eJ, hv] at aa;cases aa;exact ⟨rfl, cC.1 h1 v (dJ hv)⟩⟩
     obtain ⟨us, g1, g2⟩ := y2 (U := U) (ad := ad) (W := W) (ps := ps) (place := fun i => ps.toArray[i]?) (fun i q h => by simpa using h) (look := s.look) (env := env) parts _ _ zs r j0 aZ (fun p hp a aL => he p.2 (by simp only [Op.operands, List.mem_toArray, ix]; exact ⟨p, hp, rfl⟩) a aL) ab;refine ⟨.agg us.toArray, ?_, us, rfl, g2⟩;have ub : (parts.toArray.map fun (i, x) => (i, env x)).toList = parts.map fun p => (p.1, env p.2) := by simp
     have uf : z.cells.toList.toArray = z.cells := by simp
     rw [uf] at g1;simp only [execOp, Instr.build, Sem.run_bind, sD, Result.andThen_ok, run_underlying hu, oQ, ub, g1, Sem.run_pure]
    ·rename_i n el hu;have sD : (zeroValue t).run P W = .ok z W := by simp [zeroValue, typeInfo, program, Sem.run_bind, Sem.run, hi, Result.andThen, hP]
     have j0 : bZ U ad W (z.cells.toList.map .c) z.cells.toList := ⟨by simp, fun j x v aa hv => by
      rw [eJ, hv] at aa;cases aa;exact ⟨rfl, cC.1 h1 v (dJ hv)⟩⟩
     cases aE : Nat.ble n 32 with
     | false => rw [aE] at hK; cases hK
     | true =>
      rw [aE] at hK;simp only [cond_true] at hK;cases Hj : P.info? el with
      | none => rw [Hj] at hK; cases hK
      | some eQ =>
       rw [Hj] at hK;simp only [hD, ib] at hK
       obtain ⟨us, g1, g2⟩ := y2 (U := U) (ad := ad) (W := W) (ps := ps) (place := fun i => some (i * eQ.size, eQ.size)) (fun i q h => by
        rw [← hK, eJ] at h;rcases jn i n with bj | lI
        ·rw [cl (by simpa using bj)] at h;simpa using h
        ·rw [rk (by simpa using lI)] at h;cases h) (look := s.look) (env := env) parts _ _ zs r j0 aZ (fun p hp a aL => he p.2 (by simp only [Op.operands, List.mem_toArray, ix]; exact ⟨p, hp, rfl⟩) a aL) ab
       refine ⟨.agg us.toArray, ?_, us, rfl, g2⟩;have ub : (parts.toArray.map fun (i, x) => (i, env x)).toList = parts.map fun p => (p.1, env p.2) := by simp
       have uf : z.cells.toList.toArray = z.cells := by simp
       rw [uf] at g1;simp only [execOp, Instr.build, Sem.run_bind, sD, Result.andThen_ok, run_underlying hu, hV Hj, ub, g1, Sem.run_pure]
    ·cases hK
 ·obtain ⟨y, ag, mg⟩ := ae;rcases K3 zs _ r ab y ag with h2 | ⟨q, h2, aq⟩
  ·obtain ⟨v, _, rfl⟩ := ix.1 h2; cases mg
  ·obtain ⟨p, hp, ao⟩ := Oi parts zs aZ q h2;exact ⟨p.2, by simp only [Op.operands, List.mem_toArray, ix]; exact ⟨p, hp, rfl⟩, _, ao, ⟨y, aq, mg⟩⟩
theorem KG {F6 : Builtin} {ts : Array TypeId} {x y : Operand} {iV fG v : Value} (hw : want ops ⟨some d, .call ⟨.builtin F6, #[x, y], ts⟩, ty, pos, after, guard⟩ s = some true) (aa : s.look x = some (aR iV)) (ag : s.look y = some (aR fG)) (ap : ∀ cs W, (builtin F6 ts ty cs #[iV, fG]).run P W = .ok (.value v) W) (h1 : v.oneCell' = true) (hd : Nat.blt d s.n = true) (h : bi P ops K rest (s.put (some d) (aR v))) : bi P ops K (⟨some d, .call ⟨.builtin F6, #[x, y], ts⟩, ty, pos, after, guard⟩ :: rest) s := by
 refine fY (av := aR v) hw ⟨fun _ _ h => (by cases h), fun z aZ => ?_, fun U ad W env he => ⟨v, ?_, ⟨rfl, h1⟩⟩, fun j ae => absurd ae (iJ v j)⟩ hd h
 ·simp [Op.operands, Call.operands] at aZ;rcases aZ with rfl | rfl
  ·exact ⟨_, aa⟩
  ·exact ⟨_, ag⟩
 ·have aG : env x = iV := (he x (by simp [Op.operands, Call.operands]) _ aa).1;have aO : env y = fG := (he y (by simp [Op.operands, Call.operands]) _ ag).1;have em : (#[x, y] : Array Operand).map env = #[iV, fG] := by simp [aG, aO]
  simp only [execOp, resolve, em, Sem.run_bind, Sem.run_pure, Result.andThen_ok, invoke, ap]
theorem gq {ts : Array TypeId} {x y : Operand} {k : IntKind} {a b : Int} (hw : want ops ⟨some d, .call ⟨.builtin .min, #[x, y], ts⟩, ty, pos, after, guard⟩ s = some true) (aa : s.look x = some (aR (.int k a))) (ag : s.look y = some (aR (.int k b))) (hd : Nat.blt d s.n = true) (h : bi P ops K rest (s.put (some d) (aR (.int k (if b < a then b else a))))) : bi P ops K (⟨some d, .call ⟨.builtin .min, #[x, y], ts⟩, ty, pos, after, guard⟩ :: rest) s :=
 KG hw aa ag (fun cs W => by go_simp; all_goals (first | rfl | (split <;> omega))) rfl hd h
theorem fX {ts : Array TypeId} {x y : Operand} {k : IntKind} {a b : Int} (hw : want ops ⟨some d, .call ⟨.builtin .max, #[x, y], ts⟩, ty, pos, after, guard⟩ s = some true) (aa : s.look x = some (aR (.int k a))) (ag : s.look y = some (aR (.int k b))) (hd : Nat.blt d s.n = true) (h : bi P ops K rest (s.put (some d) (aR (.int k (if b > a then b else a))))) : bi P ops K (⟨some d, .call ⟨.builtin .max, #[x, y], ts⟩, ty, pos, after, guard⟩ :: rest) s :=
 KG hw aa ag (fun cs W => by go_simp; all_goals (first | rfl | (split <;> omega))) rfl hd h
theorem TK {t : Nat} {b : Bool} {l : List Oper} (hs : s.tmps t = some (bD b)) (h1 : b = true → bi P ops K l (s.put (some t) (bD true))) (aI : b = false → bi P ops K l (s.put (some t) (bD false))) : bi P ops K l s := by
 have same : ∀ c, b = c → s.put (some t) (bD c) = s := fun c e => by
  subst e;simp only [aC.put];congr 1;funext j
  by_cases ae : j = t
  ·subst ae; rw [cy, hs]
  ·rw [ca _ _ ae]
 cases b with
 | true => rw [← same true rfl]; exact h1 rfl
 | false => rw [← same false rfl]; exact aI rfl
end
theorem bc : ([] : List ResultVar).map (iS P s) = ([] : List bK).map some := rfl
theorem bG {t : Nat} {x : bK} {l : List ResultVar} {xs : List bK} (h : s.tmps t = some (.w x)) (ao : l.map (iS P s) = xs.map some) : (ResultVar.tmp t :: l).map (iS P s) = (x :: xs).map some := by
 simp only [lp, ao]; rw [show iS P s (.tmp t) = some x by simp only [iS, h]]
theorem fj {a ty k off n : Nat} [T : gd P ty true n] {cs aU : List AC} {l : List ResultVar} {xs : List bK} (h : s.tmps a = some (nf k off)) (hm : s.mem k = some cs) (ak : takeN cs off n = some aU) (ao : l.map (iS P s) = xs.map some) : (ResultVar.cell a ty :: l).map (iS P s) = (.agg aU :: xs).map some := by
 simp only [lp, ao]; rw [show iS P s (.cell a ty) = some (.agg aU) by simp only [iS, h, hm, kz, Ru T.h ak]]
theorem bX {fn : Func} {l : List ResultVar} {xs : List bK} {r : ai} (ap : fn.results = l.toArray) (h : l.map (iS P s) = xs.map some) (hle : (packed xs).br r) : yB P fn r .ret s := ⟨xs, by rw [ap]; exact h, hle⟩
theorem ady {f : FuncId} {args : List ai} {r : ai} {kY : List Value} (he : args.map (fun x => match x with | .w y => nT y | _ => none) = kY.map some) (jR : ∀ x ∈ args, x.closed) (ct : r.closed)
  (h : ∀ W, Calls P f kY.toArray W fun e bq => ∃ v, e = .returned v ∧ (∀ U, (∀ b, W.heap.size ≤ b → U b) → di U id bq r v) ∧ Below W.heap.size W bq) : aT P f args r := by
 refine ⟨jR, ct, fun U W vs dT => ?_⟩
 have e : vs = kY := by
  apply List.ext_getElem?;intro i;have ao := dT.1;have nt : args.length = kY.length := by have := congrArg List.length he; simpa using this
  rcases jn i args.length with hi | hi
  ·have h1 : (args.map (fun x => match x with | .w y => nT y | _ => none))[i]? = (kY.map some)[i]? := by rw [he]
   rw [eJ, eJ, cl hi, cl (by omega : i < kY.length)] at h1;simp only [hD, ib] at h1;rw [cl (by omega : i < vs.length), cl (by omega : i < kY.length)];have h2 := dT.2 i args[i] vs[i] (cl hi) (cl (by omega));cases aa : args[i] with
   | w y =>
    rw [aa] at h1 h2;rw [CC h2 h1]
   | da xs => rw [aa] at h1; cases h1
  ·rw [rk (by omega), rk (by omega)]
 subst e;refine (h W).mono ?_;rintro e bq ⟨v, h1, h2, aq⟩;exact ⟨v, h1, h2 _ fun b ab => .inr ab, aq⟩
def AC.ba : AC → Bool
 | .own _ _ => false
 | _ => true
def bK.ba : bK → Bool
 | .one x => x.ba
 | .agg xs => xs.all AC.ba
def ai.ba : ai → Bool
 | .w x => x.ba
 | .da xs => xs.all bK.ba
theorem AC.dH {x : AC} (h : x.ba = true) (j : Nat) : ¬ x.owns j := by cases x <;> simp_all [AC.ba, AC.owns]
theorem bK.dH {x : bK} (h : x.ba = true) (j : Nat) : ¬ x.owns j := by
 rintro ⟨y, ag, ae⟩;cases x with
 | one z => simp [bK.cells] at ag; subst ag; exact AC.dH h j ae
 | agg xs => exact AC.dH (cC.1 h y ag) j ae
theorem ai.dH {x : ai} (h : x.ba = true) : x.closed := fun j => by
 cases x with
 | w y => exact bK.dH h j
 | da xs => rintro ⟨y, ag, ae⟩; exact bK.dH (cC.1 h y ag) j ae
theorem cd {f : FuncId} {fn : Func} {c : Code} {args : List ai} {r : ai} (au : P.funcs[f]? = some fn) (ab : fn.body = some c) (aE : Nat.ble args.length fn.ntmps = true) (jR : args.all ai.ba = true) (ct : r.ba = true)
  (h : fI P c (yB P fn r) (start fn.ntmps args)) : aT P f args r :=
 adz au ab (by simpa [Nat.ble_eq] using aE) (fun x aa => ai.dH (cC.1 jR x aa)) (ai.dH ct) h
theorem adx {f : FuncId} {fn : Func} {c : Code} {args : List ai} {r : ai} (au : P.funcs[f]? = some fn) (ab : fn.body = some c) (aE : Nat.ble args.length fn.ntmps = true) (jR : args.all ai.ba = true) (ct : r.ba = true)
  (h : te P c (yB P fn r) (start fn.ntmps args)) : aT P f args r :=
 P1 au ab (by simpa [Nat.ble_eq] using aE) (fun x aa => ai.dH (cC.1 jR x aa)) (ai.dH ct) h
theorem adB {f : FuncId} {args : List ai} {r : ai} (kY : List Value) (he : args.map (fun x => match x with | .w y => nT y | _ => none) = kY.map some) (jR : args.all ai.ba = true) (ct : r.ba = true)
  (h : ∀ W, Calls P f kY.toArray W fun e bq => ∃ v, e = .returned v ∧ (∀ U, (∀ b, W.heap.size ≤ b → U b) → di U id bq r v) ∧ Below W.heap.size W bq) : aT P f args r :=
 ady he (fun x aa => ai.dH (cC.1 jR x aa)) (ai.dH ct) h
theorem bJ {next : aC → Prop} {Q : Exit → aC → Prop} (h : next s) : r2 next Q .normal s := h
theorem qI {next : aC → Prop} {Q : Exit → aC → Prop} {id : Nat} (h : Q (.exit id) s) : r2 next Q (.exit id) s := h
theorem fL {next : aC → Prop} {Q : Exit → aC → Prop} (h : Q .ret s) : r2 next Q .ret s := h
theorem lA {Q : Exit → aC → Prop} {id : Nat} (h : Q .normal s) : tj id Q .normal s := h
theorem k4 {Q : Exit → aC → Prop} {id : Nat} (h : Q .ret s) : tj id Q .ret s := h
theorem qC {Q : Exit → aC → Prop} {id : Nat} (h : Q .normal s) : tj id Q (.exit id) s := by simp only [tj, Nat.beq_refl, cond_true]; exact h
theorem FP {Q : Exit → aC → Prop} {id mQ : Nat} (ck : Nat.beq mQ id = false) (h : Q (.exit mQ) s) : tj id Q (.exit mQ) s := by simp only [tj, ck, cond_false]; exact h
theorem bW {dst : Option Nat} {op : Op} {ty : Nat} {pos : String} {after : Array Edge} {g t : Nat} {b KV c : Bool} (hd : (ops[g]?).bind (·.dst) = some t) (hs : s.tmps t = some (bD KV)) (ab : KV = c)
  (h1 : bi P ops K (⟨dst, op, ty, pos, after, some (g, b)⟩ :: rest) (s.put (some t) (bD c))) : bi P ops K (⟨dst, op, ty, pos, after, some (g, b)⟩ :: rest) s := by
 subst ab;exact TK hs (fun e => by subst e; exact h1) (fun e => by subst e; exact h1)
theorem KR {c : Operand} {t u : Bool} {x y : Code} {Q : Exit → aC → Prop} (ak : s.look c = some (bD t)) (aD : t = u) (h : fI P (bif u then x else y) Q s) : fI P (.cond c x y) Q s := by
 subst aD;cases t with
 | true => exact ik ak h
 | false => exact gU ak h
theorem fZ {c : Operand} {t : Bool} {x y : Code} {Q : Exit → aC → Prop} (ak : s.look c = some (bD t)) (aD : t = true) (h : fI P x Q s) : fI P (.cond c x y) Q s := KR ak aD h
theorem gT {c : Operand} {t : Bool} {x y : Code} {Q : Exit → aC → Prop} (ak : s.look c = some (bD t)) (aD : t = false) (h : fI P y Q s) : fI P (.cond c x y) Q s := KR ak aD h
end
abbrev bh (x y : Int) : ai := .w (.agg [.c (.int .i64 x), .c (.int .i64 y)])
def GB (w : World) : AC → Value → Nat → Prop
 | .p R, x, b => R.lG w x b
 | _, _, _ => False
theorem ys (a : Addr) (m j : Nat) : (a.add m).add j = a.add (m + j) := by unfold Addr.add; grind
theorem block_add (a : Addr) (m : Nat) : (a.add m).block = a.block := by unfold Addr.add; split <;> rfl
structure k0 (w : World) (a : Addr) (xs : List AC) (vs : List Value) : Prop where
 lt : a.block < w.heap.size
 oh : bZ (fun _ => True) id w xs vs
 at_ : ∀ (j : Nat) v, vs[j]? = some v → w.cell? (a.add j) = some v
 pH : ∀ y ∈ xs, y.ba = true
def nn (w : World) (a : Addr) (xs : List AC) (b : Nat) : Prop := a.block = b ∨ ∃ (j : Nat) (y : AC) (v : Value), xs[j]? = some y ∧ w.cell? (a.add j) = some v ∧ GB w y v b
theorem k0.frame {w w' : World} {a : Addr} {xs : List AC} {vs : List Value} (h : k0 w a xs vs) (au : ∀ b, nn w a xs b → w'.heap[b]? = w.heap[b]?) : k0 w' a xs vs ∧ ∀ b, nn w' a xs b → nn w a xs b := by
 have ab : w'.heap[a.block]? = w.heap[a.block]? := au _ (.inl rfl);have ak : ∀ j, w'.cell? (a.add j) = w.cell? (a.add j) := fun j => World.cell?_of_block (w := w) (by rw [block_add]; exact ab)
 have key : ∀ (j : Nat) (y : AC) (v : Value), xs[j]? = some y → w.cell? (a.add j) = some v → gI (fun _ => True) id w y v → gI (fun _ => True) id w' y v ∧ ∀ b, GB w' y v b → GB w y v b := by
  intro j y v ag hv ap;cases y with
  | c u => exact ⟨ap, fun b h => h⟩
  | own k o => exact ⟨ap, fun b h => h⟩
  | p R =>
   have := R.frame w w' v ap.1 fun b ab => au b (.inr ⟨j, _, v, ag, hv, ab⟩);exact ⟨⟨this.1, fun _ _ => trivial⟩, this.2⟩
 refine ⟨⟨?_, ⟨h.oh.1, fun i y v ag hv => (key i y v ag (h.at_ i v hv) (h.oh.2 i y v ag hv)).1⟩, fun j v hv => by rw [ak]; exact h.at_ j v hv, h.pH⟩, ?_⟩
 ·have cO := Array.getElem?_eq_getElem h.lt;exact (ln.1 (ab.trans cO)).1
 ·rintro b (h1 | ⟨j, y, v, ag, hv, gC⟩)
  ·exact .inl h1
  ·rw [ak] at hv;have bj : j < vs.length := by rw [← h.oh.1]; exact (bV.1 ag).1
   have h2 := h.at_ j _ (cl bj);rw [hv] at h2;cases h2;exact .inr ⟨j, y, _, ag, hv, (key j y _ ag hv (h.oh.2 j y _ ag (cl bj))).2 b gC⟩
theorem k0.iM {w : World} {a : Addr} {xs : List AC} {vs : List Value} {b : Nat} (h : k0 w a xs vs) (au : nn w a xs b) : b < w.heap.size := by
 rcases au with rfl | ⟨j, y, v, ag, hv, gC⟩
 ·exact h.lt
 ·have bj : j < vs.length := by rw [← h.oh.1]; exact (bV.1 ag).1
  have h2 := h.at_ j _ (cl bj);rw [hv] at h2;cases h2;have := h.oh.2 j y _ ag (cl bj);cases y with
  | c u => cases gC
  | own k o => cases gC
  | p R => exact R.iM _ _ _ this.1 gC
theorem k0.sub {w : World} {a : Addr} {xs : List AC} {vs : List Value} (h : k0 w a xs vs) (off n : Nat) : k0 w (a.add off) ((xs.drop off).take n) ((vs.drop off).take n) := by
 refine ⟨by rw [block_add]; exact h.lt, h.oh.sub off n, fun j v hv => ?_, fun y ag => h.pH y (ob (qd ag))⟩;rw [ys]
 have ae : j < n := by
  have := (bV.1 hv).1;simp at this; omega
 rw [gm ae, gF] at hv;exact h.at_ _ v hv
theorem nn.sub {w : World} {a : Addr} {xs : List AC} {off n b : Nat} (h : nn w (a.add off) ((xs.drop off).take n) b) : nn w a xs b := by
 rcases h with h | ⟨j, y, v, ag, hv, gC⟩
 ·rw [block_add] at h; exact .inl h
 ·rw [ys] at hv
  have ae : j < n := by
   have := (bV.1 ag).1;simp at this; omega
  rw [gm ae, gF] at ag;exact .inr ⟨_, y, v, ag, hv, gC⟩
theorem k0.Je {w : World} {a : Addr} {xs : List AC} {vs : List Value} {U : Nat → Prop} {ad : Nat → Nat} (h : k0 w a xs vs) (dI : ∀ b, nn w a xs b → U b) : bZ U ad w xs vs := by
 refine ⟨h.oh.1, fun i y v ag hv => ?_⟩;have h1 := h.oh.2 i y v ag hv;have h2 := h.pH y (dJ ag);cases y with
 | c u => exact h1
 | own k o => cases h2
 | p R => exact ⟨h1.1, fun b ab => dI b (.inr ⟨i, _, v, ag, h.at_ i v hv, ab⟩)⟩
def FA (xs : List AC) : fm where
 holds w v := ∃ a vs, v = .pointer (some a) ∧ k0 w a xs vs
 lG w v b := ∃ a, v = .pointer (some a) ∧ nn w a xs b
 frame w w' v := by
  rintro ⟨a, vs, rfl, h⟩ au;obtain ⟨h1, h2⟩ := h.frame fun b ab => au b ⟨a, rfl, ab⟩;exact ⟨⟨a, vs, rfl, h1⟩, fun b ⟨a', e, ab⟩ => by cases e; exact ⟨a, rfl, h2 b ab⟩⟩
 iM w v b := by
  rintro ⟨a, vs, rfl, h⟩ ⟨a', e, ab⟩;cases e;exact h.iM ab
 cell w v := by rintro ⟨a, vs, rfl, h⟩; rfl
def cA (sz n : Nat) (xs : List AC) : fm where
 holds w v := ∃ A c, v = .slice A n c ∧ n ≤ c ∧ xs.length = n * sz ∧ (0 < n → ∃ a vs, A = some a ∧ k0 w a xs vs)
 lG w v b := ∃ c a, v = .slice (some a) n c ∧ 0 < n ∧ nn w a xs b
 frame w w' v := by
  rintro ⟨A, c, rfl, ak, ao, h⟩ au;refine ⟨⟨A, c, rfl, ak, ao, fun aE => ?_⟩, ?_⟩
  ·obtain ⟨a, vs, rfl, aF⟩ := h aE;exact ⟨a, vs, rfl, (aF.frame fun b ab => au b ⟨c, a, rfl, aE, ab⟩).1⟩
  ·rintro b ⟨c', a', e, aE, ab⟩;cases e;obtain ⟨a, vs, e, aF⟩ := h aE;cases e;exact ⟨c, a', rfl, aE, (aF.frame fun b ab => au b ⟨c, a', rfl, aE, ab⟩).2 b ab⟩
 iM w v b := by
  rintro ⟨A, c, rfl, ak, ao, h⟩ ⟨c', a', e, aE, ab⟩;cases e;obtain ⟨a, vs, e, aF⟩ := h aE;cases e;exact aF.iM ab
 cell w v := by rintro ⟨A, c, rfl, _⟩; rfl
abbrev cU (sz n : Nat) (xs : List AC) : ai := .w (.one (.p (cA sz n xs)))
abbrev A6 (xs : List AC) : ai := .w (.one (.p (FA xs)))
theorem lP (R : fm) (j : Nat) : ¬ (ai.w (.one (.p R))).owns j := fun ⟨y, ag, h⟩ => by simp [bK.cells] at ag; subst ag; cases h
section
variable {P : Program} {s : aC} {o : Oper} {ops : Array Oper} {K : aC → Prop} {rest : List Oper} {op : Op} {ty : Nat} {pos : String} {after : Array Edge} {guard : Option (Nat × Bool)} {d : Nat}
theorem FW {av : ai} (hw : want ops ⟨some d, op, ty, pos, after, guard⟩ s = some true) (al : wz P s.look ⟨some d, op, ty, pos, after, guard⟩ av) (hd : Nat.blt d s.n = true) (h : bi P ops K rest (s.put (some d) av)) : bi P ops K (⟨some d, op, ty, pos, after, guard⟩ :: rest) s :=
 qG (e := ⟨av, none⟩) hw (.fresh av al) (k9 hd) h
theorem nc {t sz : Nat} (h : s7 P t = some sz) : ∃ e i, P.underlying t = some (.slice e) ∧ P.info? e = some i ∧ i.size = sz := by
 unfold s7 at h
 split at h
 ·rename_i e hu;cases hi : P.info? e with
  | none => rw [hi] at h; cases h
  | some i => rw [hi] at h; cases h; exact ⟨e, i, hu, hi, rfl⟩
 ·cases h
theorem kL {t e : Nat} (h : P.underlying t = some (.slice e)) : P.elem t = e := by simp [Program.elem, h]
theorem cx {t sz afz n : Nat} {xs : List AC} {x : Operand} [S : iC P t afz] (hw : want ops ⟨some d, .call ⟨.builtin .len, #[x], #[t]⟩, ty, pos, after, guard⟩ s = some true) (aa : s.look x = some (cU sz n xs)) (hd : Nat.blt d s.n = true)
  (h : bi P ops K rest (s.put (some d) (aV n))) : bi P ops K (⟨some d, .call ⟨.builtin .len, #[x], #[t]⟩, ty, pos, after, guard⟩ :: rest) s := by
 refine fY (av := aV n) hw ⟨fun _ _ h => (by cases h), fun y ag => ?_, fun U ad W env he => ⟨.int .i64 n, ?_, rfl, rfl⟩, fun j ae => absurd ae (iJ _ j)⟩ hd h
 ·simp [Op.operands, Call.operands] at ag;subst ag;exact ⟨_, aa⟩
 ·obtain ⟨⟨A, c, aG, _⟩, _⟩ := he x (by simp [Op.operands, Call.operands]) _ aa;obtain ⟨e, i, hu, hi, _⟩ := nc S.h;have fr : P.underlying t = some (.slice (P.elem t)) := by rw [kL hu]; exact hu
  have em : (#[x] : Array Operand).map env = #[.slice A n c] := by simp [aG]
  simp only [execOp, resolve, em, Sem.run_bind, Sem.run_pure, Result.andThen_ok, invoke, builtin];rw [run_len_slice W t ty A n c fr];rfl
theorem dC {x y : Operand} {t sz n : Nat} {ha : IntKind} {i : Int} {xs aU : List AC} [S : iC P t sz] (hw : want ops ⟨some d, .indexAddr t x y, ty, pos, after, guard⟩ s = some true) (aa : s.look x = some (cU sz n xs)) (ag : s.look y = some (aR (.int ha i))) (aI : 0 ≤ i) (h1 : i < n)
  (he : (xs.drop (i.toNat * sz)).take sz = aU) (hd : Nat.blt d s.n = true) (h : bi P ops K rest (s.put (some d) (A6 aU))) : bi P ops K (⟨some d, .indexAddr t x y, ty, pos, after, guard⟩ :: rest) s := by
 subst he;refine fY hw ⟨fun _ _ h => (by cases h), fun z aZ => ?_, fun U ad W env he => ?_, fun j ae => absurd ae (lP _ j)⟩ hd h
 ·simp [Op.operands] at aZ;rcases aZ with rfl | rfl
  ·exact ⟨_, aa⟩
  ·exact ⟨_, ag⟩
 ·obtain ⟨⟨A, c, aG, ak, ao, dO⟩, dI⟩ := he x (by simp [Op.operands]) _ aa;have hi : env y = .int ha i := (he y (by simp [Op.operands]) _ ag).1;obtain ⟨e, eQ, hu, dq, hs⟩ := nc S.h;obtain ⟨a, vs, rfl, eg⟩ := dO (by omega);refine ⟨.pointer (some (a.add (i.toNat * sz))), ?_, ⟨_, _, rfl, eg.sub _ _⟩, ?_⟩
  ·simp only [execOp, Instr.indexAt, aG, hi, asIntOf, Sem.run_bind, Sem.run_pure, Result.andThen_ok, run_underlying hu, hV dq, if_pos (And.intro aI h1), hs]
  ·rintro b ⟨a', e, ab⟩;cases e;exact dI b ⟨c, a, aG, by omega, ab.sub⟩
theorem fQ {x : Operand} {qq i im : Nat} {xs : List AC} [F : mx P qq i im] (hw : want ops ⟨some d, .fieldAddr qq x i, ty, pos, after, guard⟩ s = some true) (aa : s.look x = some (A6 xs)) (hd : Nat.blt d s.n = true) (h : bi P ops K rest (s.put (some d) (A6 (xs.drop im)))) : bi P ops K (⟨some d, .fieldAddr qq x i, ty, pos, after, guard⟩ :: rest) s := by
 refine fY hw ⟨fun _ _ h => (by cases h), fun y ag => ?_, fun U ad W env he => ?_, fun j ae => absurd ae (lP _ j)⟩ hd h
 ·simp [Op.operands] at ag;subst ag;exact ⟨_, aa⟩
 ·obtain ⟨⟨a, vs, aG, eg⟩, dI⟩ := he x (by simp [Op.operands]) _ aa;have hF := F.h;unfold tL at hF
  split at hF
  ·rename_i bm hu;cases au : bm[i]? with
   | none => rw [au] at hF; cases hF
   | some f =>
    rw [au] at hF;simp only [kz] at hF;cases hi : P.info? f.type with
    | none => rw [hi] at hF; cases hF
    | some t =>
     rw [hi] at hF;simp only [kz] at hF
     split at hF
     ·cases hF
     ·rename_i ck;cases hF;have vD := eg.sub f.offset xs.length;rw [iy (by simp), iy (by have := eg.oh.1; simp; omega)] at vD;refine ⟨.pointer (some (a.add f.offset)), ?_, ⟨_, _, rfl, vD⟩, ?_⟩
      ·simp only [execOp, Instr.fieldAt, aG, Instr.sureAddr, Sem.run_bind, Sem.run_pure, Result.andThen_ok, run_underlying hu, au, fieldPlace, hV hi, if_neg ck]
      ·rintro b ⟨a', e, ab⟩;cases e;refine dI b ⟨a, aG, nn.sub (off := f.offset) (n := xs.length) ?_⟩;rw [iy (by simp)];exact ab
  ·cases hF
theorem e9 {x : Operand} {lt n : Nat} {xs : List AC} {y : AC} [T : gd P lt false n] (hw : want ops ⟨some d, .load lt x, ty, pos, after, guard⟩ s = some true) (aa : s.look x = some (A6 xs)) (ak : xs[0]? = some y) (cW : y.ba = true) (hd : Nat.blt d s.n = true) (h : bi P ops K rest (s.put (some d) (.w (.one y)))) : bi P ops K (⟨some d, .load lt x, ty, pos, after, guard⟩ :: rest) s := by
 refine fY hw ⟨fun _ _ h => (by cases h), fun y ag => ?_, fun U ad W env he => ?_, fun j ae => ?_⟩ hd h
 ·simp [Op.operands] at ag;subst ag;exact ⟨_, aa⟩
 ·obtain ⟨⟨a, vs, aG, eg⟩, dI⟩ := he x (by simp [Op.operands]) _ aa;have ap := eg.Je (U := U) (ad := ad) fun b ab => dI b ⟨a, aG, ab⟩;have bj : 0 < vs.length := by rw [← ap.1]; exact (bV.1 ak).1
  have hv := cl bj;refine ⟨_, ?_, ap.2 0 y _ ak hv⟩;have en := T.h;have nX : W.cell? a = some vs[0] := eg.at_ 0 _ hv;unfold kE at en;cases hu : P.underlying lt with
  | none => rw [hu] at en; cases en
  | some D =>
   have key : (loadVar lt a).run P W = .ok vs[0] W := by
    refine Jh hu (fun bm e => ?_) (fun m bz e => ?_) nX
    ·subst e;cases hi : P.info? lt with
     | none => simp [hu, hi] at en
     | some eQ => simp [hu, hi] at en
    ·subst e;cases hi : P.info? lt with
     | none => simp [hu, hi] at en
     | some eQ => simp [hu, hi] at en
   simp only [execOp, Instr.loadAt, aG, Instr.sureAddr, Sem.run_bind, Sem.run_pure, Result.andThen_ok, key]
 ·exact absurd ae (ai.dH (x := .w (.one y)) cW j)
theorem ed {x : Operand} {lt n : Nat} {xs aU : List AC} [T : gd P lt true n] (hw : want ops ⟨some d, .load lt x, ty, pos, after, guard⟩ s = some true) (aa : s.look x = some (A6 xs)) (ak : takeN xs 0 n = some aU) (cW : (bK.agg aU).ba = true) (hd : Nat.blt d s.n = true) (h : bi P ops K rest (s.put (some d) (.w (.agg aU)))) : bi P ops K (⟨some d, .load lt x, ty, pos, after, guard⟩ :: rest) s := by
 refine fY hw ⟨fun _ _ h => (by cases h), fun y ag => ?_, fun U ad W env he => ?_, fun j ae => ?_⟩ hd h
 ·simp [Op.operands] at ag;subst ag;exact ⟨_, aa⟩
 ·obtain ⟨⟨a, vs, aG, eg⟩, dI⟩ := he x (by simp [Op.operands]) _ aa;obtain ⟨q1, q2⟩ := E3 _ _ _ _ ak;have vD := eg.sub 0 n;have ap := vD.Je (U := U) (ad := ad) fun b ab => dI b ⟨a, aG, nn.sub ab⟩;rw [q2] at ap;have aL : a.add 0 = a := rfl;refine ⟨.agg ((vs.drop 0).take n).toArray, ?_, _, rfl, ap⟩;have en := T.h;unfold kE at en;have hlen : ((vs.drop 0).take n).length = n := by have := eg.oh.1; simp; omega
  have nX := vD.at_;rw [aL] at nX;cases hu : P.underlying lt with
  | none => rw [hu] at en; cases en
  | some D =>
   cases hi : P.info? lt with
   | none => rw [hu, hi] at en; cases D <;> cases en
   | some eQ =>
    rw [hu, hi] at en;have key : ((∃ bm, D = .struct bm) ∨ ∃ n e, D = .array n e) ∧ eQ.size = n := by cases D <;> simp at en <;> simp [en]
    have := Jg (P := P) (w := W) (A := a) hu key.1 hi (by rw [hlen, key.2]) nX;simp only [execOp, Instr.loadAt, aG, Instr.sureAddr, Sem.run_bind, Sem.run_pure, Result.andThen_ok, this]
 ·exact absurd ae (ai.dH (x := .w (.agg aU)) cW j)
def xY (P : Program) (t : TypeId) : Option (List Value) :=
 match P.underlying t with
 | some (.slice e) => zeroOf P e
 | _ => none
class pB (P : Program) (t : TypeId) (vs : outParam (List Value)) : Prop where
 h : xY P t = some vs
def ih (n sz : Nat) (vs : List Value) : List AC := (List.range (n * sz)).map fun j => .c (vs.toArray[j % vs.length]!)
def xN (n sz : Nat) : List (Nat × Nat) := (List.range n).map fun i => (i * sz, sz)
theorem Uc {w : World} {s4 : List AC} {us : List Value} {ty : TypeId} {U : Nat → Prop} {ad : Nat → Nat} (h : bZ U ad w s4 us) (cW : ∀ y ∈ s4, y.ba = true) : k0 (w.alloc (.cells us.toArray ty)) ⟨w.heap.size, 0, none⟩ s4 us := by
 refine ⟨by show w.heap.size < (w.heap.push _).size; simp, ⟨h.1, fun i y v ag hv => ?_⟩, fun j v hv => ?_, cW⟩
 ·refine (h.2 i y v ag hv).map (fun b ab ao => ⟨trivial, Below.heap_alloc _ _ _ ao⟩) fun j ae => ?_;exact absurd ae (AC.dH (cW y (dJ ag)) j)
 ·have kP : (⟨w.heap.size, 0, none⟩ : Addr).add j = ⟨w.heap.size, j, none⟩ := by unfold Addr.add; split <;> simp_all
  rw [kP];have : (w.alloc (.cells us.toArray ty)).heap[w.heap.size]? = some (.cells us.toArray ty (0, 0)) := by show (w.heap.push _)[w.heap.size]? = _; simp
  simp only [World.cell?, this];simpa using hv
theorem Ud {w : World} {s4 : List AC} {us : List Value} {ty : TypeId} {U : Nat → Prop} {ad : Nat → Nat} {b : Nat} (h : bZ U ad w s4 us) (au : nn (w.alloc (.cells us.toArray ty)) ⟨w.heap.size, 0, none⟩ s4 b) : U b ∨ w.heap.size ≤ b := by
 rcases au with rfl | ⟨j, y, v, ag, hv, gC⟩
 ·exact .inr (dU _)
 ·have kP : (⟨w.heap.size, 0, none⟩ : Addr).add j = ⟨w.heap.size, j, none⟩ := by unfold Addr.add; split <;> simp_all
  rw [kP] at hv;have : (w.alloc (.cells us.toArray ty)).heap[w.heap.size]? = some (.cells us.toArray ty (0, 0)) := by show (w.heap.push _)[w.heap.size]? = _; simp
  simp only [World.cell?, this] at hv;have b8 : us[j]? = some v := by simpa using hv
  have ap := h.2 j y v ag b8;cases y with
  | c u => cases gC
  | own k o => cases gC
  | p R =>
   refine .inl (ap.2 b ?_);exact (R.frame w _ v ap.1 fun bT du => Below.heap_alloc _ _ _ (R.iM _ _ _ ap.1 du)).2 b gC
theorem nk {t n sz : Nat} {parts : List (Nat × Operand)} {vs : List Value} {zs : List (Nat × bK)} {r : List AC} [S : iC P t sz] [Z : pB P t vs] (hw : want ops ⟨some d, .buildSlice t n parts.toArray, ty, pos, after, guard⟩ s = some true) (aZ : nx s.look parts = some zs) (ab : qK (xN n sz) (ih n sz vs) zs = some r)
  (h1 : (vs.all fun v => v.oneCell') = true) (hs : Nat.beq vs.length sz = true) (aI : Nat.blt 0 (n * sz) = true) (h2 : Nat.ble (n * sz) 16777216 = true) (ap : Nat.beq r.length (n * sz) = true) (cW : r.all AC.ba = true) (hd : Nat.blt d s.n = true) (h : bi P ops K rest (s.put (some d) (cU sz n r))) : bi P ops K (⟨some d, .buildSlice t n parts.toArray, ty, pos, after, guard⟩ :: rest) s := by
 refine FW (av := cU sz n r) hw ⟨fun z zO => ?_, fun j ae => lP _ j ae, fun U ad W env he => ?_⟩ hd h
 ·simp only [Op.operands, List.mem_toArray, ix] at zO;obtain ⟨p, hp, rfl⟩ := zO;obtain ⟨z, h1, _⟩ := Ik parts zs aZ p hp;exact ⟨_, h1⟩
 ·obtain ⟨e, i, hu, hi, b0⟩ := nc S.h;have dP := Z.h;unfold xY at dP;rw [hu] at dP;simp only at dP;unfold zeroOf at dP;rw [hi] at dP;simp only [kz] at dP;cases hP : i.zero with
  | none => rw [hP] at dP; cases dP
  | some z =>
   rw [hP] at dP;cases dP;have hlen : z.cells.toList.length = sz := hE hs;have y5 : 0 < n * sz := by simpa [Nat.blt_eq] using aI
   have w8 : n * sz ≤ 16777216 := by simpa [Nat.ble_eq] using h2
   have Di : r.length = n * sz := hE ap;have sk : ∀ y ∈ r, y.ba = true := cC.1 cW;have sD : (zeroValue e).run P W = .ok z W := by simp [zeroValue, typeInfo, program, Sem.run_bind, Sem.run, hi, Result.andThen, hP]
   have j0 : bZ U ad W (ih n sz z.cells.toList) ((List.range (n * sz)).map fun j => z.cells[j % z.cells.size]!) := by
    refine ⟨by simp [ih], fun j x v aa hv => ?_⟩;have ae : j < n * sz := by have := (bV.1 hv).1; simpa using this
    simp only [ih, eJ, List.getElem?_range ae, hD, ib] at aa hv;subst aa; subst hv;have vE : z.cells.size = sz := by simpa using hlen
    have HC : 0 < sz := Nat.pos_of_mul_pos_left y5 |> fun h => by
     rcases vW sz with q | q
     ·rw [q] at y5; simp at y5
     ·exact q
    have bj : j % z.cells.size < z.cells.size := Nat.mod_lt _ (by omega);have aO : z.cells.toList.toArray[j % z.cells.toList.length]! = z.cells[j % z.cells.size]! := by simp
    refine ⟨aO.symm, ?_⟩;rw [aO, getElem!_pos z.cells _ bj];exact cC.1 h1 _ (by simp)
   obtain ⟨us, g1, g2⟩ := y2 (U := U) (ad := ad) (W := W) (ps := xN n sz) (place := fun i => some (i * sz, sz)) (fun i q al => by
     simp only [xN, eJ] at al;cases ap : (List.range n)[i]? with
     | none => rw [ap] at al; cases al
     | some m =>
      rw [ap] at al;cases al;have := bV.1 ap;obtain ⟨aq, aK⟩ := this;simp at aK;rw [aK]) (look := s.look) (env := env) parts _ _ zs r j0 aZ (fun p hp a aL => he p.2 (by simp only [Op.operands, List.mem_toArray, ix]; exact ⟨p, hp, rfl⟩) a aL) ab
   refine ⟨.slice (some ⟨W.heap.size, 0, none⟩) n n, W.alloc (.cells us.toArray e), ?_, ⟨⟨some ⟨W.heap.size, 0, none⟩, n, rfl, dU _, Di, fun aE => ⟨_, us, rfl, Uc g2 sk⟩⟩, ?_⟩, (Below.refl _ _).alloc (dU _) _⟩
   ·have ub : (parts.toArray.map fun (i, x) => (i, env x)).toList = parts.map fun p => (p.1, env p.2) := by simp
    have cz : (Array.range (n * sz)).map (fun j => z.cells[j % z.cells.size]!) = ((List.range (n * sz)).map fun j => z.cells[j % z.cells.size]!).toArray := by simp [← List.toArray_range]
    simp only [execOp, Instr.buildSlice, Sem.run_bind, run_underlying hu, Result.andThen_ok, hV hi, b0];rw [if_neg (by omega), if_neg (by omega)];simp only [Sem.run_bind, Sem.run_pure, sD, Result.andThen_ok, cz, ub, g1, newRow, newObj, Sem.run];rfl
   ·rintro b ⟨c, a, e, aE, ab⟩;cases e;exact Ud g2 ab
end
def kv {α : Type} : List (Nat × α) → Nat → Option α
 | [], _ => none
 | (k, v) :: r, t => bif Nat.beq t k then some v else kv r t
def ul (n : Nat) (ts : List (Nat × ai)) (bw : List (Nat × List AC)) : aC := ⟨n, kv ts, kv bw⟩
def oA {α : Type} (f : Nat → Option α) : List (Nat × α) → Prop
 | [] => True
 | (k, v) :: r => f k = some v ∧ oA f r
theorem F0 {α : Type} {f : Nat → Option α} : ∀ (l : List (Nat × α)), oA f l → ∀ t v, kv l t = some v → f t = some v
 | [], _, t, v, h => by cases h
 | (k, u) :: r, aL, t, v, h => by
  simp only [kv] at h;cases ab : Nat.beq t k with
  | true => rw [ab] at h; cases h; rw [hE ab]; exact aL.1
  | false => rw [ab] at h; exact F0 r aL.2 t v h
theorem DU {s : aC} {n : Nat} {ts : List (Nat × ai)} {bw : List (Nat × List AC)} (aE : n = s.n) (aD : oA s.tmps ts) (hm : oA s.mem bw) : s.br (ul n ts bw) :=
 ⟨aE, F0 ts aD, F0 bw hm⟩
def DG {α : Type} (bw : List (Nat × α)) (k : Nat) : Bool := bw.any fun p => Nat.beq k p.1
def yr (bw : List (Nat × List AC)) : AC → Bool
 | .own k _ => DG bw k
 | _ => true
def Ui (bw : List (Nat × List AC)) : ai → Bool
 | .w x => x.cells.all (yr bw)
 | .da xs => xs.all fun x => x.cells.all (yr bw)
def okB (ts : List (Nat × ai)) (bw : List (Nat × List AC)) : Bool := ts.all (fun p => Ui bw p.2) && bw.all fun p => p.2.all (yr bw)
theorem N7 {α : Type} {k : Nat} : ∀ (bw : List (Nat × α)), DG bw k = true → ∃ v, kv bw k = some v
 | [], h => by cases h
 | (j, u) :: r, h => by
  simp only [DG, List.any_cons, rl] at h;simp only [kv];cases ab : Nat.beq k j with
  | true => exact ⟨u, rfl⟩
  | false => rw [ab] at h; exact N7 r (by simpa [DG] using h)
theorem Ii {α : Type} {k : Nat} {v : α} : ∀ (bw : List (Nat × α)), kv bw k = some v → (k, v) ∈ bw
 | [], h => by cases h
 | (j, u) :: r, h => by
  simp only [kv] at h;cases ab : Nat.beq k j with
  | true => rw [ab] at h; cases h; rw [hE ab]; simp
  | false => rw [ab] at h; exact qc _ (Ii r h)
theorem FQ {bw : List (Nat × List AC)} {x : AC} {j : Nat} (h : yr bw x = true) (ae : x.owns j) : ∃ cs, kv bw j = some cs := by
 cases x with
 | c v => cases ae
 | p R => cases ae
 | own k o => cases ae; exact N7 bw h
theorem Is {n : Nat} {ts : List (Nat × ai)} {bw : List (Nat × List AC)} (h : okB ts bw = true) : (ul n ts bw).cV := by
 unfold okB at h;rw [eo] at h;refine ⟨fun t av j aD ae => ?_, fun k cs x j af aa ae => ?_⟩
 ·have h1 := cC.1 h.1 _ (Ii ts aD);cases av with
  | w x =>
   obtain ⟨y, ag, mg⟩ := ae;exact FQ (cC.1 h1 y ag) mg
  | da xs =>
   obtain ⟨z, aZ, y, ag, mg⟩ := ae;exact FQ (cC.1 (cC.1 h1 z aZ) y ag) mg
 ·have h1 := cC.1 h.2 _ (Ii bw af);exact FQ (cC.1 h1 x aa) ae
section
variable {P : Program} {s : aC} {x : Code}
theorem wL {Q : Exit → aC → Prop} (N : Nat) (I : Nat → List (Nat × ai) → List (Nat × List AC) → Prop) (k : Nat) (ts : List (Nat × ai)) (bw : List (Nat × List AC)) (bu : I k ts bw) (aE : N = s.n) (aD : oA s.tmps ts) (hm : oA s.mem bw) (ok : okB ts bw = true)
  (round : ∀ k ts bw, I k ts bw → okB ts bw = true → fI P x (r2 (fun s' => ∃ k' ol o4, k' < k ∧ I k' ol o4 ∧ N = s'.n ∧ oA s'.tmps ol ∧ oA s'.mem o4 ∧ okB ol o4 = true) Q) (ul N ts bw)) : fI P (.loop x) Q s := by
 refine KS (fun k s => ∃ ts bw, I k ts bw ∧ okB ts bw = true ∧ s = ul N ts bw) k (ul N ts bw) (DU aE aD hm) (Is ok) ⟨ts, bw, bu, ok, rfl⟩ ?_;rintro k s ⟨ts, bw, bu, ok, rfl⟩;intro dN B A ad a w aA;refine tc (round k ts bw bu ok dN B A ad a w aA) ?_;rintro e a' w' ⟨s', bf, vR, cE, al⟩;refine ⟨s', bf, vR, cE, ?_⟩;cases e with
 | normal =>
  obtain ⟨k', ol, o4, h1, h2, aq, aK, cO, ek⟩ := al;exact ⟨k', h1, ul N ol o4, DU aq aK cO, Is ek, ol, o4, h2, ek, rfl⟩
 | _ => exact al
def AF (P : Program) (x : Code) (Q : Exit → aC → Prop) : Nat → aC → Prop
 | 0, _ => False
 | n + 1, s => fI P x (r2 (AF P x Q n) Q) s
theorem EH {Q : Exit → aC → Prop} {n : Nat} (h : fI P x (r2 (AF P x Q n) Q) s) : AF P x Q (n + 1) s := h
theorem Uj (n : Nat) {Q : Exit → aC → Prop} (h : AF P x Q n s) : fI P (.loop x) Q s := by
 intro ok;refine KS (fun k s => s.cV ∧ AF P x Q k s) n s ⟨rfl, fun _ _ h => h, fun _ _ h => h⟩ ok ⟨ok, h⟩ ?_ ok;rintro k s ⟨ok, h⟩;cases k with
 | zero => cases h
 | succ k =>
  intro dN B A ad a w aA;refine tc (h dN B A ad a w aA) ?_;rintro e a' w' ⟨s', bf, vR, cE, al⟩;refine ⟨s', bf, vR, cE, ?_⟩;cases e with
  | normal => exact ⟨k, Nat.lt_succ_self k, s', ⟨rfl, fun _ _ h => h, fun _ _ h => h⟩, vR, vR, al⟩
  | _ => exact al
end
def okW (x : bK) : Bool := x.cells.all fun y => match y with | .c v => v.oneCell' | _ => true
def CB : List bK → Option (List Value)
 | [] => some []
 | x :: xs => match nT x, CB xs with
  | some v, some r => some (v :: r)
  | _, _ => none
def Gv : ai → Option Value
 | .w x => nT x
 | .da xs => match CB xs with
  | some r => some (.tuple r.toArray)
  | none => none
def Pr : ai → Bool
 | .w x => okW x
 | .da xs => xs.all okW
section
variable {U : Nat → Prop} {ad : Nat → Nat} {W : World}
theorem QM : ∀ (xs : List AC) (r : List Value), wY xs = some r → (xs.all fun y => match y with | .c v => v.oneCell' | _ => true) = true → bZ U ad W xs r
 | [], r, h, _ => by cases h; exact ⟨rfl, fun i x v h => by simp at h⟩
 | .c v :: xs, r, h, ok => by
  simp only [wY] at h
  split at h
  ·rename_i a8 ap;cases h;simp only [kA, eo] at ok;have cF := QM xs a8 ap ok.2;refine ⟨by simp [cF.1], fun i x u aa hu => ?_⟩;cases i with
   | zero => simp at aa hu; subst aa; subst hu; exact ⟨rfl, ok.1⟩
   | succ i => exact cF.2 i x u (by simpa using aa) (by simpa using hu)
  ·cases h
 | .own _ _ :: _, _, h, _ => by cases h
 | .p _ :: _, _, h, _ => by cases h
theorem QQ {x : bK} {u : Value} (h : nT x = some u) (ok : okW x = true) : gS U ad W x u := by
 cases x with
 | one y => cases y with
  | c v => cases h; simp [okW, bK.cells] at ok; exact ⟨rfl, ok⟩
  | own => cases h
  | p => cases h
 | agg xs =>
  simp only [nT] at h
  split at h
  ·rename_i r ap; cases h; exact ⟨r, rfl, QM xs r ap ok⟩
  ·cases h
theorem QN : ∀ (xs : List bK) (r : List Value), CB xs = some r → xs.all okW = true → xs.length = r.length ∧ ∀ (i : Nat) (x : bK) (v : Value), xs[i]? = some x → r[i]? = some v → gS U ad W x v
 | [], r, h, _ => by cases h; exact ⟨rfl, fun i x v h => by simp at h⟩
 | x :: xs, r, h, ok => by
  simp only [CB] at h
  split at h
  ·rename_i v a8 hv ap;cases h;simp only [kA, eo] at ok;obtain ⟨h1, h2⟩ := QN xs a8 ap ok.2;refine ⟨by simp [h1], fun i y u ag hu => ?_⟩;cases i with
   | zero => simp at ag hu; subst ag; subst hu; exact QQ hv ok.1
   | succ i => exact h2 i y u (by simpa using ag) (by simpa using hu)
  ·cases h
theorem QO {x : ai} {u : Value} (h : Gv x = some u) (ok : Pr x = true) : di U ad W x u := by
 cases x with
 | w y => exact QQ h ok
 | da xs =>
  simp only [Gv] at h
  split at h
  ·rename_i r ap; cases h; exact ⟨r, rfl, QN xs r ap ok⟩
  ·cases h
end
theorem nz {P : Program} {f : FuncId} {args : List ai} {r : ai} (kY : List Value) (b9 : Value) (he : args.map (fun x => match x with | .w y => nT y | _ => none) = kY.map some) (ap : Gv r = some b9) (jR : args.all ai.ba = true) (ct : r.ba = true) (ok : Pr r = true)
  (h : ∀ W, Calls P f kY.toArray W fun e bq => e = .returned b9 ∧ Below W.heap.size W bq) : aT P f args r :=
 adB kY he jR ct fun W => (h W).mono fun e w' ⟨h1, h2⟩ => ⟨b9, h1, fun _ _ => QO ap ok, h2⟩
structure yo where
 ty : List (Nat × Bool × Nat)
 zero : List (Nat × List Value)
 nU : List (Nat × List (Nat × Nat))
 nl : List (Nat × Nat × Nat)
 iN : List (Nat × List (Nat × Nat))
def lB {α : Type} (R : α → Prop) : List α → Prop
 | [] => True
 | a :: l => R a ∧ lB R l
theorem qH {α : Type} {R : Nat × α → Prop} {k : Nat} {v : α} : ∀ (l : List (Nat × α)), lB R l → kv l k = some v → R (k, v)
 | [], _, h => by cases h
 | (j, u) :: l, ao, h => by
  simp only [kv] at h;cases ab : Nat.beq k j with
  | true => rw [ab] at h; cases h; obtain rfl := hE ab; exact ao.1
  | false => rw [ab] at h; exact qH l ao.2 h
class FC (P : Program) (T : outParam yo) : Prop where
 ty : lB (fun p => kE P p.1 = some p.2) T.ty
 zero : lB (fun p => zeroOf P p.1 = some p.2) T.zero
 nU : lB (fun p => lB (fun q => tL P p.1 q.1 = some q.2) p.2) T.nU
 nl : lB (fun p => B3 P p.1 = some p.2) T.nl
 iN : lB (fun p => Eo P p.1 = some p.2) T.iN
def Qn (b : BinOp) (m n : Int) : Option Bool :=
 match b with
 | .lss => some (decide (m < n))
 | .leq => some (decide (m ≤ n))
 | .gtr => some (decide (n < m))
 | .geq => some (decide (n ≤ m))
 | .eql => some (decide (m = n))
 | .neq => some (!decide (m = n))
 | _ => none
def mV (T : yo) (s : aC) (d : Nat) : Op → Option aC
 | .move x => match s.look x with
  | some av => some (s.put (some d) av)
  | none => none
 | .assign x => match s.look x with
  | some av => some (s.put (some d) av)
  | none => none
 | .pick c x y => match s.look c, s.look x, s.look y with
  | some (.w (.one (.c (.bool true)))), some av, some _ => some (s.put (some d) av)
  | some (.w (.one (.c (.bool false)))), some _, some bv => some (s.put (some d) bv)
  | _, _, _ => none
 | .alloc t => match kv T.zero t, s.mem d with
  | some vs, none => bif vs.all fun v => v.oneCell' then some ((s.eh d (vs.map .c)).put (some d) (nf d 0)) else none
  | _, _ => none
 | .box _ x => match s.look x, s.mem d with
  | some (.w z), none => some ((s.eh d z.cells).put (some d) (nf d 0))
  | _, _ => none
 | .load t x => match s.look x with
  | some (.w (.one (.own k off))) => match s.mem k with
   | some cs => match kv T.ty t with
    | some (false, _) => match cs[off]? with
     | some y => some (s.put (some d) (.w (.one y)))
     | none => none
    | some (true, n) => match takeN cs off n with
     | some aU => some (s.put (some d) (.w (.agg aU)))
     | none => none
    | none => none
   | none => none
  | _ => none
 | .fieldAddr t x i => match s.look x with
  | some (.w (.one (.own k off))) => match kv T.nU t with
   | some l => match kv l i with
    | some im => some (s.put (some d) (nf k (off + im)))
    | none => none
   | none => none
  | _ => none
 | .indexAddr t x y => match s.look x, s.look y with
  | some (.w (.one (.own k off))), some (.w (.one (.c (.int _ i)))) => match kv T.nl t with
   | some (n, size) => bif decide (0 ≤ i) && decide (i < n) then some (s.put (some d) (nf k (off + i.toNat * size))) else none
   | none => none
  | _, _ => none
 | .extract x i => match s.look x with
  | some (.da xs) => match xs[i]? with
   | some y => some (s.put (some d) (.w y))
   | none => none
  | _ => none
 | .build t parts => match nx s.look parts.toList, kv T.zero t, kv T.iN t with
  | some zs, some vs, some ps => match qK ps (vs.map .c) zs with
   | some r => bif vs.all fun v => v.oneCell' then some (s.put (some d) (.w (.agg r))) else none
   | none => none
  | _, _, _ => none
 | .binOp b _ x y _ => match s.look x, s.look y with
  | some (.w (.one (.c (.int k m)))), some (.w (.one (.c (.int k' n)))) => match decEq k k' with
   | isTrue _ => match Qn b m n with
    | some r => some (s.put (some d) (bD r))
    | none => none
   | isFalse _ => none
  | _, _ => none
 | .unOp .not _ x => match s.look x with
  | some (.w (.one (.c (.bool b)))) => some (s.put (some d) (bD (!b)))
  | _ => none
 | _ => none
def Qp (T : yo) (ops : Array Oper) (s : aC) (o : Oper) : Option aC :=
 match want ops o s with
 | some true => match o.dst with
  | some d => bif Nat.blt d s.n then mV T s d o.op else none
  | none => match o.op with
   | .store t x y => match s.look x, s.look y with
    | some (.w (.one (.own k off))), some (.w z) => match s.mem k, kv T.ty t with
     | some cs, some (_, n) => bif Nat.beq n z.cells.length then (match pf cs off z.cells with
      | some ds => some (s.eh k ds)
      | none => none) else none
     | _, _ => none
    | _, _ => none
   | _ => none
 | some false => match o.dst with
  | some d => bif Nat.blt d s.n then some (s.put (some d) (.da [])) else none
  | none => some s
 | none => none
section
variable {P : Program} {T : yo} {s s' : aC} {ops : Array Oper} {K : aC → Prop} {rest : List Oper}
theorem T7 [Q : FC P T] {d ty : Nat} {op : Op} {pos : String} {after : Array Edge} {guard : Option (Nat × Bool)} (hw : want ops ⟨some d, op, ty, pos, after, guard⟩ s = some true) (hd : Nat.blt d s.n = true) (h : mV T s d op = some s') (k : bi P ops K rest s') :
  bi P ops K (⟨some d, op, ty, pos, after, guard⟩ :: rest) s := by
 cases op with
 | move x =>
  simp only [mV] at h
  split at h
  ·rename_i av aa; cases h; exact T1 hw aa hd k
  ·cases h
 | assign x =>
  simp only [mV] at h
  split at h
  ·rename_i av aa; cases h; exact TF hw aa hd k
  ·cases h
 | pick c x y =>
  simp only [mV] at h
  split at h
  ·rename_i av bv ak aa ag; cases h; exact T6 hw ak aa ag hd k
  ·rename_i av bv ak aa ag; cases h; exact T5 hw ak ag aa hd k
  ·cases h
 | alloc t =>
  simp only [mV] at h
  split at h
  ·rename_i vs aZ hm;have dP := qH _ Q.zero aZ;cases h1 : (vs.all fun v => v.oneCell') with
   | true =>
    rw [h1] at h;cases h;have : BV P t vs := ⟨dP⟩;exact TD hw hm h1 hd k
   | false => rw [h1] at h; cases h
  ·cases h
 | box t x =>
  simp only [mV] at h
  split at h
  ·rename_i z aa hm; cases h; exact TG hw aa hm hd k
  ·cases h
 | load t x =>
  simp only [mV] at h
  split at h
  ·rename_i j off aa
   split at h
   ·rename_i cs hm
    split at h
    ·rename_i n en;have zc := qH _ Q.ty en
     split at h
     ·rename_i y ak; cases h; have : gd P t false n := ⟨zc⟩; exact TX hw aa hm ak hd k
     ·cases h
    ·rename_i n en;have zc := qH _ Q.ty en
     split at h
     ·rename_i aU ak; cases h; have : gd P t true n := ⟨zc⟩; exact TY hw aa hm ak hd k
     ·cases h
    ·cases h
   ·cases h
  ·cases h
 | fieldAddr t x i =>
  simp only [mV] at h
  split at h
  ·rename_i j off aa
   split at h
   ·rename_i l ao
    split at h
    ·rename_i im au;have hF := qH _ (qH _ Q.nU ao) au;cases h;have : mx P t i im := ⟨hF⟩;exact TR hw aa hd k
    ·cases h
   ·cases h
  ·cases h
 | indexAddr t x y =>
  simp only [mV] at h
  split at h
  ·rename_i j off ha i aa ag
   split at h
   ·rename_i n size dO;have y7 := qH _ Q.nl dO;cases h1 : (decide (0 ≤ i) && decide (i < (n : Int))) with
    | true =>
     rw [h1] at h;cases h;rw [eo, c0, c0] at h1;have : JH P t n size := ⟨y7⟩;exact hl hw aa ag h1.1 h1.2 hd k
    | false => rw [h1] at h; cases h
   ·cases h
  ·cases h
 | extract x i =>
  simp only [mV] at h
  split at h
  ·rename_i xs aa
   split at h
   ·rename_i y ag; cases h; exact TO hw aa ag hd k
   ·cases h
  ·cases h
 | build t parts =>
  simp only [mV] at h
  split at h
  ·rename_i zs vs ps aZ hv hp;have dP := qH _ Q.zero hv;have hK := qH _ Q.iN hp
   split at h
   ·rename_i r ap;cases h1 : (vs.all fun v => v.oneCell') with
    | true =>
     rw [h1] at h;cases h;have : BV P t vs := ⟨dP⟩;have : J3 P t ps := ⟨hK⟩;have g : bi P ops K (⟨some d, .build t parts.toList.toArray, ty, pos, after, guard⟩ :: rest) s := TH (by rw [Array.toArray_toList]; exact hw) aZ ap h1 hd k;rwa [Array.toArray_toList] at g
    | false => rw [h1] at h; cases h
   ·cases h
  ·cases h
 | binOp b dc x y dK =>
  simp only [mV] at h
  split at h
  ·rename_i ha m aij n aa ag
   split at h
   ·rename_i e he;subst e;cases b <;> simp only [Qn] at h <;> cases h
    ·exact TN hw aa ag hd k
    ·exact T2 hw aa ag hd k
    ·exact TZ hw aa ag hd k
    ·exact TW hw aa ag hd k
    ·exact TT hw aa ag hd k
    ·exact TS hw aa ag hd k
   ·cases h
  ·cases h
 | unOp u dc x =>
  cases u <;> simp only [mV] at h <;> try (cases h; done)
  split at h
  ·rename_i b aa; cases h; exact T4 hw aa hd k
  ·cases h
 | _ => simp only [mV] at h; cases h
theorem ax [Q : FC P T] {o : Oper} (h : Qp T ops s o = some s') (k : bi P ops K rest s') : bi P ops K (o :: rest) s := by
 obtain ⟨dst, op, ty, pos, after, guard⟩ := o;unfold Qp at h
 split at h
 ·rename_i hw;cases dst with
  | some d =>
   simp only at h;cases hd : Nat.blt d s.n with
   | true => rw [hd] at h; exact T7 hw hd h k
   | false => rw [hd] at h; cases h
  | none =>
   simp only at h
   split at h
   ·rename_i t x y
    split at h
    ·rename_i j off z aa ag
     split at h
     ·rename_i cs b n hm en;have zc := qH _ Q.ty en;cases aE : Nat.beq n z.cells.length with
      | true =>
       rw [aE] at h;simp only [cond_true] at h
       split at h
       ·rename_i ds hp;cases h;have : gd P t b n := ⟨zc⟩;exact Ua hw aa ag hm aE hp k
       ·cases h
      | false => rw [aE] at h; cases h
     ·cases h
    ·cases h
   ·cases h
 ·rename_i hw;cases dst with
  | some d =>
   simp only at h;cases hd : Nat.blt d s.n with
   | true => rw [hd] at h; cases h; exact KK hw (fun d' e => by cases e; exact hd) k
   | false => rw [hd] at h; cases h
  | none => cases h; exact KK hw (fun d' e => by cases e) k
 ·cases h
end
end Go.Proofs.YtpochbhajmbfdaaGreat
namespace Go.Proofs.YtpochbhajmbfdaaGreat
instance : gd aj 3 false 1 := ⟨by kernel_rfl⟩
instance : Fx aj 3 .i64 := ⟨by kernel_rfl⟩
instance : gd aj 4 false 1 := ⟨by kernel_rfl⟩
instance : iC aj 22 5 := ⟨by kernel_rfl⟩
instance : pB aj 28 [.int .i64 0, .int .i64 0, .int .i64 0, .int .i64 0, .int .i64 0] := ⟨by kernel_rfl⟩
instance : iC aj 28 5 := ⟨by kernel_rfl⟩
instance : gd aj 42 false 1 := ⟨by kernel_rfl⟩
instance : pB aj 42 [.int .i64 0, .int .i64 0] := ⟨by kernel_rfl⟩
instance : iC aj 42 2 := ⟨by kernel_rfl⟩
instance : pB aj 43 [.slice none 0 0, .slice none 0 0] := ⟨by kernel_rfl⟩
instance : iC aj 43 2 := ⟨by kernel_rfl⟩
instance : gd aj 45 true 10 := ⟨by kernel_rfl⟩
instance : mx aj 45 2 2 := ⟨by kernel_rfl⟩
instance : gd aj 51 false 1 := ⟨by kernel_rfl⟩
instance : pB aj 51 [.int .i64 0] := ⟨by kernel_rfl⟩
instance : iC aj 51 1 := ⟨by kernel_rfl⟩
instance : gd aj 53 true 2 := ⟨by kernel_rfl⟩
instance : mx aj 53 0 0 := ⟨by kernel_rfl⟩
instance : mx aj 53 1 1 := ⟨by kernel_rfl⟩
instance : gd aj 59 true 2 := ⟨by kernel_rfl⟩
instance : mx aj 59 0 0 := ⟨by kernel_rfl⟩
instance : gd aj 61 true 2 := ⟨by kernel_rfl⟩
instance : mx aj 61 0 0 := ⟨by kernel_rfl⟩
instance : mx aj 61 1 1 := ⟨by kernel_rfl⟩
instance : gd aj 63 true 5 := ⟨by kernel_rfl⟩
instance : mx aj 63 0 0 := ⟨by kernel_rfl⟩
instance : mx aj 63 1 2 := ⟨by kernel_rfl⟩
instance : gd aj 91 true 5 := ⟨by kernel_rfl⟩
instance : pB aj 96 [.int .i64 0, .int .i64 0, .int .i64 0, .int .i64 0] := ⟨by kernel_rfl⟩
instance : iC aj 96 4 := ⟨by kernel_rfl⟩
instance : mx aj 98 1 1 := ⟨by kernel_rfl⟩
instance : gd aj 126 true 6 := ⟨by kernel_rfl⟩
instance : pB aj 137 [.int .i64 0, .int .i64 0, .int .i64 0] := ⟨by kernel_rfl⟩
instance : iC aj 137 3 := ⟨by kernel_rfl⟩
instance : gd aj 161 true 4 := ⟨by kernel_rfl⟩
instance : gd aj 163 true 13 := ⟨by kernel_rfl⟩
instance : gd aj 167 true 4 := ⟨by kernel_rfl⟩
instance : gd aj 216 true 4 := ⟨by kernel_rfl⟩
instance : gd aj 253 false 1 := ⟨by kernel_rfl⟩
instance : Fx aj 253 .u64 := ⟨by kernel_rfl⟩
instance : pB aj 256 [.slice none 0 0] := ⟨by kernel_rfl⟩
instance : iC aj 256 1 := ⟨by kernel_rfl⟩
instance : pB aj 257 [.slice none 0 0] := ⟨by kernel_rfl⟩
instance : iC aj 257 1 := ⟨by kernel_rfl⟩
instance : gd aj 261 true 3 := ⟨by kernel_rfl⟩
instance : mx aj 261 1 2 := ⟨by kernel_rfl⟩
instance : gd aj 282 true 3 := ⟨by kernel_rfl⟩
instance : gd aj 284 true 10 := ⟨by kernel_rfl⟩
instance : gd aj 307 true 4 := ⟨by kernel_rfl⟩
instance : Enters aj 15 := ⟨by kernel_rfl⟩
instance : Enters aj 16 := ⟨by kernel_rfl⟩
instance : Enters aj 17 := ⟨by kernel_rfl⟩
instance : Enters aj 18 := ⟨by kernel_rfl⟩
instance : Enters aj 19 := ⟨by kernel_rfl⟩
instance : Enters aj 23 := ⟨by kernel_rfl⟩
instance : Enters aj 24 := ⟨by kernel_rfl⟩
instance : Enters aj 25 := ⟨by kernel_rfl⟩
instance : Enters aj 28 := ⟨by kernel_rfl⟩
instance : Enters aj 32 := ⟨by kernel_rfl⟩
instance : Enters aj 37 := ⟨by kernel_rfl⟩
instance : Enters aj 41 := ⟨by kernel_rfl⟩
instance : Enters aj 42 := ⟨by kernel_rfl⟩
instance : Enters aj 43 := ⟨by kernel_rfl⟩
instance : Enters aj 50 := ⟨by kernel_rfl⟩
instance : Enters aj 53 := ⟨by kernel_rfl⟩
instance : Enters aj 54 := ⟨by kernel_rfl⟩
instance : Enters aj 55 := ⟨by kernel_rfl⟩
instance : Enters aj 56 := ⟨by kernel_rfl⟩
instance : Enters aj 57 := ⟨by kernel_rfl⟩
instance : Enters aj 58 := ⟨by kernel_rfl⟩
instance : Enters aj 65 := ⟨by kernel_rfl⟩
instance : Enters aj 66 := ⟨by kernel_rfl⟩
instance : Enters aj 67 := ⟨by kernel_rfl⟩
instance : Enters aj 68 := ⟨by kernel_rfl⟩
instance : Enters aj 69 := ⟨by kernel_rfl⟩
instance : Enters aj 70 := ⟨by kernel_rfl⟩
instance : Enters aj 72 := ⟨by kernel_rfl⟩
instance : Enters aj 77 := ⟨by kernel_rfl⟩
instance : Enters aj 78 := ⟨by kernel_rfl⟩
instance : Enters aj 83 := ⟨by kernel_rfl⟩
instance : Enters aj 84 := ⟨by kernel_rfl⟩
instance : Enters aj 85 := ⟨by kernel_rfl⟩
instance : Enters aj 88 := ⟨by kernel_rfl⟩
instance : Enters aj 91 := ⟨by kernel_rfl⟩
instance : Enters aj 98 := ⟨by kernel_rfl⟩
instance : Enters aj 99 := ⟨by kernel_rfl⟩
instance : Enters aj 100 := ⟨by kernel_rfl⟩
instance : Enters aj 101 := ⟨by kernel_rfl⟩
instance : Enters aj 102 := ⟨by kernel_rfl⟩
instance : Enters aj 115 := ⟨by kernel_rfl⟩
instance : Enters aj 116 := ⟨by kernel_rfl⟩
instance : Enters aj 117 := ⟨by kernel_rfl⟩
instance : Enters aj 118 := ⟨by kernel_rfl⟩
instance : Enters aj 119 := ⟨by kernel_rfl⟩
instance : Enters aj 120 := ⟨by kernel_rfl⟩
instance : Enters aj 121 := ⟨by kernel_rfl⟩
instance : Enters aj 122 := ⟨by kernel_rfl⟩
instance : Enters aj 123 := ⟨by kernel_rfl⟩
instance : Enters aj 124 := ⟨by kernel_rfl⟩
instance : Enters aj 125 := ⟨by kernel_rfl⟩
instance : Enters aj 126 := ⟨by kernel_rfl⟩
instance : Enters aj 127 := ⟨by kernel_rfl⟩
instance : Enters aj 128 := ⟨by kernel_rfl⟩
instance : Enters aj 129 := ⟨by kernel_rfl⟩
instance : Enters aj 130 := ⟨by kernel_rfl⟩
instance : Enters aj 131 := ⟨by kernel_rfl⟩
instance : Enters aj 132 := ⟨by kernel_rfl⟩
instance : Enters aj 133 := ⟨by kernel_rfl⟩
instance : Enters aj 154 := ⟨by kernel_rfl⟩
instance : Enters aj 163 := ⟨by kernel_rfl⟩
instance : Enters aj 170 := ⟨by kernel_rfl⟩
instance : Enters aj 171 := ⟨by kernel_rfl⟩
instance : Enters aj 172 := ⟨by kernel_rfl⟩
instance : Enters aj 173 := ⟨by kernel_rfl⟩
instance : Enters aj 174 := ⟨by kernel_rfl⟩
instance : Enters aj 175 := ⟨by kernel_rfl⟩
instance : Enters aj 176 := ⟨by kernel_rfl⟩
instance : Enters aj 177 := ⟨by kernel_rfl⟩
instance : Enters aj 178 := ⟨by kernel_rfl⟩
instance : Enters aj 179 := ⟨by kernel_rfl⟩
instance : Enters aj 180 := ⟨by kernel_rfl⟩
instance : Enters aj 181 := ⟨by kernel_rfl⟩
instance : Enters aj 182 := ⟨by kernel_rfl⟩
instance : Enters aj 183 := ⟨by kernel_rfl⟩
instance : Enters aj 184 := ⟨by kernel_rfl⟩
instance : Enters aj 185 := ⟨by kernel_rfl⟩
instance : Enters aj 186 := ⟨by kernel_rfl⟩
instance : Enters aj 187 := ⟨by kernel_rfl⟩
instance : Enters aj 200 := ⟨by kernel_rfl⟩
instance : Enters aj 201 := ⟨by kernel_rfl⟩
instance : Enters aj 202 := ⟨by kernel_rfl⟩
instance : Enters aj 215 := ⟨by kernel_rfl⟩
instance : Enters aj 216 := ⟨by kernel_rfl⟩
instance : Enters aj 217 := ⟨by kernel_rfl⟩
instance : Enters aj 218 := ⟨by kernel_rfl⟩
instance : Enters aj 219 := ⟨by kernel_rfl⟩
instance : Enters aj 220 := ⟨by kernel_rfl⟩
instance : Enters aj 221 := ⟨by kernel_rfl⟩
instance : Enters aj 222 := ⟨by kernel_rfl⟩
instance : Enters aj 223 := ⟨by kernel_rfl⟩
instance : Enters aj 224 := ⟨by kernel_rfl⟩
instance : Enters aj 225 := ⟨by kernel_rfl⟩
instance : Enters aj 226 := ⟨by kernel_rfl⟩
instance : Enters aj 227 := ⟨by kernel_rfl⟩
instance : Enters aj 229 := ⟨by kernel_rfl⟩
instance : Enters aj 230 := ⟨by kernel_rfl⟩
instance : Enters aj 231 := ⟨by kernel_rfl⟩
instance : Enters aj 242 := ⟨by kernel_rfl⟩
instance : Enters aj 243 := ⟨by kernel_rfl⟩
instance : Enters aj 244 := ⟨by kernel_rfl⟩
instance : Enters aj 249 := ⟨by kernel_rfl⟩
instance : Enters aj 250 := ⟨by kernel_rfl⟩
instance : Enters aj 251 := ⟨by kernel_rfl⟩
instance : Enters aj 252 := ⟨by kernel_rfl⟩
instance : Enters aj 253 := ⟨by kernel_rfl⟩
instance : Enters aj 254 := ⟨by kernel_rfl⟩
instance : Enters aj 255 := ⟨by kernel_rfl⟩
instance : Enters aj 256 := ⟨by kernel_rfl⟩
instance : Enters aj 258 := ⟨by kernel_rfl⟩
instance : Enters aj 259 := ⟨by kernel_rfl⟩
instance : Enters aj 260 := ⟨by kernel_rfl⟩
instance : Enters aj 261 := ⟨by kernel_rfl⟩
instance : Enters aj 273 := ⟨by kernel_rfl⟩
instance : Enters aj 274 := ⟨by kernel_rfl⟩
instance : Enters aj 275 := ⟨by kernel_rfl⟩
instance : Enters aj 276 := ⟨by kernel_rfl⟩
instance : Enters aj 282 := ⟨by kernel_rfl⟩
instance : Enters aj 283 := ⟨by kernel_rfl⟩
instance : Enters aj 284 := ⟨by kernel_rfl⟩
instance : Enters aj 285 := ⟨by kernel_rfl⟩
instance : Enters aj 294 := ⟨by kernel_rfl⟩
instance : Enters aj 295 := ⟨by kernel_rfl⟩
def tab : yo where
 ty := [(0, false, 1), (1, false, 1), (2, false, 1), (3, false, 1), (4, false, 1), (5, false, 1), (6, false, 1), (7, true, 4), (8, true, 4), (9, false, 1), (10, false, 1), (11, false, 1), (12, false, 1), (13, true, 2), (14, true, 2), (15, false, 1), (16, false, 1), (17, false, 1), (18, true, 1), (19, true, 1), (20, false, 1), (21, false, 1), (22, false, 1), (23, true, 2), (24, false, 1), (25, false, 1), (26, false, 1), (27, false, 1), (28, false, 1), (29, false, 1), (30, false, 1), (31, false, 1), (32, false, 1), (33, true, 11), (34, true, 11), (35, false, 1), (36, false, 1), (37, false, 1), (38, false, 1), (39, false, 1), (40, false, 1), (41, false, 1), (42, false, 1), (43, false, 1), (44, true, 10), (45, true, 10), (46, false, 1), (47, false, 1), (48, false, 1), (49, true, 2), (50, true, 2), (51, false, 1), (52, true, 2), (53, true, 2), (54, true, 2), (55, true, 2), (56, false, 1), (57, false, 1), (58, true, 2), (59, true, 2), (60, false, 1), (61, true, 2), (62, true, 5), (63, true, 5), (64, true, 2), (65, false, 1), (66, false, 1), (67, false, 1), (68, false, 1), (69, false, 1), (70, false, 1), (71, false, 1), (72, false, 1), (73, true, 4), (74, false, 1), (75, false, 1), (76, false, 1), (77, false, 1), (78, false, 1), (79, false, 1), (80, false, 1), (81, false, 1), (82, false, 1), (83, false, 1), (84, false, 1), (85, false, 1), (86, false, 1), (87, false, 1), (88, true, 4), (89, false, 1), (90, false, 1), (91, true, 5), (92, false, 1), (93, false, 1), (94, false, 1), (95, false, 1), (96, false, 1), (97, true, 13), (98, true, 13), (99, false, 1), (100, false, 1), (101, false, 1), (102, false, 1), (103, false, 1), (104, true, 4), (105, false, 1), (106, false, 1), (107, false, 1), (108, false, 1), (109, true, 2), (110, true, 2), (111, true, 4), (112, true, 4), (113, true, 9), (114, true, 9), (115, false, 1), (116, false, 1), (117, false, 1), (118, false, 1), (119, false, 1), (120, false, 1), (121, true, 13), (122, true, 13), (123, false, 1), (124, false, 1), (125, false, 1), (126, true, 6), (127, false, 1), (128, false, 1), (129, false, 1), (130, false, 1), (131, false, 1), (132, false, 1), (133, false, 1), (134, false, 1), (135, false, 1), (136, false, 1), (137, false, 1), (138, true, 1), (139, true, 1), (140, true, 2), (141, true, 2), (142, false, 1), (143, false, 1), (144, false, 1), (145, false, 1), (146, false, 1), (147, false, 1), (148, false, 1), (149, false, 1), (150, false, 1), (151, false, 1), (152, false, 1), (153, false, 1), (154, false, 1), (155, false, 1), (156, false, 1), (157, false, 1), (158, true, 2), (159, true, 2), (160, true, 4), (161, true, 4), (162, true, 13), (163, true, 13), (164, false, 1), (165, false, 1), (166, true, 4), (167, true, 4), (168, false, 1), (169, false, 1), (170, false, 1), (171, false, 1), (172, false, 1), (173, false, 1), (174, false, 1), (175, false, 1), (176, false, 1), (177, false, 1), (178, false, 1), (179, false, 1), (180, false, 1), (181, false, 1), (182, false, 1), (183, false, 1), (184, false, 1), (185, false, 1), (186, false, 1), (187, false, 1), (188, false, 1), (189, false, 1), (190, false, 1), (191, false, 1), (192, false, 1), (193, false, 1), (194, false, 1), (195, false, 1), (196, false, 1), (197, false, 1), (198, false, 1), (199, false, 1), (200, false, 1), (201, false, 1), (202, true, 6), (203, false, 1), (204, false, 1), (205, false, 1), (206, false, 1), (207, false, 1), (208, false, 1), (209, false, 1), (210, false, 1), (211, false, 1), (212, false, 1), (213, false, 1), (214, false, 1), (215, true, 4), (216, true, 4), (217, false, 1), (218, false, 1), (219, false, 1), (220, false, 1), (221, false, 1), (222, false, 1), (223, false, 1), (224, false, 1), (225, false, 1), (226, false, 1), (227, false, 1), (228, false, 1), (229, false, 1), (230, false, 1), (231, false, 1), (232, false, 1), (233, false, 1), (234, false, 1), (235, false, 1), (236, false, 1), (237, false, 1), (238, false, 1), (239, false, 1), (240, false, 1), (241, false, 1), (242, false, 1), (243, false, 1), (244, false, 1), (245, false, 1), (246, false, 1), (247, false, 1), (248, false, 1), (249, false, 1), (250, false, 1), (251, false, 1), (252, false, 1), (253, false, 1), (254, false, 1), (255, false, 1), (256, false, 1), (257, false, 1), (258, false, 1), (259, false, 1), (260, true, 3), (261, true, 3), (262, false, 1), (263, false, 1), (264, false, 1), (265, true, 5), (266, true, 5), (267, false, 1), (268, false, 1), (269, false, 1), (270, false, 1), (271, false, 1), (272, false, 1), (273, false, 1), (274, false, 1), (275, false, 1), (276, false, 1), (277, false, 1), (278, false, 1), (279, true, 6), (280, true, 6), (281, true, 3), (282, true, 3), (283, true, 10), (284, true, 10), (285, false, 1), (286, false, 1), (287, true, 4), (288, false, 1), (289, false, 1), (290, false, 1), (291, false, 1), (292, false, 1), (293, false, 1), (294, false, 1), (295, false, 1), (296, false, 1), (297, false, 1), (298, false, 1), (299, false, 1), (300, false, 1), (301, false, 1), (302, false, 1), (303, false, 1), (304, false, 1), (305, false, 1), (306, true, 4), (307, true, 4), (308, false, 1), (309, false, 1), (310, true, 2), (311, true, 2), (312, false, 1), (313, false, 1), (314, false, 1), (315, false, 1), (316, false, 1), (317, false, 1), (318, false, 1), (319, false, 1), (320, false, 1), (321, false, 1), (322, false, 1), (323, false, 1), (324, false, 1), (325, false, 1), (326, false, 1), (327, false, 1), (328, false, 1), (329, false, 1), (330, false, 1), (331, false, 1), (332, false, 1), (333, false, 1), (334, false, 1), (335, false, 1), (336, false, 1), (337, true, 4), (338, true, 4), (339, true, 0), (340, true, 0), (341, true, 0), (342, false, 1), (343, false, 1), (344, false, 1), (345, false, 1), (346, false, 1), (347, false, 1), (348, true, 11), (349, true, 11), (350, true, 1), (351, true, 1), (352, false, 1)]
 zero := [(1, [.nilFunc]), (2, [.int .i64 0]), (3, [.int .i64 0]), (4, [.bool false]), (5, [.int .u8 0]), (6, [.int .u8 0]), (7, [.int .i64 0, .int .i64 0, .bool false, .int .u8 0]), (8, [.int .i64 0, .int .i64 0, .bool false, .int .u8 0]), (9, [.string ByteArray.empty]), (10, [.string ByteArray.empty]), (11, [.string ByteArray.empty]), (12, [.int .u64 0]), (13, [.string ByteArray.empty, .int .u64 0]), (14, [.string ByteArray.empty, .int .u64 0]), (15, [.pointer none]), (16, [.pointer none]), (17, [.pointer none]), (18, [.pointer none]), (19, [.pointer none]), (20, [.nilIface]), (21, [.int .i32 0]), (22, [.slice none 0 0]), (23, [.int .i64 0, .int .i64 0]), (24, [.nilFunc]), (25, [.nilFunc]), (26, [.pointer none]), (27, [.nilFunc]), (28, [.slice none 0 0]), (29, [.nilFunc]), (30, [.nilFunc]), (31, [.slice none 0 0]), (32, [.slice none 0 0]), (33, [.slice none 0 0, .int .i64 0, .int .i64 0, .int .i64 0, .int .i64 0, .int .i64 0, .int .i64 0, .bool false, .slice none 0 0, .slice none 0 0, .slice none 0 0]), (34, [.slice none 0 0, .int .i64 0, .int .i64 0, .int .i64 0, .int .i64 0, .int .i64 0, .int .i64 0, .bool false, .slice none 0 0, .slice none 0 0, .slice none 0 0]), (35, [.nilFunc]), (37, [.nilFunc]), (38, [.nilFunc]), (39, [.nilFunc]), (40, [.nilFunc]), (41, [.nilFunc]), (42, [.slice none 0 0]), (43, [.slice none 0 0]), (44, [.int .i64 0, .int .i64 0, .int .i64 0, .int .i64 0, .int .i64 0, .int .i64 0, .bool false, .slice none 0 0, .slice none 0 0, .slice none 0 0]), (45, [.int .i64 0, .int .i64 0, .int .i64 0, .int .i64 0, .int .i64 0, .int .i64 0, .bool false, .slice none 0 0, .slice none 0 0, .slice none 0 0]), (46, [.nilFunc]), (47, [.nilFunc]), (48, [.nilFunc]), (49, [.int .i64 0, .slice none 0 0]), (50, [.int .i64 0, .slice none 0 0]), (51, [.slice none 0 0]), (52, [.slice none 0 0, .slice none 0 0]), (53, [.slice none 0 0, .slice none 0 0]), (54, [.slice none 0 0, .slice none 0 0]), (55, [.slice none 0 0, .slice none 0 0]), (56, [.nilFunc]), (57, [.nilFunc]), (58, [.int .i64 0, .int .i64 0]), (59, [.int .i64 0, .int .i64 0]), (60, [.nilFunc]), (61, [.int .i64 0, .int .i64 0]), (62, [.int .i64 0, .int .i64 0, .int .i64 0, .int .i64 0, .int .i64 0]), (63, [.int .i64 0, .int .i64 0, .int .i64 0, .int .i64 0, .int .i64 0]), (64, [.int .i64 0, .int .i64 0]), (65, [.nilFunc]), (66, [.nilFunc]), (67, [.nilFunc]), (68, [.nilFunc]), (69, [.nilFunc]), (70, [.slice none 0 0]), (71, [.nilFunc]), (72, [.nilFunc]), (73, [.int .i64 0, .int .i64 0, .int .i64 0, .int .i64 0]), (74, [.nilFunc]), (75, [.nilFunc]), (76, [.nilFunc]), (77, [.nilFunc]), (78, [.nilFunc]), (79, [.slice none 0 0]), (80, [.nilFunc]), (81, [.nilFunc]), (83, [.nilFunc]), (84, [.nilFunc]), (85, [.nilFunc]), (86, [.nilFunc]), (87, [.nilFunc]), (88, [.int .i64 0, .int .i64 0, .int .i64 0, .int .i64 0]), (89, [.nilFunc]), (90, [.nilFunc]), (91, [.int .i64 0, .int .i64 0, .int .i64 0, .int .i64 0, .int .i64 0]), (92, [.nilFunc]), (93, [.pointer none]), (94, [.nilFunc]), (95, [.nilFunc]), (96, [.slice none 0 0]), (97, [.slice none 0 0, .int .i64 0, .int .i64 0, .int .i64 0, .int .i64 0, .int .i64 0, .int .i64 0, .bool false, .slice none 0 0, .slice none 0 0, .slice none 0 0, .pointer none, .slice none 0 0]), (98, [.slice none 0 0, .int .i64 0, .int .i64 0, .int .i64 0, .int .i64 0, .int .i64 0, .int .i64 0, .bool false, .slice none 0 0, .slice none 0 0, .slice none 0 0, .pointer none, .slice none 0 0]), (99, [.nilFunc]), (100, [.nilFunc]), (101, [.nilFunc]), (102, [.nilFunc]), (103, [.nilFunc]), (104, [.nilFunc, .nilFunc, .nilFunc, .nilFunc]), (105, [.nilFunc]), (106, [.nilFunc]), (107, [.nilFunc]), (108, [.slice none 0 0]), (109, [.bool false, .slice none 0 0]), (110, [.bool false, .slice none 0 0]), (111, [.bool false, .slice none 0 0, .bool false, .slice none 0 0]), (112, [.bool false, .slice none 0 0, .bool false, .slice none 0 0]), (113, [.bool false, .slice none 0 0, .bool false, .slice none 0 0, .bool false, .slice none 0 0, .bool false, .slice none 0 0, .bool false]), (114, [.bool false, .slice none 0 0, .bool false, .slice none 0 0, .bool false, .slice none 0 0, .bool false, .slice none 0 0, .bool false]), (115, [.nilFunc]), (116, [.nilFunc]), (117, [.nilFunc]), (118, [.nilFunc]), (119, [.nilFunc]), (120, [.nilFunc]), (121, [.int .i64 0, .bool false, .slice none 0 0, .bool false, .slice none 0 0, .bool false, .slice none 0 0, .bool false, .slice none 0 0, .int .i64 0, .int .i64 0, .int .i64 0, .int .i64 0]), (122, [.int .i64 0, .bool false, .slice none 0 0, .bool false, .slice none 0 0, .bool false, .slice none 0 0, .bool false, .slice none 0 0, .int .i64 0, .int .i64 0, .int .i64 0, .int .i64 0]), (123, [.nilFunc]), (124, [.nilFunc]), (125, [.nilFunc]), (126, [.int .i64 0, .int .i64 0, .int .i64 0, .int .i64 0, .int .i64 0, .int .i64 0]), (127, [.nilFunc]), (128, [.nilFunc]), (129, [.nilFunc]), (130, [.nilFunc]), (131, [.nilFunc]), (132, [.nilFunc]), (133, [.nilFunc]), (134, [.nilFunc]), (135, [.nilFunc]), (136, [.nilFunc]), (137, [.slice none 0 0]), (138, [.slice none 0 0]), (139, [.slice none 0 0]), (140, [.slice none 0 0, .int .i64 0]), (141, [.slice none 0 0, .int .i64 0]), (142, [.nilFunc]), (143, [.nilFunc]), (144, [.nilFunc]), (145, [.nilFunc]), (146, [.nilFunc]), (147, [.nilFunc]), (148, [.nilFunc]), (149, [.nilFunc]), (150, [.nilFunc]), (152, [.nilFunc]), (154, [.nilFunc]), (155, [.nilFunc]), (156, [.nilFunc]), (157, [.int .u64 0]), (158, [.int .i64 0, .int .u64 0]), (159, [.int .i64 0, .int .u64 0]), (160, [.int .i64 0, .int .u64 0, .int .i64 0, .int .u64 0]), (161, [.int .i64 0, .int .u64 0, .int .i64 0, .int .u64 0]), (162, [.int .i64 0, .int .i64 0, .int .u64 0, .int .i64 0, .int .u64 0, .int .i64 0, .int .u64 0, .int .i64 0, .int .u64 0, .int .i64 0, .int .i64 0, .int .i64 0, .int .i64 0]), (163, [.int .i64 0, .int .i64 0, .int .u64 0, .int .i64 0, .int .u64 0, .int .i64 0, .int .u64 0, .int .i64 0, .int .u64 0, .int .i64 0, .int .i64 0, .int .i64 0, .int .i64 0]), (164, [.nilFunc]), (165, [.pointer none]), (166, [.int .i64 0, .int .i64 0, .int .i64 0, .int .i64 0]), (167, [.int .i64 0, .int .i64 0, .int .i64 0, .int .i64 0]), (168, [.nilFunc]), (170, [.nilFunc]), (171, [.nilFunc]), (172, [.nilFunc]), (173, [.nilFunc]), (175, [.nilFunc]), (176, [.nilFunc]), (177, [.nilFunc]), (178, [.nilFunc]), (179, [.nilFunc]), (180, [.nilFunc]), (181, [.nilFunc]), (182, [.nilFunc]), (183, [.nilFunc]), (184, [.nilFunc]), (185, [.slice none 0 0]), (186, [.nilFunc]), (187, [.nilFunc]), (188, [.nilFunc]), (189, [.nilFunc]), (190, [.nilFunc]), (191, [.nilFunc]), (193, [.nilFunc]), (194, [.nilFunc]), (195, [.nilFunc]), (196, [.nilFunc]), (197, [.nilFunc]), (198, [.nilFunc]), (199, [.int .i64 0]), (201, [.nilFunc]), (202, [.nilFunc, .nilFunc, .nilFunc, .nilFunc, .nilFunc, .nilFunc]), (203, [.nilFunc]), (204, [.nilFunc]), (205, [.nilFunc]), (207, [.nilFunc]), (208, [.nilFunc]), (210, [.nilFunc]), (211, [.nilFunc]), (212, [.nilFunc]), (214, [.nilFunc]), (215, [.int .i64 0, .int .i64 0, .int .i64 0, .int .i64 0]), (216, [.int .i64 0, .int .i64 0, .int .i64 0, .int .i64 0]), (217, [.nilFunc]), (218, [.nilFunc]), (219, [.nilFunc]), (220, [.nilFunc]), (221, [.nilFunc]), (222, [.nilFunc]), (223, [.nilFunc]), (224, [.nilFunc]), (225, [.nilFunc]), (226, [.nilFunc]), (227, [.nilFunc]), (228, [.nilFunc]), (229, [.nilFunc]), (230, [.nilFunc]), (231, [.nilFunc]), (232, [.nilFunc]), (233, [.nilFunc]), (234, [.nilFunc]), (236, [.nilFunc]), (237, [.nilFunc]), (238, [.slice none 0 0]), (239, [.nilFunc]), (240, [.nilFunc]), (241, [.nilFunc]), (242, [.nilFunc]), (243, [.nilFunc]), (244, [.nilFunc]), (245, [.nilFunc]), (247, [.nilFunc]), (248, [.nilFunc]), (250, [.nilFunc]), (251, [.nilFunc]), (252, [.nilFunc]), (253, [.int .u64 0]), (255, [.nilFunc]), (256, [.slice none 0 0]), (257, [.slice none 0 0]), (258, [.nilFunc]), (259, [.pointer none]), (260, [.int .i64 0, .int .i64 0, .int .i64 0]), (261, [.int .i64 0, .int .i64 0, .int .i64 0]), (262, [.nilFunc]), (263, [.nilFunc]), (264, [.nilFunc]), (265, [.int .i64 0, .int .i64 0, .int .i64 0, .int .i64 0, .int .i64 0]), (266, [.int .i64 0, .int .i64 0, .int .i64 0, .int .i64 0, .int .i64 0]), (267, [.nilFunc]), (268, [.map none]), (269, [.nilFunc]), (270, [.nilFunc]), (272, [.nilFunc]), (273, [.nilFunc]), (275, [.nilFunc]), (276, [.nilFunc]), (277, [.nilFunc]), (278, [.nilFunc]), (279, [.int .i64 0, .int .i64 0, .int .i64 0, .int .i64 0, .bool false, .bool false]), (280, [.int .i64 0, .int .i64 0, .int .i64 0, .int .i64 0, .bool false, .bool false]), (281, [.int .i64 0, .int .i64 0, .bool false]), (282, [.int .i64 0, .int .i64 0, .bool false]), (283, [.int .i64 0, .int .i64 0, .int .i64 0, .int .i64 0, .int .i64 0, .int .i64 0, .bool false, .int .i64 0, .int .i64 0, .bool false]), (284, [.int .i64 0, .int .i64 0, .int .i64 0, .int .i64 0, .int .i64 0, .int .i64 0, .bool false, .int .i64 0, .int .i64 0, .bool false]), (285, [.nilFunc]), (286, [.nilFunc]), (287, [.nilFunc, .nilFunc, .nilFunc, .nilFunc]), (288, [.int .u32 0]), (290, [.nilFunc]), (292, [.nilFunc]), (293, [.nilFunc]), (294, [.nilFunc]), (295, [.nilFunc]), (296, [.nilFunc]), (297, [.nilFunc]), (298, [.nilFunc]), (299, [.nilFunc]), (300, [.nilFunc]), (301, [.nilFunc]), (302, [.nilFunc]), (303, [.nilFunc]), (304, [.nilFunc]), (305, [.nilFunc]), (306, [.int .i64 0, .int .i64 0, .int .i64 0, .int .i64 0]), (307, [.int .i64 0, .int .i64 0, .int .i64 0, .int .i64 0]), (308, [.nilFunc]), (309, [.nilFunc]), (310, [.int .u64 0, .int .u64 0]), (311, [.int .u64 0, .int .u64 0]), (313, [.nilFunc]), (314, [.nilFunc]), (315, [.nilFunc]), (316, [.nilFunc]), (317, [.nilFunc]), (318, [.nilFunc]), (319, [.nilFunc]), (320, [.nilFunc]), (322, [.nilFunc]), (323, [.nilFunc]), (324, [.nilFunc]), (325, [.nilFunc]), (326, [.nilFunc]), (328, [.nilFunc]), (329, [.nilFunc]), (330, [.nilFunc]), (331, [.nilFunc]), (332, [.nilFunc]), (333, [.nilIface]), (334, [.nilIface]), (335, [.pointer none]), (336, [.nilFunc]), (337, [.pointer none, .pointer none, .pointer none, .string ByteArray.empty]), (338, [.pointer none, .pointer none, .pointer none, .string ByteArray.empty]), (339, []), (340, []), (341, []), (342, [.int .u8 0]), (343, [.int .u8 0]), (344, [.nilFunc]), (345, [.pointer none]), (346, [.int .i32 0]), (347, [.int .i32 0]), (348, [.int .u64 0, .int .u64 0, .int .u32 0, .int .u8 0, .int .u8 0, .int .u8 0, .int .u8 0, .nilFunc, .pointer none, .int .i32 0, .int .i32 0]), (349, [.int .u64 0, .int .u64 0, .int .u32 0, .int .u8 0, .int .u8 0, .int .u8 0, .int .u8 0, .nilFunc, .pointer none, .int .i32 0, .int .i32 0]), (350, [.string ByteArray.empty]), (351, [.string ByteArray.empty]), (352, [.pointer none])]
 nU := [(7, [(0, 0), (1, 1), (2, 2), (3, 3)]), (8, [(0, 0), (1, 1), (2, 2), (3, 3)]), (13, [(0, 0), (1, 1)]), (14, [(0, 0), (1, 1)]), (18, [(0, 0)]), (19, [(0, 0)]), (33, [(0, 0), (1, 1), (2, 2), (3, 3), (4, 4), (5, 5), (6, 6), (7, 7), (8, 8), (9, 9), (10, 10)]), (34, [(0, 0), (1, 1), (2, 2), (3, 3), (4, 4), (5, 5), (6, 6), (7, 7), (8, 8), (9, 9), (10, 10)]), (44, [(0, 0), (1, 1), (2, 2), (3, 3), (4, 4), (5, 5), (6, 6), (7, 7), (8, 8), (9, 9)]), (45, [(0, 0), (1, 1), (2, 2), (3, 3), (4, 4), (5, 5), (6, 6), (7, 7), (8, 8), (9, 9)]), (49, [(0, 0), (1, 1)]), (50, [(0, 0), (1, 1)]), (52, [(0, 0), (1, 1)]), (53, [(0, 0), (1, 1)]), (54, [(0, 0), (1, 1)]), (55, [(0, 0), (1, 1)]), (58, [(0, 0), (1, 1)]), (59, [(0, 0), (1, 1)]), (61, [(0, 0), (1, 1)]), (62, [(0, 0), (1, 2), (2, 4)]), (63, [(0, 0), (1, 2), (2, 4)]), (64, [(0, 0), (1, 1)]), (91, [(0, 0), (1, 2), (2, 4)]), (97, [(0, 0), (1, 1), (2, 11), (3, 12)]), (98, [(0, 0), (1, 1), (2, 11), (3, 12)]), (109, [(0, 0), (1, 1)]), (110, [(0, 0), (1, 1)]), (111, [(0, 0), (1, 2)]), (112, [(0, 0), (1, 2)]), (113, [(0, 0), (1, 4), (2, 8)]), (114, [(0, 0), (1, 4), (2, 8)]), (121, [(0, 0), (1, 1), (2, 5), (3, 9), (4, 11)]), (122, [(0, 0), (1, 1), (2, 5), (3, 9), (4, 11)]), (138, [(0, 0)]), (139, [(0, 0)]), (140, [(0, 0), (1, 1)]), (141, [(0, 0), (1, 1)]), (158, [(0, 0), (1, 1)]), (159, [(0, 0), (1, 1)]), (160, [(0, 0), (1, 2)]), (161, [(0, 0), (1, 2)]), (162, [(0, 0), (1, 1), (2, 5), (3, 9), (4, 11)]), (163, [(0, 0), (1, 1), (2, 5), (3, 9), (4, 11)]), (166, [(0, 0), (1, 2)]), (167, [(0, 0), (1, 2)]), (215, [(0, 0), (1, 2)]), (216, [(0, 0), (1, 2)]), (260, [(0, 0), (1, 2)]), (261, [(0, 0), (1, 2)]), (265, [(0, 0), (1, 4)]), (266, [(0, 0), (1, 4)]), (279, [(0, 0), (1, 2), (2, 4), (3, 5)]), (280, [(0, 0), (1, 2), (2, 4), (3, 5)]), (281, [(0, 0), (1, 1), (2, 2)]), (282, [(0, 0), (1, 1), (2, 2)]), (283, [(0, 0), (1, 2), (2, 4), (3, 7)]), (284, [(0, 0), (1, 2), (2, 4), (3, 7)]), (306, [(0, 0), (1, 2)]), (307, [(0, 0), (1, 2)]), (310, [(0, 0), (1, 1)]), (311, [(0, 0), (1, 1)]), (337, [(0, 0), (1, 1), (2, 2), (3, 3)]), (338, [(0, 0), (1, 1), (2, 2), (3, 3)]), (348, [(0, 0), (1, 1), (2, 2), (3, 3), (4, 4), (5, 5), (6, 6), (7, 7), (8, 8), (9, 9), (10, 10)]), (349, [(0, 0), (1, 1), (2, 2), (3, 3), (4, 4), (5, 5), (6, 6), (7, 7), (8, 8), (9, 9), (10, 10)]), (350, [(0, 0)]), (351, [(0, 0)])]
 nl := [(23, 2, 1), (73, 2, 2), (88, 4, 1), (104, 4, 1), (126, 6, 1), (202, 6, 1), (287, 4, 1), (339, 0, 1)]
 iN := [(7, [(0, 1), (1, 1), (2, 1), (3, 1)]), (8, [(0, 1), (1, 1), (2, 1), (3, 1)]), (13, [(0, 1), (1, 1)]), (14, [(0, 1), (1, 1)]), (18, [(0, 1)]), (19, [(0, 1)]), (23, [(0, 1), (1, 1)]), (33, [(0, 1), (1, 1), (2, 1), (3, 1), (4, 1), (5, 1), (6, 1), (7, 1), (8, 1), (9, 1), (10, 1)]), (34, [(0, 1), (1, 1), (2, 1), (3, 1), (4, 1), (5, 1), (6, 1), (7, 1), (8, 1), (9, 1), (10, 1)]), (44, [(0, 1), (1, 1), (2, 1), (3, 1), (4, 1), (5, 1), (6, 1), (7, 1), (8, 1), (9, 1)]), (45, [(0, 1), (1, 1), (2, 1), (3, 1), (4, 1), (5, 1), (6, 1), (7, 1), (8, 1), (9, 1)]), (49, [(0, 1), (1, 1)]), (50, [(0, 1), (1, 1)]), (52, [(0, 1), (1, 1)]), (53, [(0, 1), (1, 1)]), (54, [(0, 1), (1, 1)]), (55, [(0, 1), (1, 1)]), (58, [(0, 1), (1, 1)]), (59, [(0, 1), (1, 1)]), (61, [(0, 1), (1, 1)]), (62, [(0, 2), (2, 2), (4, 1)]), (63, [(0, 2), (2, 2), (4, 1)]), (64, [(0, 1), (1, 1)]), (73, [(0, 2), (2, 2)]), (88, [(0, 1), (1, 1), (2, 1), (3, 1)]), (91, [(0, 2), (2, 2), (4, 1)]), (97, [(0, 1), (1, 10), (11, 1), (12, 1)]), (98, [(0, 1), (1, 10), (11, 1), (12, 1)]), (104, [(0, 1), (1, 1), (2, 1), (3, 1)]), (109, [(0, 1), (1, 1)]), (110, [(0, 1), (1, 1)]), (111, [(0, 2), (2, 2)]), (112, [(0, 2), (2, 2)]), (113, [(0, 4), (4, 4), (8, 1)]), (114, [(0, 4), (4, 4), (8, 1)]), (121, [(0, 1), (1, 4), (5, 4), (9, 2), (11, 2)]), (122, [(0, 1), (1, 4), (5, 4), (9, 2), (11, 2)]), (126, [(0, 1), (1, 1), (2, 1), (3, 1), (4, 1), (5, 1)]), (138, [(0, 1)]), (139, [(0, 1)]), (140, [(0, 1), (1, 1)]), (141, [(0, 1), (1, 1)]), (158, [(0, 1), (1, 1)]), (159, [(0, 1), (1, 1)]), (160, [(0, 2), (2, 2)]), (161, [(0, 2), (2, 2)]), (162, [(0, 1), (1, 4), (5, 4), (9, 2), (11, 2)]), (163, [(0, 1), (1, 4), (5, 4), (9, 2), (11, 2)]), (166, [(0, 2), (2, 2)]), (167, [(0, 2), (2, 2)]), (202, [(0, 1), (1, 1), (2, 1), (3, 1), (4, 1), (5, 1)]), (215, [(0, 2), (2, 2)]), (216, [(0, 2), (2, 2)]), (260, [(0, 2), (2, 1)]), (261, [(0, 2), (2, 1)]), (265, [(0, 4), (4, 1)]), (266, [(0, 4), (4, 1)]), (279, [(0, 2), (2, 2), (4, 1), (5, 1)]), (280, [(0, 2), (2, 2), (4, 1), (5, 1)]), (281, [(0, 1), (1, 1), (2, 1)]), (282, [(0, 1), (1, 1), (2, 1)]), (283, [(0, 2), (2, 2), (4, 3), (7, 3)]), (284, [(0, 2), (2, 2), (4, 3), (7, 3)]), (287, [(0, 1), (1, 1), (2, 1), (3, 1)]), (306, [(0, 2), (2, 2)]), (307, [(0, 2), (2, 2)]), (310, [(0, 1), (1, 1)]), (311, [(0, 1), (1, 1)]), (337, [(0, 1), (1, 1), (2, 1), (3, 1)]), (338, [(0, 1), (1, 1), (2, 1), (3, 1)]), (340, [(0, 0)]), (341, [(0, 0)]), (348, [(0, 1), (1, 1), (2, 1), (3, 1), (4, 1), (5, 1), (6, 1), (7, 1), (8, 1), (9, 1), (10, 1)]), (349, [(0, 1), (1, 1), (2, 1), (3, 1), (4, 1), (5, 1), (6, 1), (7, 1), (8, 1), (9, 1), (10, 1)]), (350, [(0, 1)]), (351, [(0, 1)])]
theorem wI {α β : Type} {g h : α → β} : ∀ l : List α, l.map g = l.map h → lB (fun p => g p = h p) l
 | [], _ => trivial
 | a :: l, e => by
  rw [lp, lp, List.cons.injEq] at e;exact ⟨e.1, wI l e.2⟩
theorem KM {α β γ : Type} {k : α → List γ} {g h : α → γ → β} : ∀ l : List α, (l.map fun p => (k p).map (g p)) = (l.map fun p => (k p).map (h p)) → lB (fun p => lB (fun q => g p q = h p q) (k p)) l
 | [], _ => trivial
 | a :: l, e => by
  rw [lp, lp, List.cons.injEq] at e;exact ⟨wI _ e.1, KM l e.2⟩
theorem afD : lB (fun p => kE aj p.1 = some p.2) tab.ty := wI _ (by kernel_rfl)
theorem afE : lB (fun p => zeroOf aj p.1 = some p.2) tab.zero := wI _ (by kernel_rfl)
theorem afA : lB (fun p => B3 aj p.1 = some p.2) tab.nl := wI _ (by kernel_rfl)
theorem afC : lB (fun p => Eo aj p.1 = some p.2) tab.iN := wI _ (by kernel_rfl)
theorem afB : lB (fun p => lB (fun q => tL aj p.1 q.1 = some q.2) p.2) tab.nU := KM _ (by kernel_rfl)
instance : FC aj tab := ⟨afD, afE, afB, afA, afC⟩
end Go.Proofs.YtpochbhajmbfdaaGreat
namespace Go.Proofs.YtpochbhajmbfdaaGreat
open Go.RowKit
section
variable {P : Program} {s : aC} {ops : Array Oper} {K : aC → Prop} {rest : List Oper} {ty : Nat} {pos : String} {after : Array Edge} {guard : Option (Nat × Bool)} {d : Nat}
theorem KJ {dc : Nat} {x : Operand} {k : IntKind} {a c : Int} (hw : want ops ⟨some d, .unOp .neg dc x, ty, pos, after, guard⟩ s = some true) (aa : s.look x = some (aR (.int k a))) (ak : k.wrap (-a) = c) (hd : Nat.blt d s.n = true) (h : bi P ops K rest (s.put (some d) (aR (.int k c)))) : bi P ops K (⟨some d, .unOp .neg dc x, ty, pos, after, guard⟩ :: rest) s := by
 refine hn hw aa (fun W => ?_) rfl hd h;rw [← ak, show -a = 0 - a by omega];cases k <;> rfl
end
abbrev jt (l1 l2 h1 h2 : Int) : ai := .w (.agg [.c (.int .i64 l1), .c (.int .i64 l2), .c (.int .i64 h1), .c (.int .i64 h2)])
def dZ (a b c d : Int) : Bool := decide (a = c) && decide (b = d)
theorem sc {a b c d : Int} : dZ a b c d = true ↔ a = c ∧ b = d := by unfold dZ; rw [eo, c0, c0]
def vh (a b c d a' bT c' d' : Int) : Bool := dZ a b a' bT && dZ c d c' d'
class Bu (P : Program) (t : TypeId) : Prop where
 g : P.eqGuardType P.depth t = false
 h : ∀ (a b c d : Int) W, (Op.equalIn 10000 t (.agg #[.int .i64 a, .int .i64 b]) (.agg #[.int .i64 c, .int .i64 d])).run P W = .ok (dZ a b c d) W
class JR (P : Program) (t : TypeId) : Prop where
 g : P.eqGuardType P.depth t = false
 h : ∀ (a b c d a' bT c' d' : Int) W, (Op.equalIn 10000 t (.agg #[.int .i64 a, .int .i64 b, .int .i64 c, .int .i64 d]) (.agg #[.int .i64 a', .int .i64 bT, .int .i64 c', .int .i64 d'])).run P W = .ok (vh a b c d a' bT c' d') W
theorem Cz {P : Program} {op : BinOp} {t : TypeId} {x y : Operand} {u v : Array Value} {W : World} (aw : P.eqGuardType P.depth t = false) : (eqGuard op t x y (.agg u) (.agg v)).run P W = .ok () W := by
 unfold eqGuard;cases op <;> first | rfl | simp [Sem.run_bind, program, Sem.run, Result.andThen, aw]
section
variable {P : Program} {s : aC} {ops : Array Oper} {K : aC → Prop} {rest : List Oper} {ty : Nat} {pos : String} {after : Array Edge} {guard : Option (Nat × Bool)} {d : Nat}
theorem gf {t dK : Nat} {x y : Operand} {a b a' bT : Int} [E : Bu P t] (hw : want ops ⟨some d, .binOp .eql t x y dK, ty, pos, after, guard⟩ s = some true) (aa : s.look x = some (bh a b)) (ag : s.look y = some (bh a' bT)) (hd : Nat.blt d s.n = true) (h : bi P ops K rest (s.put (some d) (bD (dZ a b a' bT)))) : bi P ops K (⟨some d, .binOp .eql t x y dK, ty, pos, after, guard⟩ :: rest) s :=
 fK hw aa ag rfl rfl (fun W => Cz E.g) (fun W => by rw [run_eql_struct, E.h]; rfl) rfl hd h
theorem yy {t dK : Nat} {x y : Operand} {a b a' bT : Int} [E : Bu P t] (hw : want ops ⟨some d, .binOp .neq t x y dK, ty, pos, after, guard⟩ s = some true) (aa : s.look x = some (bh a b)) (ag : s.look y = some (bh a' bT)) (hd : Nat.blt d s.n = true) (h : bi P ops K rest (s.put (some d) (bD (!dZ a b a' bT)))) : bi P ops K (⟨some d, .binOp .neq t x y dK, ty, pos, after, guard⟩ :: rest) s :=
 fK hw aa ag rfl rfl (fun W => Cz E.g) (fun W => by rw [run_neq_struct, E.h]; rfl) rfl hd h
theorem hk {t dK : Nat} {x y : Operand} {a b c e a' bT c' bz : Int} [E : JR P t] (hw : want ops ⟨some d, .binOp .eql t x y dK, ty, pos, after, guard⟩ s = some true) (aa : s.look x = some (jt a b c e)) (ag : s.look y = some (jt a' bT c' bz)) (hd : Nat.blt d s.n = true) (h : bi P ops K rest (s.put (some d) (bD (vh a b c e a' bT c' bz)))) : bi P ops K (⟨some d, .binOp .eql t x y dK, ty, pos, after, guard⟩ :: rest) s :=
 fK hw aa ag rfl rfl (fun W => Cz E.g) (fun W => by rw [run_eql_struct, E.h]; rfl) rfl hd h
end
theorem Wd (a b c d : Int) (W : World) : (Op.equalIn 10000 59 (.agg #[.int .i64 a, .int .i64 b]) (.agg #[.int .i64 c, .int .i64 d])).run aj W = .ok (dZ a b c d) W := by
 unfold dZ
 go_simp
 by_cases h1 : a = c <;> by_cases h2 : b = d <;> simp [h1, h2]
instance ah8 : Bu aj 59 := ⟨by kernel_rfl, Wd⟩
theorem Wc (a b c d : Int) (W : World) : (Op.equalIn 10000 61 (.agg #[.int .i64 a, .int .i64 b]) (.agg #[.int .i64 c, .int .i64 d])).run aj W = .ok (dZ a b c d) W := by
 unfold dZ
 go_simp
 by_cases h1 : a = c <;> by_cases h2 : b = d <;> simp [h1, h2]
instance ah9 : Bu aj 61 := ⟨by kernel_rfl, Wc⟩
end Go.Proofs.YtpochbhajmbfdaaGreat
