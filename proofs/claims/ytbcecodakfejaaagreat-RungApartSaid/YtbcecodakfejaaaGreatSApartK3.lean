/-
  My own texts, without what this claim does not need. My own text.
-/
import Derived.Tactics
import Derived.IntWalk
import Derived.Test.YtbcecodakfejaaaGreatProg
import Derived.ProofKit
import Derived.Laws.StructEq
import Derived.Test.YtbcecodakfejaaaGreatSApartK2
set_option maxRecDepth 100000
set_option maxHeartbeats 64000000
set_option linter.unusedVariables false
set_option linter.unusedSimpArgs false
set_option linter.unusedSectionVars false
open Go.Proofs.Tryz renaming prog → ag
namespace Go.Proofs.YtbcecodakfejaaaGreat
open Go.RowKit
abbrev aM (v : Value) : ah := .w (.one (.c v))
abbrev aB (n : Int) : ah := aM (.int .i64 n)
abbrev bf (b : Bool) : ah := aM (.bool b)
abbrev hy (k off : Nat) : ah := .w (.one (.own k off))
def j8 (P : Program) (ty : TypeId) : Option (Bool × Nat) :=
 match P.underlying ty, P.info? ty with
 | some (.struct _), some i | some (.array _ _), some i => some (true, i.size)
 | some _, some i => some (false, i.size)
 | _, _ => none
class e5 (P : Program) (ty : TypeId) (agg : outParam Bool) (n : outParam Nat) : Prop where
 h : j8 P ty = some (agg, n)
def zeroOf (P : Program) (ty : TypeId) : Option (List Value) := ((P.info? ty).bind (·.zero)).map fun z => z.cells.toList
class AK (P : Program) (ty : TypeId) (vs : outParam (List Value)) : Prop where
 h : zeroOf P ty = some vs
def sM (P : Program) (ty : TypeId) (i : Nat) : Option Nat :=
 match P.underlying ty with
 | some (.struct bc) => (bc[i]?).bind fun f => (P.info? f.type).bind fun t => if t.size = 0 then none else some f.offset
 | _ => none
class mA (P : Program) (ty : TypeId) (i : Nat) (off : outParam Nat) : Prop where
 h : sM P ty i = some off
def AV (P : Program) (ty : TypeId) : Option (Nat × Nat) :=
 match P.underlying ty with
 | some (.array n e) => (P.info? e).map fun t => (n, t.size)
 | _ => none
class IQ (P : Program) (ty : TypeId) (n size : outParam Nat) : Prop where
 h : AV P ty = some (n, size)
def sb (P : Program) (ty : TypeId) : Option Nat :=
 match P.underlying ty with
 | some (.slice e) => (P.info? e).map fun t => t.size
 | _ => none
class hQ (P : Program) (ty : TypeId) (size : outParam Nat) : Prop where
 h : sb P ty = some size
def C7 (P : Program) (ty : TypeId) : Option (List (Nat × Nat)) :=
 match P.underlying ty with
 | some (.struct bc) => bc.toList.mapM fun f => (P.info? f.type).map fun t => (f.offset, t.size)
 | some (.array n e) => bif Nat.ble n 32 then (P.info? e).map fun t => (List.range n).map fun i => (i * t.size, t.size) else none
 | _ => none
class Jd (P : Program) (ty : TypeId) (ps : outParam (List (Nat × Nat))) : Prop where
 h : C7 P ty = some ps
class D7 (P : Program) (ty : TypeId) (k : outParam IntKind) : Prop where
 h : P.underlying ty = some (.int k)
class Enters (P : Program) (f : FuncId) : Prop where
 h : enters P f = true
def takeN : List AC → Nat → Nat → Option (List AC)
 | _, 0, 0 => some []
 | [], _, _ => none
 | c :: cs, 0, n + 1 => match takeN cs 0 n with
  | some r => some (c :: r)
  | none => none
 | _ :: cs, off + 1, n => takeN cs off n
def oH : List AC → Nat → List AC → Option (List AC)
 | cs, 0, [] => some cs
 | [], _, _ => none
 | _ :: cs, 0, d :: ds => match oH cs 0 ds with
  | some r => some (d :: r)
  | none => none
 | c :: cs, off + 1, ds => match oH cs off ds with
  | some r => some (c :: r)
  | none => none
theorem DF : ∀ (cs : List AC) (off n : Nat) (r : List AC), takeN cs off n = some r → off + n ≤ cs.length ∧ (cs.drop off).take n = r
 | cs, 0, 0, r, h => by
  cases cs <;> (simp only [takeN, gP] at h; subst h; simp)
 | [], 0, n + 1, r, h => by simp [takeN] at h
 | [], off + 1, n, r, h => by cases n <;> simp [takeN] at h
 | c :: cs, 0, n + 1, r, h => by
  simp only [takeN] at h
  split at h
  ·rename_i aT al;cases h;have := DF cs 0 n aT al;simp at this ⊢;exact this
  ·cases h
 | c :: cs, off + 1, n, r, h => by
  have aJ : takeN cs off n = some r := by cases n <;> simpa [takeN] using h
  have := DF cs off n r aJ;exact ⟨by have := this.1; simp; omega, by simpa using this.2⟩
theorem zx : ∀ (cs : List AC) (off : Nat) (ds : List AC) (r : List AC), oH cs off ds = some r → off + ds.length ≤ cs.length ∧ eu cs off ds = r
 | cs, 0, [], r, h => by
  cases cs <;> (simp only [oH, gP] at h; subst h; simp [eu])
 | [], 0, d :: ds, r, h => by simp [oH] at h
 | [], off + 1, ds, r, h => by cases ds <;> simp [oH] at h
 | c :: cs, 0, d :: ds, r, h => by
  simp only [oH] at h
  split at h
  ·rename_i aT al;cases h;have := zx cs 0 ds aT al;simp [eu] at this ⊢;exact this
  ·cases h
 | c :: cs, off + 1, ds, r, h => by
  simp only [oH] at h
  split at h
  ·rename_i aT al;cases h;have := zx cs off ds aT al;simp [eu, Nat.add_right_comm] at this ⊢;exact this
  ·cases h
section
variable {P : Program} {s s' : az} {o : Oper} {ops : Array Oper} {rest : List Oper} {K : az → Prop}
theorem gY (h : K s) : a7 P ops K [] s := h
theorem JM {hL : List (Nat × Nat)} (hs : hL.all (lS s) = true) (h : K s) : a7 P ops (fun s => hL.all (lS s) = true ∧ K s) [] s := ⟨hs, h⟩
theorem p9 {e : b4} (hw : want ops o s = some true) (he : eN P s.n s.look s.mem o true e) (hd : ∀ d, o.dst = some d → d < s.n) (h : a7 P ops K rest (e.on o.dst s)) : a7 P ops K (o :: rest) s := ⟨true, hw, e, he, hd, h⟩
section
variable {d ty : Nat} {op : Op} {pos : String} {after : Array Edge} {guard : Option (Nat × Bool)}
theorem jT {d : Nat} (hd : Nat.blt d s.n = true) : ∀ d', some d = some d' → d' < s.n := fun d' e => by cases e; simpa [Nat.blt_eq] using hd
theorem JN {dst : Option Nat} (hw : want ops ⟨dst, op, ty, pos, after, guard⟩ s = some false) (hd : ∀ d, dst = some d → Nat.blt d s.n = true) (h : a7 P ops K rest (s.put dst (.cj []))) : a7 P ops K (⟨dst, op, ty, pos, after, guard⟩ :: rest) s :=
 ⟨false, hw, _, .skip, fun d e => by have := hd d e; simpa [Nat.blt_eq] using this, h⟩
theorem fF {av : ah} (hw : want ops ⟨some d, op, ty, pos, after, guard⟩ s = some true) (ak : vv P s.look ⟨some d, op, ty, pos, after, guard⟩ av) (hd : Nat.blt d s.n = true) (h : a7 P ops K rest (s.put (some d) av)) : a7 P ops K (⟨some d, op, ty, pos, after, guard⟩ :: rest) s :=
 p9 hw (.quiet av ak) (jT hd) h
theorem T6 {x : Operand} {av : ah} (hw : want ops ⟨some d, .move x, ty, pos, after, guard⟩ s = some true) (aa : s.look x = some av) (hd : Nat.blt d s.n = true) (h : a7 P ops K rest (s.put (some d) av)) : a7 P ops K (⟨some d, .move x, ty, pos, after, guard⟩ :: rest) s := by
 refine fF hw ⟨fun _ _ h => (by cases h), fun y ai => ?_, fun U ad W env he => ⟨env x, rfl, he x (by simp [Op.operands]) av aa⟩, fun j ae => ⟨x, by simp [Op.operands], av, aa, ae⟩⟩ hd h;simp [Op.operands] at ai;subst ai;exact ⟨av, aa⟩
theorem Tz {x : Operand} {av : ah} (hw : want ops ⟨some d, .assign x, ty, pos, after, guard⟩ s = some true) (aa : s.look x = some av) (hd : Nat.blt d s.n = true) (h : a7 P ops K rest (s.put (some d) av)) : a7 P ops K (⟨some d, .assign x, ty, pos, after, guard⟩ :: rest) s := by
 refine fF hw ⟨fun _ _ h => (by cases h), fun y ai => ?_, fun U ad W env he => ⟨env x, rfl, he x (by simp [Op.operands]) av aa⟩, fun j ae => ⟨x, by simp [Op.operands], av, aa, ae⟩⟩ hd h;simp [Op.operands] at ai;subst ai;exact ⟨av, aa⟩
theorem TL {x : Operand} {i : Nat} {xs : List br} {y : br} (hw : want ops ⟨some d, .extract x i, ty, pos, after, guard⟩ s = some true) (aa : s.look x = some (.cj xs)) (hi : xs[i]? = some y) (hd : Nat.blt d s.n = true) (h : a7 P ops K rest (s.put (some d) (.w y))) : a7 P ops K (⟨some d, .extract x i, ty, pos, after, guard⟩ :: rest) s := by
 refine fF (av := .w y) hw ⟨fun _ _ h => (by cases h), fun y ai => ?_, fun U ad W env he => ?_, fun j ae => ⟨x, by simp [Op.operands], _, aa, ⟨y, c5 hi, ae⟩⟩⟩ hd h
 ·simp [Op.operands] at ai;subst ai;exact ⟨_, aa⟩
 ·obtain ⟨vs, e, hl, hv⟩ := he x (by simp [Op.operands]) _ aa;have a8 : i < vs.length := by rw [← hl]; exact (bF.1 hi).1
  refine ⟨vs[i], ?_, hv i y _ hi (bQ a8)⟩;simp only [execOp, Instr.extract, e];simp [a8]
theorem TO {x : Operand} {pP i k off hU : Nat} [F : mA P pP i hU] (hw : want ops ⟨some d, .fieldAddr pP x i, ty, pos, after, guard⟩ s = some true) (aa : s.look x = some (hy k off)) (hd : Nat.blt d s.n = true) (h : a7 P ops K rest (s.put (some d) (hy k (off + hU)))) : a7 P ops K (⟨some d, .fieldAddr pP x i, ty, pos, after, guard⟩ :: rest) s := by
 refine fF hw ⟨fun _ _ h => (by cases h), fun y ai => ?_, fun U ad W env he => ?_, fun j ae => ⟨x, by simp [Op.operands], _, aa, ?_⟩⟩ hd h
 ·simp [Op.operands] at ai;subst ai;exact ⟨_, aa⟩
 ·have hp : env x = .pointer (some ⟨ad k, off, none⟩) := he x (by simp [Op.operands]) _ aa;have hF := F.h;unfold sM at hF
  split at hF
  ·rename_i bc hu;cases ap : bc[i]? with
   | none => rw [ap] at hF; cases hF
   | some f =>
    rw [ap] at hF;simp only [j2] at hF;cases hi : P.info? f.type with
    | none => rw [hi] at hF; cases hF
    | some t =>
     rw [hi] at hF;simp only [j2] at hF
     split at hF
     ·cases hF
     ·rename_i bX;cases hF;refine ⟨.pointer (some ⟨ad k, off + f.offset, none⟩), ?_, rfl⟩;have kj : (⟨ad k, off, none⟩ : Addr).add f.offset = ⟨ad k, off + f.offset, none⟩ := by unfold Addr.add; split <;> simp_all
      simp only [execOp, Instr.fieldAt, hp, Instr.sureAddr, Sem.run_bind, Sem.run_pure, Result.andThen_ok, run_underlying hu, ap, fieldPlace, ht hi, if_neg bX, kj]
  ·cases hF
 ·obtain ⟨y, ai, lE⟩ := ae;exact ⟨.own k off, by simp [br.cells], by simp [br.cells] at ai; subst ai; exact lE⟩
theorem JK {x y : Operand} {EJ k off n size : Nat} {gx : IntKind} {i : Int} [A : IQ P EJ n size] (hw : want ops ⟨some d, .indexAddr EJ x y, ty, pos, after, guard⟩ s = some true) (aa : s.look x = some (hy k off)) (ai : s.look y = some (aM (.int gx i))) (aA : 0 ≤ i) (h1 : i < n) (hd : Nat.blt d s.n = true) (h : a7 P ops K rest (s.put (some d) (hy k (off + i.toNat * size)))) : a7 P ops K (⟨some d, .indexAddr EJ x y, ty, pos, after, guard⟩ :: rest) s := by
 refine fF hw ⟨fun _ _ h => (by cases h), fun z aI => ?_, fun U ad W env he => ?_, fun j ae => ⟨x, by simp [Op.operands], _, aa, ?_⟩⟩ hd h
 ·simp [Op.operands] at aI;rcases aI with rfl | rfl
  ·exact ⟨_, aa⟩
  ·exact ⟨_, ai⟩
 ·have hp : env x = .pointer (some ⟨ad k, off, none⟩) := he x (by simp [Op.operands]) _ aa;have hi : env y = .int gx i := (he y (by simp [Op.operands]) _ ai).1;have dR := A.h;unfold AV at dR
  split at dR
  ·rename_i n' e hu;cases cP : P.info? e with
   | none => rw [cP] at dR; cases dR
   | some t =>
    rw [cP] at dR;cases dR;refine ⟨.pointer (some ⟨ad k, off + i.toNat * t.size, none⟩), ?_, rfl⟩;have kj : (⟨ad k, off, none⟩ : Addr).add (i.toNat * t.size) = ⟨ad k, off + i.toNat * t.size, none⟩ := by unfold Addr.add; split <;> simp_all
    simp only [execOp, Instr.indexAt, hp, hi, asIntOf, Instr.sureAddr, Sem.run_bind, Sem.run_pure, Result.andThen_ok, run_underlying hu, ht cP, if_pos (And.intro aA h1), kj]
  ·cases dR
 ·obtain ⟨y, ai, lE⟩ := ae;exact ⟨.own k off, by simp [br.cells], by simp [br.cells] at ai; subst ai; exact lE⟩
theorem afW {ty n : Nat} (h : j8 P ty = some (false, n)) {cs : List AC} {off : Nat} {y : AC} (aj : cs[off]? = some y) : pick P ty cs off = some (.one y) := by
 unfold j8 at h;unfold pick;cases hu : P.underlying ty with
 | none => rw [hu] at h; cases h
 | some D =>
  cases hi : P.info? ty with
  | none => rw [hu, hi] at h; cases D <;> cases h
  | some i =>
   rw [hu, hi] at h;cases D <;> first | (simp only [aj, gC]; done) | (exfalso; cases h)
theorem Rr {ty n : Nat} (h : j8 P ty = some (true, n)) {cs aO : List AC} {off : Nat} (aj : takeN cs off n = some aO) : pick P ty cs off = some (.agg aO) := by
 obtain ⟨h1, h2⟩ := DF _ _ _ _ aj;unfold j8 at h;unfold pick
 split at h
 ·rename_i i hu hi; cases h; simp only [hu, hi, j2, if_pos h1, h2]
 ·rename_i i hu hi; cases h; simp only [hu, hi, j2, if_pos h1, h2]
 ·cases h
 ·cases h
theorem afV {ty n : Nat} {b : Bool} (h : j8 P ty = some (b, n)) : ∃ i, P.info? ty = some i ∧ i.size = n := by
 unfold j8 at h
 split at h
 ·rename_i i hu hi; cases h; exact ⟨i, hi, rfl⟩
 ·rename_i i hu hi; cases h; exact ⟨i, hi, rfl⟩
 ·rename_i i _ _ hu hi; cases h; exact ⟨_, hi, rfl⟩
 ·cases h
theorem TX {x : Operand} {lt k off n : Nat} {cs : List AC} {y : AC} [T : e5 P lt false n] (hw : want ops ⟨some d, .load lt x, ty, pos, after, guard⟩ s = some true) (aa : s.look x = some (hy k off)) (hm : s.mem k = some cs) (aj : cs[off]? = some y) (hd : Nat.blt d s.n = true) (h : a7 P ops K rest (s.put (some d) (.w (.one y)))) : a7 P ops K (⟨some d, .load lt x, ty, pos, after, guard⟩ :: rest) s :=
 p9 hw (.load lt x k off cs _ rfl aa hm (afW T.h aj)) (jT hd) h
theorem TY {x : Operand} {lt k off n : Nat} {cs aO : List AC} [T : e5 P lt true n] (hw : want ops ⟨some d, .load lt x, ty, pos, after, guard⟩ s = some true) (aa : s.look x = some (hy k off)) (hm : s.mem k = some cs) (aj : takeN cs off n = some aO) (hd : Nat.blt d s.n = true) (h : a7 P ops K rest (s.put (some d) (.w (.agg aO)))) : a7 P ops K (⟨some d, .load lt x, ty, pos, after, guard⟩ :: rest) s :=
 p9 hw (.load lt x k off cs _ rfl aa hm (Rr T.h aj)) (jT hd) h
theorem Um {x y : Operand} {st k off n : Nat} {b : Bool} {cs ds : List AC} {z : br} [T : e5 P st b n] (hw : want ops ⟨none, .store st x y, ty, pos, after, guard⟩ s = some true) (aa : s.look x = some (hy k off)) (ai : s.look y = some (.w z)) (hm : s.mem k = some cs) (au : Nat.beq n z.cells.length = true) (hp : oH cs off z.cells = some ds) (h : a7 P ops K rest (s.dT k ds)) : a7 P ops K (⟨none, .store st x y, ty, pos, after, guard⟩ :: rest) s := by
 obtain ⟨i, hi, hs⟩ := afV T.h;obtain ⟨h1, h2⟩ := zx _ _ _ _ hp;refine p9 hw (.store st x y k off cs z i rfl aa ai hm hi (by rw [hs]; exact gl au) h1) (fun d e => by cases e) ?_;simp only [b4.on, h2];exact h
theorem Tx {ig : Nat} {vs : List Value} [Z : AK P ig vs] (hw : want ops ⟨some d, .alloc ig, ty, pos, after, guard⟩ s = some true) (hm : s.mem d = none) (h1 : (vs.all fun v => v.oneCell') = true) (hd : Nat.blt d s.n = true) (h : a7 P ops K rest ((s.dT d (vs.map .c)).put (some d) (hy d 0))) : a7 P ops K (⟨some d, .alloc ig, ty, pos, after, guard⟩ :: rest) s := by
 have aI := Z.h;unfold zeroOf at aI;cases hi : P.info? ig with
 | none => rw [hi] at aI; cases aI
 | some i =>
  rw [hi] at aI;simp only [j2] at aI;cases hh : i.zero with
  | none => rw [hh] at aI; cases aI
  | some z =>
   rw [hh] at aI;cases aI;exact p9 hw (.new _ d rfl hm (.alloc ig i z _ rfl hi hh rfl h1)) (jT hd) h
theorem TA {EO : Nat} {x : Operand} {z : br} (hw : want ops ⟨some d, .box EO x, ty, pos, after, guard⟩ s = some true) (aa : s.look x = some (.w z)) (hm : s.mem d = none) (hd : Nat.blt d s.n = true) (h : a7 P ops K rest ((s.dT d z.cells).put (some d) (hy d 0))) : a7 P ops K (⟨some d, .box EO x, ty, pos, after, guard⟩ :: rest) s :=
 p9 hw (.new _ d rfl hm (.box EO x z rfl aa)) (jT hd) h
def sK : List AC → Option (List Value)
 | [] => some []
 | .c v :: xs => match sK xs with
  | some r => some (v :: r)
  | none => none
 | _ :: _ => none
def l6 : br → Option Value
 | .one (.c v) => some v
 | .one _ => none
 | .agg xs => match sK xs with
  | some r => some (.agg r.toArray)
  | none => none
theorem Ln {U : Nat → Prop} {ad : Nat → Nat} {W : World} : ∀ (xs : List AC) (vs r : List Value), bH U ad W xs vs → sK xs = some r → vs = r
 | [], vs, r, h, he => by cases he; have := h.1; exact j3 this.symm
 | .c v :: xs, vs, r, h, he => by
  simp only [sK] at he
  split at he
  ·rename_i aT al;cases he;cases vs with
   | nil => have := h.1; cases this
   | cons u us =>
    have aA : u = v := (h.2 0 _ _ rfl rfl).1;have := Ln xs us aT ⟨by have := h.1; simpa using this, fun i x w aa hw => h.2 (i + 1) x w (by simpa using aa) (by simpa using hw)⟩ al;rw [aA, this]
  ·cases he
 | .own _ _ :: _, _, _, _, he => by cases he
 | .p _ :: _, _, _, _, he => by cases he
theorem Bm {U : Nat → Prop} {ad : Nat → Nat} {W : World} {x : br} {v u : Value} (h : fE U ad W x v) (he : l6 x = some u) : v = u := by
 cases x with
 | one y => cases y with
  | c w => cases he; exact h.1
  | own => cases he
  | p => cases he
 | agg xs =>
  simp only [l6] at he
  split at he
  ·rename_i r al;cases he;obtain ⟨vs, rfl, hl⟩ := h;rw [Ln xs vs r hl al]
  ·cases he
theorem iR (v : Value) (j : Nat) : ¬ (aM v).owns j := fun ⟨y, ai, h⟩ => by simp [br.cells] at ai; subst ai; cases h
theorem ue {rc : BinOp} {cV dK : Nat} {x y : Operand} {a b : br} {iA fa v : Value} (hw : want ops ⟨some d, .binOp rc cV x y dK, ty, pos, after, guard⟩ s = some true) (aa : s.look x = some (.w a)) (ai : s.look y = some (.w b)) (ih : l6 a = some iA) (ly : l6 b = some fa)
  (ao : ∀ W, (eqGuard rc cV x y iA fa).run P W = .ok () W) (al : ∀ W, (binOp rc cV iA fa).run P W = .ok v W) (h1 : v.oneCell' = true) (hd : Nat.blt d s.n = true) (h : a7 P ops K rest (s.put (some d) (aM v))) : a7 P ops K (⟨some d, .binOp rc cV x y dK, ty, pos, after, guard⟩ :: rest) s := by
 refine fF (av := aM v) hw ⟨fun _ _ h => (by cases h), fun z aI => ?_, fun U ad W env he => ⟨v, ?_, ⟨rfl, h1⟩⟩, fun j ae => absurd ae (iR v j)⟩ hd h
 ·simp [Op.operands] at aI;rcases aI with rfl | rfl
  ·exact ⟨_, aa⟩
  ·exact ⟨_, ai⟩
 ·have aF : env x = iA := Bm (he x (by simp [Op.operands]) _ aa) ih;have aN : env y = fa := Bm (he y (by simp [Op.operands]) _ ai) ly;simp only [execOp, aF, aN, Sem.run_bind, ao, Result.andThen_ok, al, Sem.run_pure]
theorem p8 {rc : BinOp} {cV dK : Nat} {x y : Operand} {k : IntKind} {a b : Int} {v : Value} (hw : want ops ⟨some d, .binOp rc cV x y dK, ty, pos, after, guard⟩ s = some true) (aa : s.look x = some (aM (.int k a))) (ai : s.look y = some (aM (.int k b)))
  (al : ∀ W, (binOp rc cV (.int k a) (.int k b)).run P W = .ok v W) (h1 : v.oneCell' = true) (hd : Nat.blt d s.n = true) (h : a7 P ops K rest (s.put (some d) (aM v))) : a7 P ops K (⟨some d, .binOp rc cV x y dK, ty, pos, after, guard⟩ :: rest) s :=
 ue hw aa ai rfl rfl (fun W => by unfold eqGuard; cases rc <;> rfl) al h1 hd h
theorem T1 {cV dK : Nat} {x y : Operand} {k : IntKind} {a b : Int} (hw : want ops ⟨some d, .binOp .lss cV x y dK, ty, pos, after, guard⟩ s = some true) (aa : s.look x = some (aM (.int k a))) (ai : s.look y = some (aM (.int k b))) (hd : Nat.blt d s.n = true) (h : a7 P ops K rest (s.put (some d) (bf (decide (a < b))))) : a7 P ops K (⟨some d, .binOp .lss cV x y dK, ty, pos, after, guard⟩ :: rest) s :=
 p8 hw aa ai (fun W => by cases k <;> rfl) rfl hd h
theorem TW {cV dK : Nat} {x y : Operand} {k : IntKind} {a b : Int} (hw : want ops ⟨some d, .binOp .leq cV x y dK, ty, pos, after, guard⟩ s = some true) (aa : s.look x = some (aM (.int k a))) (ai : s.look y = some (aM (.int k b))) (hd : Nat.blt d s.n = true) (h : a7 P ops K rest (s.put (some d) (bf (decide (a ≤ b))))) : a7 P ops K (⟨some d, .binOp .leq cV x y dK, ty, pos, after, guard⟩ :: rest) s :=
 p8 hw aa ai (fun W => by cases k <;> rfl) rfl hd h
theorem TS {cV dK : Nat} {x y : Operand} {k : IntKind} {a b : Int} (hw : want ops ⟨some d, .binOp .gtr cV x y dK, ty, pos, after, guard⟩ s = some true) (aa : s.look x = some (aM (.int k a))) (ai : s.look y = some (aM (.int k b))) (hd : Nat.blt d s.n = true) (h : a7 P ops K rest (s.put (some d) (bf (decide (b < a))))) : a7 P ops K (⟨some d, .binOp .gtr cV x y dK, ty, pos, after, guard⟩ :: rest) s :=
 p8 hw aa ai (fun W => by cases k <;> rfl) rfl hd h
theorem TR {cV dK : Nat} {x y : Operand} {k : IntKind} {a b : Int} (hw : want ops ⟨some d, .binOp .geq cV x y dK, ty, pos, after, guard⟩ s = some true) (aa : s.look x = some (aM (.int k a))) (ai : s.look y = some (aM (.int k b))) (hd : Nat.blt d s.n = true) (h : a7 P ops K rest (s.put (some d) (bf (decide (b ≤ a))))) : a7 P ops K (⟨some d, .binOp .geq cV x y dK, ty, pos, after, guard⟩ :: rest) s :=
 p8 hw aa ai (fun W => by cases k <;> rfl) rfl hd h
theorem TI {cV dK : Nat} {x y : Operand} {k : IntKind} {a b : Int} (hw : want ops ⟨some d, .binOp .eql cV x y dK, ty, pos, after, guard⟩ s = some true) (aa : s.look x = some (aM (.int k a))) (ai : s.look y = some (aM (.int k b))) (hd : Nat.blt d s.n = true) (h : a7 P ops K rest (s.put (some d) (bf (decide (a = b))))) : a7 P ops K (⟨some d, .binOp .eql cV x y dK, ty, pos, after, guard⟩ :: rest) s :=
 p8 hw aa ai (fun W => by cases k <;> rfl) rfl hd h
theorem T9 {cV dK : Nat} {x y : Operand} {k : IntKind} {a b : Int} (hw : want ops ⟨some d, .binOp .neq cV x y dK, ty, pos, after, guard⟩ s = some true) (aa : s.look x = some (aM (.int k a))) (ai : s.look y = some (aM (.int k b))) (hd : Nat.blt d s.n = true) (h : a7 P ops K rest (s.put (some d) (bf (!decide (a = b))))) : a7 P ops K (⟨some d, .binOp .neq cV x y dK, ty, pos, after, guard⟩ :: rest) s :=
 p8 hw aa ai (fun W => by cases k <;> rfl) rfl hd h
theorem Tw {cV dK : Nat} {x y : Operand} {k : IntKind} {a b c : Int} (hw : want ops ⟨some d, .binOp .add cV x y dK, ty, pos, after, guard⟩ s = some true) (aa : s.look x = some (aM (.int k a))) (ai : s.look y = some (aM (.int k b))) (aj : k.wrap (a + b) = c) (hd : Nat.blt d s.n = true) (h : a7 P ops K rest (s.put (some d) (aM (.int k c)))) : a7 P ops K (⟨some d, .binOp .add cV x y dK, ty, pos, after, guard⟩ :: rest) s :=
 p8 hw aa ai (fun W => by rw [← aj]; cases k <;> rfl) rfl hd h
theorem Un {cV dK : Nat} {x y : Operand} {k : IntKind} {a b c : Int} (hw : want ops ⟨some d, .binOp .sub cV x y dK, ty, pos, after, guard⟩ s = some true) (aa : s.look x = some (aM (.int k a))) (ai : s.look y = some (aM (.int k b))) (aj : k.wrap (a - b) = c) (hd : Nat.blt d s.n = true) (h : a7 P ops K rest (s.put (some d) (aM (.int k c)))) : a7 P ops K (⟨some d, .binOp .sub cV x y dK, ty, pos, after, guard⟩ :: rest) s :=
 p8 hw aa ai (fun W => by rw [← aj]; cases k <;> rfl) rfl hd h
theorem T7 {cV dK : Nat} {x y : Operand} {k : IntKind} {a b c : Int} (hw : want ops ⟨some d, .binOp .mul cV x y dK, ty, pos, after, guard⟩ s = some true) (aa : s.look x = some (aM (.int k a))) (ai : s.look y = some (aM (.int k b))) (aj : k.wrap (a * b) = c) (hd : Nat.blt d s.n = true) (h : a7 P ops K rest (s.put (some d) (aM (.int k c)))) : a7 P ops K (⟨some d, .binOp .mul cV x y dK, ty, pos, after, guard⟩ :: rest) s :=
 p8 hw aa ai (fun W => by rw [← aj]; cases k <;> rfl) rfl hd h
theorem la {n : Int} (h : -9223372036854775808 ≤ n ∧ n < 9223372036854775808) : IntKind.i64.wrap n = n := IntWalk.i64_in n (by omega)
theorem Ue {cV : Nat} {x : Operand} {b : Bool} (hw : want ops ⟨some d, .unOp .not cV x, ty, pos, after, guard⟩ s = some true) (aa : s.look x = some (bf b)) (hd : Nat.blt d s.n = true) (h : a7 P ops K rest (s.put (some d) (bf (!b)))) : a7 P ops K (⟨some d, .unOp .not cV x, ty, pos, after, guard⟩ :: rest) s := by
 refine fF (av := bf (!b)) hw ⟨fun _ _ h => (by cases h), fun z aI => ?_, fun U ad W env he => ⟨.bool (!b), ?_, ⟨rfl, rfl⟩⟩, fun j ae => absurd ae (iR _ j)⟩ hd h
 ·simp [Op.operands] at aI; subst aI; exact ⟨_, aa⟩
 ·have aF : env x = .bool b := (he x (by simp [Op.operands]) _ aa).1;simp only [execOp, aF, Sem.run_bind, Op.unary];rfl
theorem JO {ID : UnOp} {cV : Nat} {x : Operand} {iA v : Value} (hw : want ops ⟨some d, .unOp ID cV x, ty, pos, after, guard⟩ s = some true) (aa : s.look x = some (aM iA)) (al : ∀ W, (Op.unary ID iA).run P W = .ok v W) (h1 : v.oneCell' = true) (hd : Nat.blt d s.n = true) (h : a7 P ops K rest (s.put (some d) (aM v))) : a7 P ops K (⟨some d, .unOp ID cV x, ty, pos, after, guard⟩ :: rest) s := by
 refine fF (av := aM v) hw ⟨fun _ _ h => (by cases h), fun z aI => ?_, fun U ad W env he => ⟨v, ?_, ⟨rfl, h1⟩⟩, fun j ae => absurd ae (iR v j)⟩ hd h
 ·simp [Op.operands] at aI; subst aI; exact ⟨_, aa⟩
 ·have aF : env x = iA := (he x (by simp [Op.operands]) _ aa).1;simp only [execOp, aF, Sem.run_bind, al, Result.andThen_ok, Sem.run_pure]
theorem JI {src dst : Nat} {x : Operand} {iA v : Value} (hw : want ops ⟨some d, .convert src dst x, ty, pos, after, guard⟩ s = some true) (aa : s.look x = some (aM iA)) (al : ∀ W, (convert src dst iA).run P W = .ok v W) (h1 : v.oneCell' = true) (hd : Nat.blt d s.n = true) (h : a7 P ops K rest (s.put (some d) (aM v))) : a7 P ops K (⟨some d, .convert src dst x, ty, pos, after, guard⟩ :: rest) s := by
 refine fF (av := aM v) hw ⟨fun _ _ h => (by cases h), fun z aI => ?_, fun U ad W env he => ⟨v, ?_, ⟨rfl, h1⟩⟩, fun j ae => absurd ae (iR v j)⟩ hd h
 ·simp [Op.operands] at aI; subst aI; exact ⟨_, aa⟩
 ·have aF : env x = iA := (he x (by simp [Op.operands]) _ aa).1;simp only [execOp, aF, Sem.run_bind, al, Result.andThen_ok, Sem.run_pure]
theorem TE {src dst n : Nat} {b : Bool} {k k' : IntKind} {x : Operand} {a c : Int} [S : e5 P src b n] [I : D7 P dst k'] (hw : want ops ⟨some d, .convert src dst x, ty, pos, after, guard⟩ s = some true) (aa : s.look x = some (aM (.int k a))) (aj : k'.wrap a = c) (hd : Nat.blt d s.n = true) (h : a7 P ops K rest (s.put (some d) (aM (.int k' c)))) : a7 P ops K (⟨some d, .convert src dst x, ty, pos, after, guard⟩ :: rest) s := by
 refine JI hw aa (fun W => ?_) rfl hd h
 have hs : ∃ D, P.underlying src = some D := by
  have := S.h;unfold j8 at this;cases hu : P.underlying src with
  | none => rw [hu] at this; cases this
  | some D => exact ⟨D, rfl⟩
 obtain ⟨D, hs⟩ := hs;unfold convert;simp only [Sem.run_bind, run_underlying hs, run_underlying I.h, Result.andThen_ok];rw [← aj];cases D <;> rfl
theorem Ug {c x y : Operand} {av : ah} (hw : want ops ⟨some d, .pick c x y, ty, pos, after, guard⟩ s = some true) (aj : s.look c = some (bf true)) (aa : s.look x = some av) {bv : ah} (ai : s.look y = some bv) (hd : Nat.blt d s.n = true) (h : a7 P ops K rest (s.put (some d) av)) : a7 P ops K (⟨some d, .pick c x y, ty, pos, after, guard⟩ :: rest) s := by
 refine fF hw ⟨fun _ _ h => (by cases h), fun z aI => ?_, fun U ad W env he => ⟨env x, ?_, he x (by simp [Op.operands]) av aa⟩, fun j ae => ⟨x, by simp [Op.operands], av, aa, ae⟩⟩ hd h
 ·simp [Op.operands] at aI;rcases aI with rfl | rfl | rfl
  ·exact ⟨_, aj⟩
  ·exact ⟨_, aa⟩
  ·exact ⟨_, ai⟩
 ·have aF : env c = .bool true := (he c (by simp [Op.operands]) _ aj).1;simp [execOp, aF, asBool]
theorem Uf {c x y : Operand} {av : ah} (hw : want ops ⟨some d, .pick c x y, ty, pos, after, guard⟩ s = some true) (aj : s.look c = some (bf false)) (aa : s.look y = some av) {bv : ah} (ai : s.look x = some bv) (hd : Nat.blt d s.n = true) (h : a7 P ops K rest (s.put (some d) av)) : a7 P ops K (⟨some d, .pick c x y, ty, pos, after, guard⟩ :: rest) s := by
 refine fF hw ⟨fun _ _ h => (by cases h), fun z aI => ?_, fun U ad W env he => ⟨env y, ?_, he y (by simp [Op.operands]) av aa⟩, fun j ae => ⟨y, by simp [Op.operands], av, aa, ae⟩⟩ hd h
 ·simp [Op.operands] at aI;rcases aI with rfl | rfl | rfl
  ·exact ⟨_, aj⟩
  ·exact ⟨_, ai⟩
  ·exact ⟨_, aa⟩
 ·have aF : env c = .bool false := (he c (by simp [Op.operands]) _ aj).1;simp [execOp, aF, asBool]
theorem vA {f : FuncId} {g : Operand} {aL : Array TypeId} {l : List Operand} {args : List ah} {r : ah} [E : Enters P f] (hw : want ops ⟨some d, .call ⟨.value g, l.toArray, aL⟩, ty, pos, after, guard⟩ s = some true) (ao : s.look g = some (aM (.func (.func f) #[] #[]))) (aH : l.map s.look = args.map some) (hp : aC P f args r) (hd : Nat.blt d s.n = true) (h : a7 P ops K rest (s.put (some d) r)) :
  a7 P ops K (⟨some d, .call ⟨.value g, l.toArray, aL⟩, ty, pos, after, guard⟩ :: rest) s :=
 p9 hw (.call f args r ⟨⟨_, g, rfl, rfl, .inl ⟨[], ao, by simpa using aH, rfl⟩⟩, E.h⟩ hp) (jT hd) h
theorem sA {f : FuncId} {g : Operand} {aL : Array TypeId} {l : List Operand} {bs : List Value} {args : List ah} {r : ah} [E : Enters P f] (hw : want ops ⟨some d, .call ⟨.value g, l.toArray, aL⟩, ty, pos, after, guard⟩ s = some true) (ao : s.look g = some (aM (.func (.func f) bs.toArray #[]))) (ab : bs.all A4 = true) (aH : l.map s.look = args.map some) (hp : aC P f (bs.map wT ++ args) r) (hd : Nat.blt d s.n = true) (h : a7 P ops K rest (s.put (some d) r)) :
  a7 P ops K (⟨some d, .call ⟨.value g, l.toArray, aL⟩, ty, pos, after, guard⟩ :: rest) s :=
 p9 hw (.call f _ r ⟨⟨_, g, rfl, rfl, .inl ⟨bs, ao, by rw [List.toList_toArray, aH, List.map_append, List.map_map]; rfl, ab⟩⟩, E.h⟩ hp) (jT hd) h
theorem sy {f : FuncId} {g : Operand} {aL : Array TypeId} {l : List Operand} {cs : List AC} {args : List ah} {r : ah} [E : Enters P f] (hw : want ops ⟨some d, .call ⟨.value g, l.toArray, aL⟩, ty, pos, after, guard⟩ s = some true) (ao : s.look g = some (.w (.one (.p (oT (.func f) cs))))) (aH : l.map s.look = args.map some) (hp : aC P f (args ++ cs.map fun x => .w (.one x)) r) (hd : Nat.blt d s.n = true) (h : a7 P ops K rest (s.put (some d) r)) :
  a7 P ops K (⟨some d, .call ⟨.value g, l.toArray, aL⟩, ty, pos, after, guard⟩ :: rest) s :=
 p9 hw (.call f _ r ⟨⟨_, g, rfl, rfl, .inr ⟨cs, ao, by rw [List.toList_toArray, aH, List.map_append, List.map_map]; rfl⟩⟩, E.h⟩ hp) (jT hd) h
theorem T5 {fn : Fn} {x : Operand} {a : br} {iA : Value} (hw : want ops ⟨some d, .makeFunc fn #[x] #[], ty, pos, after, guard⟩ s = some true) (aa : s.look x = some (.w a)) (ih : l6 a = some iA) (hd : Nat.blt d s.n = true) (h : a7 P ops K rest (s.put (some d) (aM (.func fn #[iA] #[])))) : a7 P ops K (⟨some d, .makeFunc fn #[x] #[], ty, pos, after, guard⟩ :: rest) s := by
 refine fF (av := aM (.func fn #[iA] #[])) hw ⟨fun _ _ h => (by cases h), fun z aI => ?_, fun U ad W env he => ⟨.func fn #[iA] #[], ?_, ⟨rfl, rfl⟩⟩, fun j ae => absurd ae (iR _ j)⟩ hd h
 ·simp [Op.operands] at aI; subst aI; exact ⟨_, aa⟩
 ·have aF : env x = iA := Bm (he x (by simp [Op.operands]) _ aa) ih;have em : (#[x] : Array Operand).map env = #[iA] := by simp [aF]
  simp only [execOp, em, Array.map_empty, Instr.makeFunc, Sem.run_bind, Sem.run_pure, Result.andThen_ok]
theorem JF {f : FuncId} {g : Operand} {aL : Array TypeId} {r : ah} [E : Enters P f] (hw : want ops ⟨some d, .call ⟨.value g, #[], aL⟩, ty, pos, after, guard⟩ s = some true) (ao : s.look g = some (aM (.func (.func f) #[] #[]))) (hp : aC P f [] r) (hd : Nat.blt d s.n = true) (h : a7 P ops K rest (s.put (some d) r)) : a7 P ops K (⟨some d, .call ⟨.value g, #[], aL⟩, ty, pos, after, guard⟩ :: rest) s :=
 vA (l := []) hw ao rfl hp hd h
theorem EA {f : FuncId} {g : Operand} {aL : Array TypeId} {b8 : Operand} {a1 : ah} {r : ah} [E : Enters P f] (hw : want ops ⟨some d, .call ⟨.value g, #[b8], aL⟩, ty, pos, after, guard⟩ s = some true) (ao : s.look g = some (aM (.func (.func f) #[] #[]))) (h1 : s.look b8 = some a1) (hp : aC P f [a1] r) (hd : Nat.blt d s.n = true) (h : a7 P ops K rest (s.put (some d) r)) : a7 P ops K (⟨some d, .call ⟨.value g, #[b8], aL⟩, ty, pos, after, guard⟩ :: rest) s :=
 vA (l := [b8]) hw ao (by simp [h1]) hp hd h
theorem EB {f : FuncId} {g : Operand} {aL : Array TypeId} {b8 cp : Operand} {a1 a2 : ah} {r : ah} [E : Enters P f] (hw : want ops ⟨some d, .call ⟨.value g, #[b8, cp], aL⟩, ty, pos, after, guard⟩ s = some true) (ao : s.look g = some (aM (.func (.func f) #[] #[]))) (h1 : s.look b8 = some a1) (h2 : s.look cp = some a2) (hp : aC P f [a1, a2] r) (hd : Nat.blt d s.n = true) (h : a7 P ops K rest (s.put (some d) r)) : a7 P ops K (⟨some d, .call ⟨.value g, #[b8, cp], aL⟩, ty, pos, after, guard⟩ :: rest) s :=
 vA (l := [b8, cp]) hw ao (by simp [h1, h2]) hp hd h
theorem EC {f : FuncId} {g : Operand} {aL : Array TypeId} {b8 cp jM : Operand} {a1 a2 a3 : ah} {r : ah} [E : Enters P f] (hw : want ops ⟨some d, .call ⟨.value g, #[b8, cp, jM], aL⟩, ty, pos, after, guard⟩ s = some true) (ao : s.look g = some (aM (.func (.func f) #[] #[]))) (h1 : s.look b8 = some a1) (h2 : s.look cp = some a2) (h3 : s.look jM = some a3) (hp : aC P f [a1, a2, a3] r) (hd : Nat.blt d s.n = true) (h : a7 P ops K rest (s.put (some d) r)) : a7 P ops K (⟨some d, .call ⟨.value g, #[b8, cp, jM], aL⟩, ty, pos, after, guard⟩ :: rest) s :=
 vA (l := [b8, cp, jM]) hw ao (by simp [h1, h2, h3]) hp hd h
theorem JG {f : FuncId} {g : Operand} {aL : Array TypeId} {b8 cp jM oQ : Operand} {a1 a2 a3 a4 : ah} {r : ah} [E : Enters P f] (hw : want ops ⟨some d, .call ⟨.value g, #[b8, cp, jM, oQ], aL⟩, ty, pos, after, guard⟩ s = some true) (ao : s.look g = some (aM (.func (.func f) #[] #[]))) (h1 : s.look b8 = some a1) (h2 : s.look cp = some a2) (h3 : s.look jM = some a3) (aE : s.look oQ = some a4) (hp : aC P f [a1, a2, a3, a4] r) (hd : Nat.blt d s.n = true) (h : a7 P ops K rest (s.put (some d) r)) : a7 P ops K (⟨some d, .call ⟨.value g, #[b8, cp, jM, oQ], aL⟩, ty, pos, after, guard⟩ :: rest) s :=
 vA (l := [b8, cp, jM, oQ]) hw ao (by simp [h1, h2, h3, aE]) hp hd h
theorem JH {f : FuncId} {g : Operand} {aL : Array TypeId} {b8 cp jM oQ DU : Operand} {a1 a2 a3 a4 a5 : ah} {r : ah} [E : Enters P f] (hw : want ops ⟨some d, .call ⟨.value g, #[b8, cp, jM, oQ, DU], aL⟩, ty, pos, after, guard⟩ s = some true) (ao : s.look g = some (aM (.func (.func f) #[] #[]))) (h1 : s.look b8 = some a1) (h2 : s.look cp = some a2) (h3 : s.look jM = some a3) (aE : s.look oQ = some a4) (cZ : s.look DU = some a5) (hp : aC P f [a1, a2, a3, a4, a5] r) (hd : Nat.blt d s.n = true) (h : a7 P ops K rest (s.put (some d) r)) : a7 P ops K (⟨some d, .call ⟨.value g, #[b8, cp, jM, oQ, DU], aL⟩, ty, pos, after, guard⟩ :: rest) s :=
 vA (l := [b8, cp, jM, oQ, DU]) hw ao (by simp [h1, h2, h3, aE, cZ]) hp hd h
def o7 (ps : List (Nat × Nat)) : List AC → List (Nat × br) → Option (List AC)
 | cs, [] => some cs
 | cs, (i, z) :: rest => match ps[i]? with
  | some (off, size) => bif Nat.beq size z.cells.length then match oH cs off z.cells with
    | some r => o7 ps r rest
    | none => none
   else none
  | none => none
def mf (look : Operand → Option ah) : List (Nat × Operand) → Option (List (Nat × br))
 | [] => some []
 | (i, x) :: rest => match look x, mf look rest with
  | some (.w z), some r => some ((i, z) :: r)
  | _, _ => none
theorem LJ (off : Nat) : ∀ (zs : List Value) (k : Nat) (mD : Array Value), off + k + zs.length ≤ mD.size → ((zs.zipIdx k).foldl (fun cs (c, j) => cs.setIfInBounds (off + j) c) mD).toList = mD.toList.take (off + k) ++ zs ++ mD.toList.drop (off + k + zs.length)
 | [], k, mD, _ => by simp
 | z :: zs, k, mD, h => by
  simp only [List.zipIdx_cons, List.foldl_cons];rw [LJ off zs (k + 1) _ (by simp at h ⊢; omega)];have e := list_seg_step mD.toList (off + k) z zs (by simp at h ⊢; omega);simpa [Array.toList_setIfInBounds, Nat.add_assoc] using e
theorem yc {U : Nat → Prop} {ad : Nat → Nat} {W : World} {ps : List (Nat × Nat)} {place : Nat → Option (Nat × Nat)} (hp : ∀ i q, ps[i]? = some q → place i = some q) {look : Operand → Option ah} {env : Operand → Value} : ∀ (parts : List (Nat × Operand)) (cs : List AC) (vs : List Value) (zs : List (Nat × br)) (r : List AC), bH U ad W cs vs → mf look parts = some zs → (∀ p ∈ parts, ∀ a, look p.2 = some a → cR U ad W a (env p.2)) → o7 ps cs zs = some r →
  ∃ us : List Value, Instr.fill place vs.toArray (parts.map fun p => (p.1, env p.2)) = some us.toArray ∧ bH U ad W r us
 | [], cs, vs, zs, r, hl, aI, _, ab => by cases aI; cases ab; exact ⟨vs, rfl, hl⟩
 | (i, x) :: parts, cs, vs, zs, r, hl, aI, he, ab => by
  simp only [mf] at aI
  split at aI
  ·rename_i z Ah aa al;cases aI;simp only [o7] at ab
   split at ab
   ·rename_i off size wA;cases wb : Nat.beq size z.cells.length with
    | false => rw [wb] at ab; cases ab
    | true =>
     rw [wb] at ab;simp only [cond_true] at ab
     split at ab
     ·rename_i aq Gv;have aI : fE U ad W z (env x) := he (i, x) (by simp) _ aa;have oq := aI.cells;obtain ⟨q1, q2⟩ := zx _ _ _ _ Gv;have hs := gl wb;have yy : (env x).cells.size = z.cells.length := by have := oq.1; simp at this; exact this.symm
      have Mx := hl.1;have lC := hl.eu oq off q1;rw [q2] at lC;obtain ⟨us, g1, g2⟩ := yc hp parts aq _ Ah r lC al (fun p mN => he p (by simp [mN])) ab;refine ⟨us, ?_, g2⟩;simp only [kQ, Instr.fill, hp i _ wA];rw [if_neg (by simp [yy, hs]; omega)];rw [← g1];congr 1;apply Array.ext';have := LJ off (env x).cells.toList 0 vs.toArray (by simp [yy]; omega);rw [← Array.foldl_toList, Array.toList_zipIdx];simpa using this
     ·cases ab
   ·cases ab
  ·cases aI
theorem Ha {look : Operand → Option ah} : ∀ (parts : List (Nat × Operand)) (zs : List (Nat × br)), mf look parts = some zs → ∀ p ∈ parts, ∃ z, look p.2 = some (.w z) ∧ (p.1, z) ∈ zs
 | [], _, _, p, hp => by cases hp
 | (i, x) :: parts, zs, h, p, hp => by
  simp only [mf] at h
  split at h
  ·rename_i z Ah aa al;cases h;rcases fQ.1 hp with rfl | hp
   ·exact ⟨z, aa, by simp⟩
   ·obtain ⟨agh, h1, h2⟩ := Ha parts Ah al p hp;exact ⟨agh, h1, by simp [h2]⟩
  ·cases h
theorem NR {look : Operand → Option ah} : ∀ (parts : List (Nat × Operand)) (zs : List (Nat × br)), mf look parts = some zs → ∀ q ∈ zs, ∃ p ∈ parts, look p.2 = some (.w q.2)
 | [], _, h, q, ak => by cases h; cases ak
 | (i, x) :: parts, zs, h, q, ak => by
  simp only [mf] at h
  split at h
  ·rename_i z Ah aa al;cases h;rcases fQ.1 ak with rfl | ak
   ·exact ⟨(i, x), by simp, aa⟩
   ·obtain ⟨p, h1, h2⟩ := NR parts Ah al q ak;exact ⟨p, by simp [h1], h2⟩
  ·cases h
theorem adE {cs ds r : List AC} {off : Nat} (h : oH cs off ds = some r) : ∀ x ∈ r, x ∈ cs ∨ x ∈ ds := by
 obtain ⟨_, rfl⟩ := zx _ _ _ _ h;intro x aa;unfold eu at aa;simp only [iU] at aa;rcases aa with (h1 | h1) | h1
 ·exact .inl (nN h1)
 ·exact .inr h1
 ·exact .inl (mm h1)
theorem Kj {ps : List (Nat × Nat)} : ∀ (zs : List (Nat × br)) (cs r : List AC), o7 ps cs zs = some r → ∀ x ∈ r, x ∈ cs ∨ ∃ q ∈ zs, x ∈ q.2.cells
 | [], cs, r, h, x, aa => by cases h; exact .inl aa
 | (i, z) :: zs, cs, r, h, x, aa => by
  simp only [o7] at h
  split at h
  ·rename_i off size wA;cases wb : Nat.beq size z.cells.length with
   | false => rw [wb] at h; cases h
   | true =>
    rw [wb] at h;simp only [cond_true] at h
    split at h
    ·rename_i aq Gv;rcases Kj zs aq r h x aa with h1 | ⟨q, h1, h2⟩
     ·rcases adE Gv x h1 with h2 | h2
      ·exact .inl h2
      ·exact .inr ⟨(i, z), by simp, h2⟩
     ·exact .inr ⟨q, by simp [h1], h2⟩
    ·cases h
  ·cases h
theorem QS {α β : Type} {f : α → Sem β} {W : World} : ∀ (l : List α) (vs : List β), l.length = vs.length → (∀ (i : Nat) x v, l[i]? = some x → vs[i]? = some v → (f x).run P W = .ok v W) → (l.mapM f).run P W = .ok vs W
 | [], [], _, _ => rfl
 | [], _ :: _, h, _ => by cases h
 | _ :: _, [], h, _ => by cases h
 | x :: l, v :: vs, hl, h => by
  have aA := h 0 x v rfl rfl;have bO := QS l vs (by simpa using hl) (fun i x v aa hv => h (i + 1) x v (by simpa using aa) (by simpa using hv));rw [List.mapM_cons];simp only [Sem.run_bind, aA, Result.andThen_ok, bO];rfl
theorem NW {α β : Type} {f : α → Option β} : ∀ (l : List α) (vs : List β), l.mapM f = some vs → l.length = vs.length ∧ ∀ (i : Nat) x v, l[i]? = some x → vs[i]? = some v → f x = some v
 | [], vs, h => by cases h; exact ⟨rfl, fun i x v aa => by simp at aa⟩
 | a :: l, vs, h => by
  rw [List.mapM_cons] at h;cases aH : f a with
  | none => rw [aH] at h; cases h
  | some b =>
   rw [aH] at h;cases hl : l.mapM f with
   | none => rw [hl] at h; cases h
   | some bs =>
    rw [hl] at h;cases h;obtain ⟨h1, h2⟩ := NW l bs hl;refine ⟨by simp [h1], fun i x v aa hv => ?_⟩;cases i with
    | zero => simp at aa hv; subst aa; subst hv; exact aH
    | succ i => exact h2 i x v (by simpa using aa) (by simpa using hv)
theorem TC {t : Nat} {parts : List (Nat × Operand)} {vs : List Value} {ps : List (Nat × Nat)} {zs : List (Nat × br)} {r : List AC} [Z : AK P t vs] [L : Jd P t ps] (hw : want ops ⟨some d, .build t parts.toArray, ty, pos, after, guard⟩ s = some true) (aI : mf s.look parts = some zs) (ab : o7 ps (vs.map .c) zs = some r) (h1 : (vs.all fun v => v.oneCell') = true) (hd : Nat.blt d s.n = true) (h : a7 P ops K rest (s.put (some d) (.w (.agg r)))) : a7 P ops K (⟨some d, .build t parts.toArray, ty, pos, after, guard⟩ :: rest) s := by
 refine fF (av := .w (.agg r)) hw ⟨fun _ _ h => (by cases h), fun z s9 => ?_, fun U ad W env he => ?_, fun j ae => ?_⟩ hd h
 ·simp only [Op.operands, List.mem_toArray, h9] at s9;obtain ⟨p, hp, rfl⟩ := s9;obtain ⟨z, h1, _⟩ := Ha parts zs aI p hp;exact ⟨_, h1⟩
 ·have dD := Z.h;have iK := L.h;unfold zeroOf at dD;unfold C7 at iK;cases hi : P.info? t with
  | none => rw [hi] at dD; cases dD
  | some i =>
   rw [hi] at dD;simp only [j2] at dD;cases hh : i.zero with
   | none => rw [hh] at dD; cases dD
   | some z =>
    rw [hh] at dD;cases dD
    split at iK
    ·rename_i bc hu;obtain ⟨m1, m2⟩ := NW _ _ iK;have rL : (zeroValue t).run P W = .ok z W := by simp [zeroValue, typeInfo, program, Sem.run_bind, Sem.run, hi, Result.andThen, hh]
     have qq : (bc.mapM fun f => (do pure (f.offset, ← sizeOf f.type) : Sem (Nat × Nat))).run P W = .ok ps.toArray W := by
      rw [Array.mapM_eq_mapM_toList]
      have := QS (P := P) (W := W) (f := fun f : Field => (do pure (f.offset, ← sizeOf f.type) : Sem (Nat × Nat))) bc.toList ps m1 (fun j x v aa hv => by
       have := m2 j x v aa hv;cases F9 : P.info? x.type with
       | none => rw [F9] at this; cases this
       | some ev =>
        rw [F9] at this;cases this;simp only [Sem.run_bind, ht F9, Result.andThen_ok, Sem.run_pure])
      simp only [map_eq_pure_bind, Sem.run_bind, this, Result.andThen_ok, Sem.run_pure]
     have jy : bH U ad W (z.cells.toList.map .c) z.cells.toList := ⟨by simp, fun j x v aa hv => by
      rw [ef, hv] at aa;cases aa;exact ⟨rfl, cb.1 h1 v (c5 hv)⟩⟩
     obtain ⟨us, g1, g2⟩ := yc (U := U) (ad := ad) (W := W) (ps := ps) (place := fun i => ps.toArray[i]?) (fun i q h => by simpa using h) (look := s.look) (env := env) parts _ _ zs r jy aI (fun p hp a aH => he p.2 (by simp only [Op.operands, List.mem_toArray, h9]; exact ⟨p, hp, rfl⟩) a aH) ab;refine ⟨.agg us.toArray, ?_, us, rfl, g2⟩;have s4 : (parts.toArray.map fun (i, x) => (i, env x)).toList = parts.map fun p => (p.1, env p.2) := by simp
     have jX : z.cells.toList.toArray = z.cells := by simp
     rw [jX] at g1;simp only [execOp, Instr.build, Sem.run_bind, rL, Result.andThen_ok, run_underlying hu, qq, s4, g1, Sem.run_pure]
    ·rename_i n el hu;have rL : (zeroValue t).run P W = .ok z W := by simp [zeroValue, typeInfo, program, Sem.run_bind, Sem.run, hi, Result.andThen, hh]
     have jy : bH U ad W (z.cells.toList.map .c) z.cells.toList := ⟨by simp, fun j x v aa hv => by
      rw [ef, hv] at aa;cases aa;exact ⟨rfl, cb.1 h1 v (c5 hv)⟩⟩
     cases au : Nat.ble n 32 with
     | false => rw [au] at iK; cases iK
     | true =>
      rw [au] at iK;simp only [cond_true] at iK;cases F8 : P.info? el with
      | none => rw [F8] at iK; cases iK
      | some ev =>
       rw [F8] at iK;simp only [gC, gP] at iK
       obtain ⟨us, g1, g2⟩ := yc (U := U) (ad := ad) (W := W) (ps := ps) (place := fun i => some (i * ev.size, ev.size)) (fun i q h => by
        rw [← iK, ef] at h;rcases hM i n with a8 | kl
        ·rw [bQ (by simpa using a8)] at h;simpa using h
        ·rw [lQ (by simpa using kl)] at h;cases h) (look := s.look) (env := env) parts _ _ zs r jy aI (fun p hp a aH => he p.2 (by simp only [Op.operands, List.mem_toArray, h9]; exact ⟨p, hp, rfl⟩) a aH) ab
       refine ⟨.agg us.toArray, ?_, us, rfl, g2⟩;have s4 : (parts.toArray.map fun (i, x) => (i, env x)).toList = parts.map fun p => (p.1, env p.2) := by simp
       have jX : z.cells.toList.toArray = z.cells := by simp
       rw [jX] at g1;simp only [execOp, Instr.build, Sem.run_bind, rL, Result.andThen_ok, run_underlying hu, ht F8, s4, g1, Sem.run_pure]
    ·cases iK
 ·obtain ⟨y, ai, lE⟩ := ae;rcases Kj zs _ r ab y ai with h2 | ⟨q, h2, h3⟩
  ·obtain ⟨v, _, rfl⟩ := h9.1 h2; cases lE
  ·obtain ⟨p, hp, hl⟩ := NR parts zs aI q h2;exact ⟨p.2, by simp only [Op.operands, List.mem_toArray, h9]; exact ⟨p, hp, rfl⟩, _, hl, ⟨y, h3, lE⟩⟩
theorem JE {EM : Builtin} {aL : Array TypeId} {x y : Operand} {iA fa v : Value} (hw : want ops ⟨some d, .call ⟨.builtin EM, #[x, y], aL⟩, ty, pos, after, guard⟩ s = some true) (aa : s.look x = some (aM iA)) (ai : s.look y = some (aM fa)) (al : ∀ cs W, (builtin EM aL ty cs #[iA, fa]).run P W = .ok (.value v) W) (h1 : v.oneCell' = true) (hd : Nat.blt d s.n = true) (h : a7 P ops K rest (s.put (some d) (aM v))) : a7 P ops K (⟨some d, .call ⟨.builtin EM, #[x, y], aL⟩, ty, pos, after, guard⟩ :: rest) s := by
 refine fF (av := aM v) hw ⟨fun _ _ h => (by cases h), fun z aI => ?_, fun U ad W env he => ⟨v, ?_, ⟨rfl, h1⟩⟩, fun j ae => absurd ae (iR v j)⟩ hd h
 ·simp [Op.operands, Call.operands] at aI;rcases aI with rfl | rfl
  ·exact ⟨_, aa⟩
  ·exact ⟨_, ai⟩
 ·have aF : env x = iA := (he x (by simp [Op.operands, Call.operands]) _ aa).1;have aN : env y = fa := (he y (by simp [Op.operands, Call.operands]) _ ai).1;have em : (#[x, y] : Array Operand).map env = #[iA, fa] := by simp [aF, aN]
  simp only [execOp, resolve, em, Sem.run_bind, Sem.run_pure, Result.andThen_ok, invoke, al]
theorem T3 {aL : Array TypeId} {x y : Operand} {k : IntKind} {a b : Int} (hw : want ops ⟨some d, .call ⟨.builtin .min, #[x, y], aL⟩, ty, pos, after, guard⟩ s = some true) (aa : s.look x = some (aM (.int k a))) (ai : s.look y = some (aM (.int k b))) (hd : Nat.blt d s.n = true) (h : a7 P ops K rest (s.put (some d) (aM (.int k (if b < a then b else a))))) : a7 P ops K (⟨some d, .call ⟨.builtin .min, #[x, y], aL⟩, ty, pos, after, guard⟩ :: rest) s :=
 JE hw aa ai (fun cs W => by go_simp; all_goals (first | rfl | (split <;> omega))) rfl hd h
theorem T2 {aL : Array TypeId} {x y : Operand} {k : IntKind} {a b : Int} (hw : want ops ⟨some d, .call ⟨.builtin .max, #[x, y], aL⟩, ty, pos, after, guard⟩ s = some true) (aa : s.look x = some (aM (.int k a))) (ai : s.look y = some (aM (.int k b))) (hd : Nat.blt d s.n = true) (h : a7 P ops K rest (s.put (some d) (aM (.int k (if b > a then b else a))))) : a7 P ops K (⟨some d, .call ⟨.builtin .max, #[x, y], aL⟩, ty, pos, after, guard⟩ :: rest) s :=
 JE hw aa ai (fun cs W => by go_simp; all_goals (first | rfl | (split <;> omega))) rfl hd h
theorem TD {t : Nat} {b : Bool} {l : List Oper} (hs : s.tmps t = some (bf b)) (h1 : b = true → a7 P ops K l (s.put (some t) (bf true))) (aA : b = false → a7 P ops K l (s.put (some t) (bf false))) : a7 P ops K l s := by
 have same : ∀ c, b = c → s.put (some t) (bf c) = s := fun c e => by
  subst e;simp only [az.put];congr 1;funext j
  by_cases ae : j = t
  ·subst ae; rw [cf, hs]
  ·rw [b3 _ _ ae]
 cases b with
 | true => rw [← same true rfl]; exact h1 rfl
 | false => rw [← same false rfl]; exact aA rfl
end
theorem aK : ([] : List ResultVar).map (iy P s) = ([] : List br).map some := rfl
theorem a6 {t : Nat} {x : br} {l : List ResultVar} {xs : List br} (h : s.tmps t = some (.w x)) (hl : l.map (iy P s) = xs.map some) : (ResultVar.tmp t :: l).map (iy P s) = (x :: xs).map some := by
 simp only [kQ, hl]; rw [show iy P s (.tmp t) = some x by simp only [iy, h]]
theorem cL {a ty k off n : Nat} [T : e5 P ty true n] {cs aO : List AC} {l : List ResultVar} {xs : List br} (h : s.tmps a = some (hy k off)) (hm : s.mem k = some cs) (aj : takeN cs off n = some aO) (hl : l.map (iy P s) = xs.map some) : (ResultVar.cell a ty :: l).map (iy P s) = (.agg aO :: xs).map some := by
 simp only [kQ, hl]; rw [show iy P s (.cell a ty) = some (.agg aO) by simp only [iy, h, hm, j2, Rr T.h aj]]
theorem ba {fn : Func} {l : List ResultVar} {xs : List br} {r : ah} (al : fn.results = l.toArray) (h : l.map (iy P s) = xs.map some) (hle : (packed xs).aQ r) : xT P fn r .ret s := ⟨xs, by rw [al]; exact h, hle⟩
theorem adi {f : FuncId} {args : List ah} {r : ah} {iY : List Value} (he : args.map (fun x => match x with | .w y => l6 y | _ => none) = iY.map some) (jq : ∀ x ∈ args, x.closed) (bV : r.closed)
  (h : ∀ W, Calls P f iY.toArray W fun e bb => ∃ v, e = .returned v ∧ (∀ U, (∀ b, W.heap.size ≤ b → U b) → cR U id bb r v) ∧ Below W.heap.size W bb) : aC P f args r := by
 refine ⟨jq, bV, fun U W vs cI => ?_⟩
 have e : vs = iY := by
  apply List.ext_getElem?;intro i;have hl := cI.1;have mM : args.length = iY.length := by have := congrArg List.length he; simpa using this
  rcases hM i args.length with hi | hi
  ·have h1 : (args.map (fun x => match x with | .w y => l6 y | _ => none))[i]? = (iY.map some)[i]? := by rw [he]
   rw [ef, ef, bQ hi, bQ (by omega : i < iY.length)] at h1;simp only [gC, gP] at h1;rw [bQ (by omega : i < vs.length), bQ (by omega : i < iY.length)];have h2 := cI.2 i args[i] vs[i] (bQ hi) (bQ (by omega));cases aa : args[i] with
   | w y =>
    rw [aa] at h1 h2;rw [Bm h2 h1]
   | cj xs => rw [aa] at h1; cases h1
  ·rw [lQ (by omega), lQ (by omega)]
 subst e;refine (h W).mono ?_;rintro e bb ⟨v, h1, h2, h3⟩;exact ⟨v, h1, h2 _ fun b ab => .inr ab, h3⟩
def AC.aV : AC → Bool
 | .own _ _ => false
 | _ => true
def br.aV : br → Bool
 | .one x => x.aV
 | .agg xs => xs.all AC.aV
def ah.aV : ah → Bool
 | .w x => x.aV
 | .cj xs => xs.all br.aV
theorem AC.dd {x : AC} (h : x.aV = true) (j : Nat) : ¬ x.owns j := by cases x <;> simp_all [AC.aV, AC.owns]
theorem br.dd {x : br} (h : x.aV = true) (j : Nat) : ¬ x.owns j := by
 rintro ⟨y, ai, ae⟩;cases x with
 | one z => simp [br.cells] at ai; subst ai; exact AC.dd h j ae
 | agg xs => exact AC.dd (cb.1 h y ai) j ae
theorem ah.dd {x : ah} (h : x.aV = true) : x.closed := fun j => by
 cases x with
 | w y => exact br.dd h j
 | cj xs => rintro ⟨y, ai, ae⟩; exact br.dd (cb.1 h y ai) j ae
theorem bi {f : FuncId} {fn : Func} {c : Code} {args : List ah} {r : ah} (ap : P.funcs[f]? = some fn) (ab : fn.body = some c) (au : Nat.ble args.length fn.ntmps = true) (jq : args.all ah.aV = true) (bV : r.aV = true)
  (h : e2 P c (xT P fn r) (start fn.ntmps args)) : aC P f args r :=
 adk ap ab (by simpa [Nat.ble_eq] using au) (fun x aa => ah.dd (cb.1 jq x aa)) (ah.dd bV) h
theorem adh {f : FuncId} {fn : Func} {c : Code} {args : List ah} {r : ah} (ap : P.funcs[f]? = some fn) (ab : fn.body = some c) (au : Nat.ble args.length fn.ntmps = true) (jq : args.all ah.aV = true) (bV : r.aV = true)
  (h : se P c (xT P fn r) (start fn.ntmps args)) : aC P f args r :=
 PQ ap ab (by simpa [Nat.ble_eq] using au) (fun x aa => ah.dd (cb.1 jq x aa)) (ah.dd bV) h
theorem HU {f : FuncId} {args : List ah} {r : ah} (iY : List Value) (he : args.map (fun x => match x with | .w y => l6 y | _ => none) = iY.map some) (jq : args.all ah.aV = true) (bV : r.aV = true)
  (h : ∀ W, Calls P f iY.toArray W fun e bb => ∃ v, e = .returned v ∧ (∀ U, (∀ b, W.heap.size ≤ b → U b) → cR U id bb r v) ∧ Below W.heap.size W bb) : aC P f args r :=
 adi he (fun x aa => ah.dd (cb.1 jq x aa)) (ah.dd bV) h
theorem JU {next : az → Prop} {Q : Exit → az → Prop} (h : next s) : ra next Q .normal s := h
theorem Ux {next : az → Prop} {Q : Exit → az → Prop} {id : Nat} (h : Q (.exit id) s) : ra next Q (.exit id) s := h
theorem Uy {next : az → Prop} {Q : Exit → az → Prop} (h : Q .ret s) : ra next Q .ret s := h
theorem Th {Q : Exit → az → Prop} {id : Nat} (h : Q .normal s) : vz id Q .normal s := h
theorem Ti {Q : Exit → az → Prop} {id : Nat} (h : Q .ret s) : vz id Q .ret s := h
theorem Tj {Q : Exit → az → Prop} {id : Nat} (h : Q .normal s) : vz id Q (.exit id) s := by simp only [vz, Nat.beq_refl, cond_true]; exact h
theorem cc {dst : Option Nat} {op : Op} {ty : Nat} {pos : String} {after : Array Edge} {g t : Nat} {b Ka c : Bool} (hd : (ops[g]?).bind (·.dst) = some t) (hs : s.tmps t = some (bf Ka)) (ab : Ka = c)
  (h1 : a7 P ops K (⟨dst, op, ty, pos, after, some (g, b)⟩ :: rest) (s.put (some t) (bf c))) : a7 P ops K (⟨dst, op, ty, pos, after, some (g, b)⟩ :: rest) s := by
 subst ab;exact TD hs (fun e => by subst e; exact h1) (fun e => by subst e; exact h1)
theorem JY {c : Operand} {t u : Bool} {x y : Code} {Q : Exit → az → Prop} (aj : s.look c = some (bf t)) (ax : t = u) (h : e2 P (bif u then x else y) Q s) : e2 P (.cond c x y) Q s := by
 subst ax;cases t with
 | true => exact J0 aj h
 | false => exact JZ aj h
theorem UB {c : Operand} {t : Bool} {x y : Code} {Q : Exit → az → Prop} (aj : s.look c = some (bf t)) (ax : t = true) (h : e2 P x Q s) : e2 P (.cond c x y) Q s := JY aj ax h
theorem JX {c : Operand} {t : Bool} {x y : Code} {Q : Exit → az → Prop} (aj : s.look c = some (bf t)) (ax : t = false) (h : e2 P y Q s) : e2 P (.cond c x y) Q s := JY aj ax h
end
abbrev aP (x y : Int) : ah := .w (.agg [.c (.int .i64 x), .c (.int .i64 y)])
def Fi (w : World) : AC → Value → Nat → Prop
 | .p R, x, b => R.kE w x b
 | _, _, _ => False
theorem xM (a : Addr) (m j : Nat) : (a.add m).add j = a.add (m + j) := by
 unfold Addr.add
 by_cases h1 : m = 0 <;> by_cases h2 : j = 0 <;> simp [h1, h2, Nat.add_assoc]
theorem block_add (a : Addr) (m : Nat) : (a.add m).block = a.block := by unfold Addr.add; split <;> rfl
structure kv (w : World) (a : Addr) (xs : List AC) (vs : List Value) : Prop where
 lt : a.block < w.heap.size
 nR : bH (fun _ => True) id w xs vs
 at_ : ∀ (j : Nat) v, vs[j]? = some v → w.cell? (a.add j) = some v
 o9 : ∀ y ∈ xs, y.aV = true
def mG (w : World) (a : Addr) (xs : List AC) (b : Nat) : Prop := a.block = b ∨ ∃ (j : Nat) (y : AC) (v : Value), xs[j]? = some y ∧ w.cell? (a.add j) = some v ∧ Fi w y v b
theorem kv.frame {w w' : World} {a : Addr} {xs : List AC} {vs : List Value} (h : kv w a xs vs) (ap : ∀ b, mG w a xs b → w'.heap[b]? = w.heap[b]?) : kv w' a xs vs ∧ ∀ b, mG w' a xs b → mG w a xs b := by
 have ab : w'.heap[a.block]? = w.heap[a.block]? := ap _ (.inl rfl);have aj : ∀ j, w'.cell? (a.add j) = w.cell? (a.add j) := fun j => World.cell?_of_block (w := w) (by rw [block_add]; exact ab)
 have key : ∀ (j : Nat) (y : AC) (v : Value), xs[j]? = some y → w.cell? (a.add j) = some v → gd (fun _ => True) id w y v → gd (fun _ => True) id w' y v ∧ ∀ b, Fi w' y v b → Fi w y v b := by
  intro j y v ai hv al;cases y with
  | c u => exact ⟨al, fun b h => h⟩
  | own k o => exact ⟨al, fun b h => h⟩
  | p R =>
   have := R.frame w w' v al.1 fun b ab => ap b (.inr ⟨j, _, v, ai, hv, ab⟩);exact ⟨⟨this.1, fun _ _ => trivial⟩, this.2⟩
 refine ⟨⟨?_, ⟨h.nR.1, fun i y v ai hv => (key i y v ai (h.at_ i v hv) (h.nR.2 i y v ai hv)).1⟩, fun j v hv => by rw [aj]; exact h.at_ j v hv, h.o9⟩, ?_⟩
 ·have cZ := Array.getElem?_eq_getElem h.lt;exact (jH.1 (ab.trans cZ)).1
 ·rintro b (h1 | ⟨j, y, v, ai, hv, fW⟩)
  ·exact .inl h1
  ·rw [aj] at hv;have a8 : j < vs.length := by rw [← h.nR.1]; exact (bF.1 ai).1
   have h2 := h.at_ j _ (bQ a8);rw [hv] at h2;cases h2;exact .inr ⟨j, y, _, ai, hv, (key j y _ ai hv (h.nR.2 j y _ ai (bQ a8))).2 b fW⟩
theorem kv.h7 {w : World} {a : Addr} {xs : List AC} {vs : List Value} {b : Nat} (h : kv w a xs vs) (ap : mG w a xs b) : b < w.heap.size := by
 rcases ap with rfl | ⟨j, y, v, ai, hv, fW⟩
 ·exact h.lt
 ·have a8 : j < vs.length := by rw [← h.nR.1]; exact (bF.1 ai).1
  have h2 := h.at_ j _ (bQ a8);rw [hv] at h2;cases h2;have := h.nR.2 j y _ ai (bQ a8);cases y with
  | c u => cases fW
  | own k o => cases fW
  | p R => exact R.h7 _ _ _ this.1 fW
theorem kv.sub {w : World} {a : Addr} {xs : List AC} {vs : List Value} (h : kv w a xs vs) (off n : Nat) : kv w (a.add off) ((xs.drop off).take n) ((vs.drop off).take n) := by
 refine ⟨by rw [block_add]; exact h.lt, h.nR.sub off n, fun j v hv => ?_, fun y ai => h.o9 y (mm (nN ai))⟩;rw [xM]
 have ae : j < n := by
  have := (bF.1 hv).1;simp at this; omega
 rw [fk ae, fC] at hv;exact h.at_ _ v hv
theorem mG.sub {w : World} {a : Addr} {xs : List AC} {off n b : Nat} (h : mG w (a.add off) ((xs.drop off).take n) b) : mG w a xs b := by
 rcases h with h | ⟨j, y, v, ai, hv, fW⟩
 ·rw [block_add] at h; exact .inl h
 ·rw [xM] at hv
  have ae : j < n := by
   have := (bF.1 ai).1;simp at this; omega
  rw [fk ae, fC] at ai;exact .inr ⟨_, y, v, ai, hv, fW⟩
theorem kv.Ib {w : World} {a : Addr} {xs : List AC} {vs : List Value} {U : Nat → Prop} {ad : Nat → Nat} (h : kv w a xs vs) (c8 : ∀ b, mG w a xs b → U b) : bH U ad w xs vs := by
 refine ⟨h.nR.1, fun i y v ai hv => ?_⟩;have h1 := h.nR.2 i y v ai hv;have h2 := h.o9 y (c5 ai);cases y with
 | c u => exact h1
 | own k o => cases h2
 | p R => exact ⟨h1.1, fun b ab => c8 b (.inr ⟨i, _, v, ai, h.at_ i v hv, ab⟩)⟩
def Eg (xs : List AC) : eQ where
 holds w v := ∃ a vs, v = .pointer (some a) ∧ kv w a xs vs
 kE w v b := ∃ a, v = .pointer (some a) ∧ mG w a xs b
 frame w w' v := by
  rintro ⟨a, vs, rfl, h⟩ ap;obtain ⟨h1, h2⟩ := h.frame fun b ab => ap b ⟨a, rfl, ab⟩;exact ⟨⟨a, vs, rfl, h1⟩, fun b ⟨a', e, ab⟩ => by cases e; exact ⟨a, rfl, h2 b ab⟩⟩
 h7 w v b := by
  rintro ⟨a, vs, rfl, h⟩ ⟨a', e, ab⟩;cases e;exact h.h7 ab
 cell w v := by rintro ⟨a, vs, rfl, h⟩; rfl
def cl (sz n : Nat) (xs : List AC) : eQ where
 holds w v := ∃ A c, v = .slice A n c ∧ n ≤ c ∧ xs.length = n * sz ∧ (0 < n → ∃ a vs, A = some a ∧ kv w a xs vs)
 kE w v b := ∃ c a, v = .slice (some a) n c ∧ 0 < n ∧ mG w a xs b
 frame w w' v := by
  rintro ⟨A, c, rfl, aj, hl, h⟩ ap;refine ⟨⟨A, c, rfl, aj, hl, fun au => ?_⟩, ?_⟩
  ·obtain ⟨a, vs, rfl, aJ⟩ := h au;exact ⟨a, vs, rfl, (aJ.frame fun b ab => ap b ⟨c, a, rfl, au, ab⟩).1⟩
  ·rintro b ⟨c', a', e, au, ab⟩;cases e;obtain ⟨a, vs, e, aJ⟩ := h au;cases e;exact ⟨c, a', rfl, au, (aJ.frame fun b ab => ap b ⟨c, a', rfl, au, ab⟩).2 b ab⟩
 h7 w v b := by
  rintro ⟨A, c, rfl, aj, hl, h⟩ ⟨c', a', e, au, ab⟩;cases e;obtain ⟨a, vs, e, aJ⟩ := h au;cases e;exact aJ.h7 ab
 cell w v := by rintro ⟨A, c, rfl, _⟩; rfl
abbrev cz (sz n : Nat) (xs : List AC) : ah := .w (.one (.p (cl sz n xs)))
abbrev Aa (xs : List AC) : ah := .w (.one (.p (Eg xs)))
theorem lf (R : eQ) (j : Nat) : ¬ (ah.w (.one (.p R))).owns j := fun ⟨y, ai, h⟩ => by simp [br.cells] at ai; subst ai; cases h
section
variable {P : Program} {s : az} {o : Oper} {ops : Array Oper} {K : az → Prop} {rest : List Oper} {op : Op} {ty : Nat} {pos : String} {after : Array Edge} {guard : Option (Nat × Bool)} {d : Nat}
theorem ED {av : ah} (hw : want ops ⟨some d, op, ty, pos, after, guard⟩ s = some true) (ak : vq P s.look ⟨some d, op, ty, pos, after, guard⟩ av) (hd : Nat.blt d s.n = true) (h : a7 P ops K rest (s.put (some d) av)) : a7 P ops K (⟨some d, op, ty, pos, after, guard⟩ :: rest) s :=
 p9 (e := ⟨av, none⟩) hw (.fresh av ak) (jT hd) h
theorem mu {t sz : Nat} (h : sb P t = some sz) : ∃ e i, P.underlying t = some (.slice e) ∧ P.info? e = some i ∧ i.size = sz := by
 unfold sb at h
 split at h
 ·rename_i e hu;cases hi : P.info? e with
  | none => rw [hi] at h; cases h
  | some i => rw [hi] at h; cases h; exact ⟨e, i, hu, hi, rfl⟩
 ·cases h
theorem kf {t e : Nat} (h : P.underlying t = some (.slice e)) : P.elem t = e := by simp [Program.elem, h]
theorem JL {t sz afz n : Nat} {xs : List AC} {x : Operand} [S : hQ P t afz] (hw : want ops ⟨some d, .call ⟨.builtin .len, #[x], #[t]⟩, ty, pos, after, guard⟩ s = some true) (aa : s.look x = some (cz sz n xs)) (hd : Nat.blt d s.n = true)
  (h : a7 P ops K rest (s.put (some d) (aB n))) : a7 P ops K (⟨some d, .call ⟨.builtin .len, #[x], #[t]⟩, ty, pos, after, guard⟩ :: rest) s := by
 refine fF (av := aB n) hw ⟨fun _ _ h => (by cases h), fun y ai => ?_, fun U ad W env he => ⟨.int .i64 n, ?_, rfl, rfl⟩, fun j ae => absurd ae (iR _ j)⟩ hd h
 ·simp [Op.operands, Call.operands] at ai;subst ai;exact ⟨_, aa⟩
 ·obtain ⟨⟨A, c, aF, _⟩, _⟩ := he x (by simp [Op.operands, Call.operands]) _ aa;obtain ⟨e, i, hu, hi, _⟩ := mu S.h;have eU : P.underlying t = some (.slice (P.elem t)) := by rw [kf hu]; exact hu
  have em : (#[x] : Array Operand).map env = #[.slice A n c] := by simp [aF]
  simp only [execOp, resolve, em, Sem.run_bind, Sem.run_pure, Result.andThen_ok, invoke, builtin];rw [run_len_slice W t ty A n c eU];rfl
theorem TT {x y : Operand} {t sz n : Nat} {gx : IntKind} {i : Int} {xs aO : List AC} [S : hQ P t sz] (hw : want ops ⟨some d, .indexAddr t x y, ty, pos, after, guard⟩ s = some true) (aa : s.look x = some (cz sz n xs)) (ai : s.look y = some (aM (.int gx i))) (aA : 0 ≤ i) (h1 : i < n)
  (he : (xs.drop (i.toNat * sz)).take sz = aO) (hd : Nat.blt d s.n = true) (h : a7 P ops K rest (s.put (some d) (Aa aO))) : a7 P ops K (⟨some d, .indexAddr t x y, ty, pos, after, guard⟩ :: rest) s := by
 subst he;refine fF hw ⟨fun _ _ h => (by cases h), fun z aI => ?_, fun U ad W env he => ?_, fun j ae => absurd ae (lf _ j)⟩ hd h
 ·simp [Op.operands] at aI;rcases aI with rfl | rfl
  ·exact ⟨_, aa⟩
  ·exact ⟨_, ai⟩
 ·obtain ⟨⟨A, c, aF, aj, hl, dR⟩, c8⟩ := he x (by simp [Op.operands]) _ aa;have hi : env y = .int gx i := (he y (by simp [Op.operands]) _ ai).1;obtain ⟨e, ev, hu, cP, hs⟩ := mu S.h;obtain ⟨a, vs, rfl, ej⟩ := dR (by omega);refine ⟨.pointer (some (a.add (i.toNat * sz))), ?_, ⟨_, _, rfl, ej.sub _ _⟩, ?_⟩
  ·simp only [execOp, Instr.indexAt, aF, hi, asIntOf, Sem.run_bind, Sem.run_pure, Result.andThen_ok, run_underlying hu, ht cP, if_pos (And.intro aA h1), hs]
  ·rintro b ⟨a', e, ab⟩;cases e;exact c8 b ⟨c, a, aF, by omega, ab.sub⟩
theorem TP {x : Operand} {pP i hU : Nat} {xs : List AC} [F : mA P pP i hU] (hw : want ops ⟨some d, .fieldAddr pP x i, ty, pos, after, guard⟩ s = some true) (aa : s.look x = some (Aa xs)) (hd : Nat.blt d s.n = true) (h : a7 P ops K rest (s.put (some d) (Aa (xs.drop hU)))) : a7 P ops K (⟨some d, .fieldAddr pP x i, ty, pos, after, guard⟩ :: rest) s := by
 refine fF hw ⟨fun _ _ h => (by cases h), fun y ai => ?_, fun U ad W env he => ?_, fun j ae => absurd ae (lf _ j)⟩ hd h
 ·simp [Op.operands] at ai;subst ai;exact ⟨_, aa⟩
 ·obtain ⟨⟨a, vs, aF, ej⟩, c8⟩ := he x (by simp [Op.operands]) _ aa;have hF := F.h;unfold sM at hF
  split at hF
  ·rename_i bc hu;cases ap : bc[i]? with
   | none => rw [ap] at hF; cases hF
   | some f =>
    rw [ap] at hF;simp only [j2] at hF;cases hi : P.info? f.type with
    | none => rw [hi] at hF; cases hF
    | some t =>
     rw [hi] at hF;simp only [j2] at hF
     split at hF
     ·cases hF
     ·rename_i bX;cases hF;have yV := ej.sub f.offset xs.length;rw [hq (by simp), hq (by have := ej.nR.1; simp; omega)] at yV;refine ⟨.pointer (some (a.add f.offset)), ?_, ⟨_, _, rfl, yV⟩, ?_⟩
      ·simp only [execOp, Instr.fieldAt, aF, Instr.sureAddr, Sem.run_bind, Sem.run_pure, Result.andThen_ok, run_underlying hu, ap, fieldPlace, ht hi, if_neg bX]
      ·rintro b ⟨a', e, ab⟩;cases e;refine c8 b ⟨a, aF, mG.sub (off := f.offset) (n := xs.length) ?_⟩;rw [hq (by simp)];exact ab
  ·cases hF
theorem TZ {x : Operand} {lt n : Nat} {xs : List AC} {y : AC} [T : e5 P lt false n] (hw : want ops ⟨some d, .load lt x, ty, pos, after, guard⟩ s = some true) (aa : s.look x = some (Aa xs)) (aj : xs[0]? = some y) (cA : y.aV = true) (hd : Nat.blt d s.n = true) (h : a7 P ops K rest (s.put (some d) (.w (.one y)))) : a7 P ops K (⟨some d, .load lt x, ty, pos, after, guard⟩ :: rest) s := by
 refine fF hw ⟨fun _ _ h => (by cases h), fun y ai => ?_, fun U ad W env he => ?_, fun j ae => ?_⟩ hd h
 ·simp [Op.operands] at ai;subst ai;exact ⟨_, aa⟩
 ·obtain ⟨⟨a, vs, aF, ej⟩, c8⟩ := he x (by simp [Op.operands]) _ aa;have al := ej.Ib (U := U) (ad := ad) fun b ab => c8 b ⟨a, aF, ab⟩;have a8 : 0 < vs.length := by rw [← al.1]; exact (bF.1 aj).1
  have hv := bQ a8;refine ⟨_, ?_, al.2 0 y _ aj hv⟩;have cy := T.h;have jc : W.cell? a = some vs[0] := ej.at_ 0 _ hv;unfold j8 at cy;cases hu : P.underlying lt with
  | none => rw [hu] at cy; cases cy
  | some D =>
   have key : (loadVar lt a).run P W = .ok vs[0] W := by
    refine Ig hu (fun bc e => ?_) (fun m bm e => ?_) jc
    ·subst e;cases hi : P.info? lt with
     | none => simp [hu, hi] at cy
     | some ev => simp [hu, hi] at cy
    ·subst e;cases hi : P.info? lt with
     | none => simp [hu, hi] at cy
     | some ev => simp [hu, hi] at cy
   simp only [execOp, Instr.loadAt, aF, Instr.sureAddr, Sem.run_bind, Sem.run_pure, Result.andThen_ok, key]
 ·exact absurd ae (ah.dd (x := .w (.one y)) cA j)
theorem T0 {x : Operand} {lt n : Nat} {xs aO : List AC} [T : e5 P lt true n] (hw : want ops ⟨some d, .load lt x, ty, pos, after, guard⟩ s = some true) (aa : s.look x = some (Aa xs)) (aj : takeN xs 0 n = some aO) (cA : (br.agg aO).aV = true) (hd : Nat.blt d s.n = true) (h : a7 P ops K rest (s.put (some d) (.w (.agg aO)))) : a7 P ops K (⟨some d, .load lt x, ty, pos, after, guard⟩ :: rest) s := by
 refine fF hw ⟨fun _ _ h => (by cases h), fun y ai => ?_, fun U ad W env he => ?_, fun j ae => ?_⟩ hd h
 ·simp [Op.operands] at ai;subst ai;exact ⟨_, aa⟩
 ·obtain ⟨⟨a, vs, aF, ej⟩, c8⟩ := he x (by simp [Op.operands]) _ aa;obtain ⟨q1, q2⟩ := DF _ _ _ _ aj;have yV := ej.sub 0 n;have al := yV.Ib (U := U) (ad := ad) fun b ab => c8 b ⟨a, aF, mG.sub ab⟩;rw [q2] at al;have aH : a.add 0 = a := rfl;refine ⟨.agg ((vs.drop 0).take n).toArray, ?_, _, rfl, al⟩;have cy := T.h;unfold j8 at cy;have hlen : ((vs.drop 0).take n).length = n := by have := ej.nR.1; simp; omega
  have jc := yV.at_;rw [aH] at jc;cases hu : P.underlying lt with
  | none => rw [hu] at cy; cases cy
  | some D =>
   cases hi : P.info? lt with
   | none => rw [hu, hi] at cy; cases D <;> cases cy
   | some ev =>
    rw [hu, hi] at cy;have key : ((∃ bc, D = .struct bc) ∨ ∃ n e, D = .array n e) ∧ ev.size = n := by cases D <;> simp at cy <;> simp [cy]
    have := Ie (P := P) (w := W) (A := a) hu key.1 hi (by rw [hlen, key.2]) jc;simp only [execOp, Instr.loadAt, aF, Instr.sureAddr, Sem.run_bind, Sem.run_pure, Result.andThen_ok, this]
 ·exact absurd ae (ah.dd (x := .w (.agg aO)) cA j)
def w9 (P : Program) (t : TypeId) : Option (List Value) :=
 match P.underlying t with
 | some (.slice e) => zeroOf P e
 | _ => none
class nn (P : Program) (t : TypeId) (vs : outParam (List Value)) : Prop where
 h : w9 P t = some vs
def hA (n sz : Nat) (vs : List Value) : List AC := (List.range (n * sz)).map fun j => .c (vs.toArray[j % vs.length]!)
def u7 (n sz : Nat) : List (Nat × Nat) := (List.range n).map fun i => (i * sz, sz)
theorem Ur {w : World} {r8 : List AC} {us : List Value} {ty : TypeId} {U : Nat → Prop} {ad : Nat → Nat} (h : bH U ad w r8 us) (cA : ∀ y ∈ r8, y.aV = true) : kv (w.alloc (.cells us.toArray ty)) ⟨w.heap.size, 0, none⟩ r8 us := by
 refine ⟨by show w.heap.size < (w.heap.push _).size; simp, ⟨h.1, fun i y v ai hv => ?_⟩, fun j v hv => ?_, cA⟩
 ·refine (h.2 i y v ai hv).map (fun b ab hl => ⟨trivial, Below.heap_alloc _ _ _ hl⟩) fun j ae => ?_;exact absurd ae (AC.dd (cA y (c5 ai)) j)
 ·have kj : (⟨w.heap.size, 0, none⟩ : Addr).add j = ⟨w.heap.size, j, none⟩ := by unfold Addr.add; split <;> simp_all
  rw [kj];have : (w.alloc (.cells us.toArray ty)).heap[w.heap.size]? = some (.cells us.toArray ty (0, 0)) := by show (w.heap.push _)[w.heap.size]? = _; simp
  simp only [World.cell?, this];simpa using hv
theorem Us {w : World} {r8 : List AC} {us : List Value} {ty : TypeId} {U : Nat → Prop} {ad : Nat → Nat} {b : Nat} (h : bH U ad w r8 us) (ap : mG (w.alloc (.cells us.toArray ty)) ⟨w.heap.size, 0, none⟩ r8 b) : U b ∨ w.heap.size ≤ b := by
 rcases ap with rfl | ⟨j, y, v, ai, hv, fW⟩
 ·exact .inr (dl _)
 ·have kj : (⟨w.heap.size, 0, none⟩ : Addr).add j = ⟨w.heap.size, j, none⟩ := by unfold Addr.add; split <;> simp_all
  rw [kj] at hv;have : (w.alloc (.cells us.toArray ty)).heap[w.heap.size]? = some (.cells us.toArray ty (0, 0)) := by show (w.heap.push _)[w.heap.size]? = _; simp
  simp only [World.cell?, this] at hv;have bP : us[j]? = some v := by simpa using hv
  have al := h.2 j y v ai bP;cases y with
  | c u => cases fW
  | own k o => cases fW
  | p R =>
   refine .inl (al.2 b ?_);exact (R.frame w _ v al.1 fun bK c0 => Below.heap_alloc _ _ _ (R.h7 _ _ _ al.1 c0)).2 b fW
theorem TB {t n sz : Nat} {parts : List (Nat × Operand)} {vs : List Value} {zs : List (Nat × br)} {r : List AC} [S : hQ P t sz] [Z : nn P t vs] (hw : want ops ⟨some d, .buildSlice t n parts.toArray, ty, pos, after, guard⟩ s = some true) (aI : mf s.look parts = some zs) (ab : o7 (u7 n sz) (hA n sz vs) zs = some r)
  (h1 : (vs.all fun v => v.oneCell') = true) (hs : Nat.beq vs.length sz = true) (aA : Nat.blt 0 (n * sz) = true) (h2 : Nat.ble (n * sz) 16777216 = true) (al : Nat.beq r.length (n * sz) = true) (cA : r.all AC.aV = true) (hd : Nat.blt d s.n = true) (h : a7 P ops K rest (s.put (some d) (cz sz n r))) : a7 P ops K (⟨some d, .buildSlice t n parts.toArray, ty, pos, after, guard⟩ :: rest) s := by
 refine ED (av := cz sz n r) hw ⟨fun z s9 => ?_, fun j ae => lf _ j ae, fun U ad W env he => ?_⟩ hd h
 ·simp only [Op.operands, List.mem_toArray, h9] at s9;obtain ⟨p, hp, rfl⟩ := s9;obtain ⟨z, h1, _⟩ := Ha parts zs aI p hp;exact ⟨_, h1⟩
 ·obtain ⟨e, i, hu, hi, bB⟩ := mu S.h;have dD := Z.h;unfold w9 at dD;rw [hu] at dD;simp only at dD;unfold zeroOf at dD;rw [hi] at dD;simp only [j2] at dD;cases hh : i.zero with
  | none => rw [hh] at dD; cases dD
  | some z =>
   rw [hh] at dD;cases dD;have hlen : z.cells.toList.length = sz := gl hs;have yf : 0 < n * sz := by simpa [Nat.blt_eq] using aA
   have vX : n * sz ≤ 16777216 := by simpa [Nat.ble_eq] using h2
   have yI : r.length = n * sz := gl al;have ru : ∀ y ∈ r, y.aV = true := cb.1 cA;have rL : (zeroValue e).run P W = .ok z W := by simp [zeroValue, typeInfo, program, Sem.run_bind, Sem.run, hi, Result.andThen, hh]
   have jy : bH U ad W (hA n sz z.cells.toList) ((List.range (n * sz)).map fun j => z.cells[j % z.cells.size]!) := by
    refine ⟨by simp [hA], fun j x v aa hv => ?_⟩;have ae : j < n * sz := by have := (bF.1 hv).1; simpa using this
    simp only [hA, ef, List.getElem?_range ae, gC, gP] at aa hv;subst aa; subst hv;have uM : z.cells.size = sz := by simpa using hlen
    have Gu : 0 < sz := Nat.pos_of_mul_pos_left yf |> fun h => by
     rcases vb sz with q | q
     ·rw [q] at yf; simp at yf
     ·exact q
    have a8 : j % z.cells.size < z.cells.size := Nat.mod_lt _ (by omega);have aN : z.cells.toList.toArray[j % z.cells.toList.length]! = z.cells[j % z.cells.size]! := by simp
    refine ⟨aN.symm, ?_⟩;rw [aN, getElem!_pos z.cells _ a8];exact cb.1 h1 _ (by simp)
   obtain ⟨us, g1, g2⟩ := yc (U := U) (ad := ad) (W := W) (ps := u7 n sz) (place := fun i => some (i * sz, sz)) (fun i q ak => by
     simp only [u7, ef] at ak;cases al : (List.range n)[i]? with
     | none => rw [al] at ak; cases ak
     | some m =>
      rw [al] at ak;cases ak;have := bF.1 al;obtain ⟨h3, aE⟩ := this;simp at aE;rw [aE]) (look := s.look) (env := env) parts _ _ zs r jy aI (fun p hp a aH => he p.2 (by simp only [Op.operands, List.mem_toArray, h9]; exact ⟨p, hp, rfl⟩) a aH) ab
   refine ⟨.slice (some ⟨W.heap.size, 0, none⟩) n n, W.alloc (.cells us.toArray e), ?_, ⟨⟨some ⟨W.heap.size, 0, none⟩, n, rfl, dl _, yI, fun au => ⟨_, us, rfl, Ur g2 ru⟩⟩, ?_⟩, (Below.refl _ _).alloc (dl _) _⟩
   ·have s4 : (parts.toArray.map fun (i, x) => (i, env x)).toList = parts.map fun p => (p.1, env p.2) := by simp
    have b5 : (Array.range (n * sz)).map (fun j => z.cells[j % z.cells.size]!) = ((List.range (n * sz)).map fun j => z.cells[j % z.cells.size]!).toArray := by simp [← List.toArray_range]
    simp only [execOp, Instr.buildSlice, Sem.run_bind, run_underlying hu, Result.andThen_ok, ht hi, bB];rw [if_neg (by omega), if_neg (by omega)];simp only [Sem.run_bind, Sem.run_pure, rL, Result.andThen_ok, b5, s4, g1, newRow, newObj, Sem.run];rfl
   ·rintro b ⟨c, a, e, au, ab⟩;cases e;exact Us g2 ab
end
def jY {α : Type} : List (Nat × α) → Nat → Option α
 | [], _ => none
 | (k, v) :: r, t => bif Nat.beq t k then some v else jY r t
def te (n : Nat) (aL : List (Nat × ah)) (bj : List (Nat × List AC)) : az := ⟨n, jY aL, jY bj⟩
def n3 {α : Type} (f : Nat → Option α) : List (Nat × α) → Prop
 | [] => True
 | (k, v) :: r => f k = some v ∧ n3 f r
theorem EH {α : Type} {f : Nat → Option α} : ∀ (l : List (Nat × α)), n3 f l → ∀ t v, jY l t = some v → f t = some v
 | [], _, t, v, h => by cases h
 | (k, u) :: r, aH, t, v, h => by
  simp only [jY] at h;cases ab : Nat.beq t k with
  | true => rw [ab] at h; cases h; rw [gl ab]; exact aH.1
  | false => rw [ab] at h; exact EH r aH.2 t v h
theorem CA {s : az} {n : Nat} {aL : List (Nat × ah)} {bj : List (Nat × List AC)} (au : n = s.n) (ax : n3 s.tmps aL) (hm : n3 s.mem bj) : s.aQ (te n aL bj) :=
 ⟨au, EH aL ax, EH bj hm⟩
def Cm {α : Type} (bj : List (Nat × α)) (k : Nat) : Bool := bj.any fun p => Nat.beq k p.1
def AL (bj : List (Nat × List AC)) : AC → Bool
 | .own k _ => Cm bj k
 | _ => true
def Uz (bj : List (Nat × List AC)) : ah → Bool
 | .w x => x.cells.all (AL bj)
 | .cj xs => xs.all fun x => x.cells.all (AL bj)
def okB (aL : List (Nat × ah)) (bj : List (Nat × List AC)) : Bool := aL.all (fun p => Uz bj p.2) && bj.all fun p => p.2.all (AL bj)
theorem NF {α : Type} {k : Nat} : ∀ (bj : List (Nat × α)), Cm bj k = true → ∃ v, jY bj k = some v
 | [], h => by cases h
 | (j, u) :: r, h => by
  simp only [Cm, List.any_cons, qL] at h;simp only [jY];cases ab : Nat.beq k j with
  | true => exact ⟨u, rfl⟩
  | false => rw [ab] at h; exact NF r (by simpa [Cm] using h)
theorem G8 {α : Type} {k : Nat} {v : α} : ∀ (bj : List (Nat × α)), jY bj k = some v → (k, v) ∈ bj
 | [], h => by cases h
 | (j, u) :: r, h => by
  simp only [jY] at h;cases ab : Nat.beq k j with
  | true => rw [ab] at h; cases h; rw [gl ab]; simp
  | false => rw [ab] at h; exact nL _ (G8 r h)
theorem Ex {bj : List (Nat × List AC)} {x : AC} {j : Nat} (h : AL bj x = true) (ae : x.owns j) : ∃ cs, jY bj j = some cs := by
 cases x with
 | c v => cases ae
 | p R => cases ae
 | own k o => cases ae; exact NF bj h
theorem Hi {n : Nat} {aL : List (Nat × ah)} {bj : List (Nat × List AC)} (h : okB aL bj = true) : (te n aL bj).cJ := by
 unfold okB at h;rw [dx] at h;refine ⟨fun t av j ax ae => ?_, fun k cs x j af aa ae => ?_⟩
 ·have h1 := cb.1 h.1 _ (G8 aL ax);cases av with
  | w x =>
   obtain ⟨y, ai, lE⟩ := ae;exact Ex (cb.1 h1 y ai) lE
  | cj xs =>
   obtain ⟨z, aI, y, ai, lE⟩ := ae;exact Ex (cb.1 (cb.1 h1 z aI) y ai) lE
 ·have h1 := cb.1 h.2 _ (G8 bj af);exact Ex (cb.1 h1 x aa) ae
section
variable {P : Program} {s : az} {x : Code}
theorem sD {Q : Exit → az → Prop} (N : Nat) (I : Nat → List (Nat × ah) → List (Nat × List AC) → Prop) (k : Nat) (aL : List (Nat × ah)) (bj : List (Nat × List AC)) (bh : I k aL bj) (au : N = s.n) (ax : n3 s.tmps aL) (hm : n3 s.mem bj) (ok : okB aL bj = true)
  (round : ∀ k aL bj, I k aL bj → okB aL bj = true → e2 P x (ra (fun s' => ∃ k' oO ow, k' < k ∧ I k' oO ow ∧ N = s'.n ∧ n3 s'.tmps oO ∧ n3 s'.mem ow ∧ okB oO ow = true) Q) (te N aL bj)) : e2 P (.loop x) Q s := by
 refine J1 (fun k s => ∃ aL bj, I k aL bj ∧ okB aL bj = true ∧ s = te N aL bj) k (te N aL bj) (CA au ax hm) (Hi ok) ⟨aL, bj, bh, ok, rfl⟩ ?_;rintro k s ⟨aL, bj, bh, ok, rfl⟩;intro du B A ad a w ar;refine qV (round k aL bj bh ok du B A ad a w ar) ?_;rintro e a' w' ⟨s', aY, u0, cg, ak⟩;refine ⟨s', aY, u0, cg, ?_⟩;cases e with
 | normal =>
  obtain ⟨k', oO, ow, h1, h2, h3, aE, cZ, ff⟩ := ak;exact ⟨k', h1, te N oO ow, CA h3 aE cZ, Hi ff, oO, ow, h2, ff, rfl⟩
 | _ => exact ak
def zG (P : Program) (x : Code) (Q : Exit → az → Prop) : Nat → az → Prop
 | 0, _ => False
 | n + 1, s => e2 P x (ra (zG P x Q n) Q) s
theorem aef {Q : Exit → az → Prop} {n : Nat} (h : e2 P x (ra (zG P x Q n) Q) s) : zG P x Q (n + 1) s := h
theorem UD (n : Nat) {Q : Exit → az → Prop} (h : zG P x Q n s) : e2 P (.loop x) Q s := by
 intro ok;refine J1 (fun k s => s.cJ ∧ zG P x Q k s) n s ⟨rfl, fun _ _ h => h, fun _ _ h => h⟩ ok ⟨ok, h⟩ ?_ ok;rintro k s ⟨ok, h⟩;cases k with
 | zero => cases h
 | succ k =>
  intro du B A ad a w ar;refine qV (h du B A ad a w ar) ?_;rintro e a' w' ⟨s', aY, u0, cg, ak⟩;refine ⟨s', aY, u0, cg, ?_⟩;cases e with
  | normal => exact ⟨k, Nat.lt_succ_self k, s', ⟨rfl, fun _ _ h => h, fun _ _ h => h⟩, u0, u0, ak⟩
  | _ => exact ak
end
def okW (x : br) : Bool := x.cells.all fun y => match y with | .c v => v.oneCell' | _ => true
def vQ : List br → Option (List Value)
 | [] => some []
 | x :: xs => match l6 x, vQ xs with
  | some v, some r => some (v :: r)
  | _, _ => none
def qf : ah → Option Value
 | .w x => l6 x
 | .cj xs => match vQ xs with
  | some r => some (.tuple r.toArray)
  | none => none
def HD : ah → Bool
 | .w x => okW x
 | .cj xs => xs.all okW
section
variable {U : Nat → Prop} {ad : Nat → Nat} {W : World}
theorem QF : ∀ (xs : List AC) (r : List Value), sK xs = some r → (xs.all fun y => match y with | .c v => v.oneCell' | _ => true) = true → bH U ad W xs r
 | [], r, h, _ => by cases h; exact ⟨rfl, fun i x v h => by simp at h⟩
 | .c v :: xs, r, h, ok => by
  simp only [sK] at h
  split at h
  ·rename_i aT al;cases h;simp only [jI, dx] at ok;have bO := QF xs aT al ok.2;refine ⟨by simp [bO.1], fun i x u aa hu => ?_⟩;cases i with
   | zero => simp at aa hu; subst aa; subst hu; exact ⟨rfl, ok.1⟩
   | succ i => exact bO.2 i x u (by simpa using aa) (by simpa using hu)
  ·cases h
 | .own _ _ :: _, _, h, _ => by cases h
 | .p _ :: _, _, h, _ => by cases h
theorem QK {x : br} {u : Value} (h : l6 x = some u) (ok : okW x = true) : fE U ad W x u := by
 cases x with
 | one y => cases y with
  | c v => cases h; simp [okW, br.cells] at ok; exact ⟨rfl, ok⟩
  | own => cases h
  | p => cases h
 | agg xs =>
  simp only [l6] at h
  split at h
  ·rename_i r al; cases h; exact ⟨r, rfl, QF xs r al ok⟩
  ·cases h
theorem QH : ∀ (xs : List br) (r : List Value), vQ xs = some r → xs.all okW = true → xs.length = r.length ∧ ∀ (i : Nat) (x : br) (v : Value), xs[i]? = some x → r[i]? = some v → fE U ad W x v
 | [], r, h, _ => by cases h; exact ⟨rfl, fun i x v h => by simp at h⟩
 | x :: xs, r, h, ok => by
  simp only [vQ] at h
  split at h
  ·rename_i v aT hv al;cases h;simp only [jI, dx] at ok;obtain ⟨h1, h2⟩ := QH xs aT al ok.2;refine ⟨by simp [h1], fun i y u ai hu => ?_⟩;cases i with
   | zero => simp at ai hu; subst ai; subst hu; exact QK hv ok.1
   | succ i => exact h2 i y u (by simpa using ai) (by simpa using hu)
  ·cases h
theorem Dn {x : ah} {u : Value} (h : qf x = some u) (ok : HD x = true) : cR U ad W x u := by
 cases x with
 | w y => exact QK h ok
 | cj xs =>
  simp only [qf] at h
  split at h
  ·rename_i r al; cases h; exact ⟨r, rfl, QH xs r al ok⟩
  ·cases h
end
theorem ho {P : Program} {f : FuncId} {args : List ah} {r : ah} (iY : List Value) (bR : Value) (he : args.map (fun x => match x with | .w y => l6 y | _ => none) = iY.map some) (al : qf r = some bR) (jq : args.all ah.aV = true) (bV : r.aV = true) (ok : HD r = true)
  (h : ∀ W, Calls P f iY.toArray W fun e bb => e = .returned bR ∧ Below W.heap.size W bb) : aC P f args r :=
 HU iY he jq bV fun W => (h W).mono fun e w' ⟨h1, h2⟩ => ⟨bR, h1, fun _ _ => Dn al ok, h2⟩
structure xJ where
 ty : List (Nat × Bool × Nat)
 zero : List (Nat × List Value)
 nx : List (Nat × List (Nat × Nat))
 mD : List (Nat × Nat × Nat)
 iv : List (Nat × List (Nat × Nat))
def k1 {α : Type} (R : α → Prop) : List α → Prop
 | [] => True
 | a :: l => R a ∧ k1 R l
theorem qa {α : Type} {R : Nat × α → Prop} {k : Nat} {v : α} : ∀ (l : List (Nat × α)), k1 R l → jY l k = some v → R (k, v)
 | [], _, h => by cases h
 | (j, u) :: l, hl, h => by
  simp only [jY] at h;cases ab : Nat.beq k j with
  | true => rw [ab] at h; cases h; obtain rfl := gl ab; exact hl.1
  | false => rw [ab] at h; exact qa l hl.2 h
class Ei (P : Program) (T : outParam xJ) : Prop where
 ty : k1 (fun p => j8 P p.1 = some p.2) T.ty
 zero : k1 (fun p => zeroOf P p.1 = some p.2) T.zero
 nx : k1 (fun p => k1 (fun q => sM P p.1 q.1 = some q.2) p.2) T.nx
 mD : k1 (fun p => AV P p.1 = some p.2) T.mD
 iv : k1 (fun p => C7 P p.1 = some p.2) T.iv
def Qk (b : BinOp) (m n : Int) : Option Bool :=
 match b with
 | .lss => some (decide (m < n))
 | .leq => some (decide (m ≤ n))
 | .gtr => some (decide (n < m))
 | .geq => some (decide (n ≤ m))
 | .eql => some (decide (m = n))
 | .neq => some (!decide (m = n))
 | _ => none
def mj (T : xJ) (s : az) (d : Nat) : Op → Option az
 | .move x => match s.look x with
  | some av => some (s.put (some d) av)
  | none => none
 | .assign x => match s.look x with
  | some av => some (s.put (some d) av)
  | none => none
 | .pick c x y => match s.look c, s.look x, s.look y with
  | some (.w (.one (.c (.bool true)))), some av, some _ => some (s.put (some d) av)
  | some (.w (.one (.c (.bool false)))), some _, some bv => some (s.put (some d) bv)
  | _, _, _ => none
 | .alloc t => match jY T.zero t, s.mem d with
  | some vs, none => bif vs.all fun v => v.oneCell' then some ((s.dT d (vs.map .c)).put (some d) (hy d 0)) else none
  | _, _ => none
 | .box _ x => match s.look x, s.mem d with
  | some (.w z), none => some ((s.dT d z.cells).put (some d) (hy d 0))
  | _, _ => none
 | .load t x => match s.look x with
  | some (.w (.one (.own k off))) => match s.mem k with
   | some cs => match jY T.ty t with
    | some (false, _) => match cs[off]? with
     | some y => some (s.put (some d) (.w (.one y)))
     | none => none
    | some (true, n) => match takeN cs off n with
     | some aO => some (s.put (some d) (.w (.agg aO)))
     | none => none
    | none => none
   | none => none
  | _ => none
 | .fieldAddr t x i => match s.look x with
  | some (.w (.one (.own k off))) => match jY T.nx t with
   | some l => match jY l i with
    | some hU => some (s.put (some d) (hy k (off + hU)))
    | none => none
   | none => none
  | _ => none
 | .indexAddr t x y => match s.look x, s.look y with
  | some (.w (.one (.own k off))), some (.w (.one (.c (.int _ i)))) => match jY T.mD t with
   | some (n, size) => bif decide (0 ≤ i) && decide (i < n) then some (s.put (some d) (hy k (off + i.toNat * size))) else none
   | none => none
  | _, _ => none
 | .extract x i => match s.look x with
  | some (.cj xs) => match xs[i]? with
   | some y => some (s.put (some d) (.w y))
   | none => none
  | _ => none
 | .build t parts => match mf s.look parts.toList, jY T.zero t, jY T.iv t with
  | some zs, some vs, some ps => match o7 ps (vs.map .c) zs with
   | some r => bif vs.all fun v => v.oneCell' then some (s.put (some d) (.w (.agg r))) else none
   | none => none
  | _, _, _ => none
 | .binOp b _ x y _ => match s.look x, s.look y with
  | some (.w (.one (.c (.int k m)))), some (.w (.one (.c (.int k' n)))) => match decEq k k' with
   | isTrue _ => match Qk b m n with
    | some r => some (s.put (some d) (bf r))
    | none => none
   | isFalse _ => none
  | _, _ => none
 | .unOp .not _ x => match s.look x with
  | some (.w (.one (.c (.bool b)))) => some (s.put (some d) (bf (!b)))
  | _ => none
 | _ => none
def Qm (T : xJ) (ops : Array Oper) (s : az) (o : Oper) : Option az :=
 match want ops o s with
 | some true => match o.dst with
  | some d => bif Nat.blt d s.n then mj T s d o.op else none
  | none => match o.op with
   | .store t x y => match s.look x, s.look y with
    | some (.w (.one (.own k off))), some (.w z) => match s.mem k, jY T.ty t with
     | some cs, some (_, n) => bif Nat.beq n z.cells.length then (match oH cs off z.cells with
      | some ds => some (s.dT k ds)
      | none => none) else none
     | _, _ => none
    | _, _ => none
   | _ => none
 | some false => match o.dst with
  | some d => bif Nat.blt d s.n then some (s.put (some d) (.cj [])) else none
  | none => some s
 | none => none
section
variable {P : Program} {T : xJ} {s s' : az} {ops : Array Oper} {K : az → Prop} {rest : List Oper}
theorem Uh [Q : Ei P T] {d ty : Nat} {op : Op} {pos : String} {after : Array Edge} {guard : Option (Nat × Bool)} (hw : want ops ⟨some d, op, ty, pos, after, guard⟩ s = some true) (hd : Nat.blt d s.n = true) (h : mj T s d op = some s') (k : a7 P ops K rest s') :
  a7 P ops K (⟨some d, op, ty, pos, after, guard⟩ :: rest) s := by
 cases op with
 | move x =>
  simp only [mj] at h
  split at h
  ·rename_i av aa; cases h; exact T6 hw aa hd k
  ·cases h
 | assign x =>
  simp only [mj] at h
  split at h
  ·rename_i av aa; cases h; exact Tz hw aa hd k
  ·cases h
 | pick c x y =>
  simp only [mj] at h
  split at h
  ·rename_i av bv aj aa ai; cases h; exact Ug hw aj aa ai hd k
  ·rename_i av bv aj aa ai; cases h; exact Uf hw aj ai aa hd k
  ·cases h
 | alloc t =>
  simp only [mj] at h
  split at h
  ·rename_i vs aI hm;have dD := qa _ Q.zero aI;cases h1 : (vs.all fun v => v.oneCell') with
   | true =>
    rw [h1] at h;cases h;have : AK P t vs := ⟨dD⟩;exact Tx hw hm h1 hd k
   | false => rw [h1] at h; cases h
  ·cases h
 | box t x =>
  simp only [mj] at h
  split at h
  ·rename_i z aa hm; cases h; exact TA hw aa hm hd k
  ·cases h
 | load t x =>
  simp only [mj] at h
  split at h
  ·rename_i j off aa
   split at h
   ·rename_i cs hm
    split at h
    ·rename_i n cy;have yk := qa _ Q.ty cy
     split at h
     ·rename_i y aj; cases h; have : e5 P t false n := ⟨yk⟩; exact TX hw aa hm aj hd k
     ·cases h
    ·rename_i n cy;have yk := qa _ Q.ty cy
     split at h
     ·rename_i aO aj; cases h; have : e5 P t true n := ⟨yk⟩; exact TY hw aa hm aj hd k
     ·cases h
    ·cases h
   ·cases h
  ·cases h
 | fieldAddr t x i =>
  simp only [mj] at h
  split at h
  ·rename_i j off aa
   split at h
   ·rename_i l hl
    split at h
    ·rename_i hU ap;have hF := qa _ (qa _ Q.nx hl) ap;cases h;have : mA P t i hU := ⟨hF⟩;exact TO hw aa hd k
    ·cases h
   ·cases h
  ·cases h
 | indexAddr t x y =>
  simp only [mj] at h
  split at h
  ·rename_i j off gx i aa ai
   split at h
   ·rename_i n size dR;have uu := qa _ Q.mD dR;cases h1 : (decide (0 ≤ i) && decide (i < (n : Int))) with
    | true =>
     rw [h1] at h;cases h;rw [dx, ca, ca] at h1;have : IQ P t n size := ⟨uu⟩;exact JK hw aa ai h1.1 h1.2 hd k
    | false => rw [h1] at h; cases h
   ·cases h
  ·cases h
 | extract x i =>
  simp only [mj] at h
  split at h
  ·rename_i xs aa
   split at h
   ·rename_i y ai; cases h; exact TL hw aa ai hd k
   ·cases h
  ·cases h
 | build t parts =>
  simp only [mj] at h
  split at h
  ·rename_i zs vs ps aI hv hp;have dD := qa _ Q.zero hv;have iK := qa _ Q.iv hp
   split at h
   ·rename_i r al;cases h1 : (vs.all fun v => v.oneCell') with
    | true =>
     rw [h1] at h;cases h;have : AK P t vs := ⟨dD⟩;have : Jd P t ps := ⟨iK⟩;have g : a7 P ops K (⟨some d, .build t parts.toList.toArray, ty, pos, after, guard⟩ :: rest) s := TC (by rw [Array.toArray_toList]; exact hw) aI al h1 hd k;rwa [Array.toArray_toList] at g
    | false => rw [h1] at h; cases h
   ·cases h
  ·cases h
 | binOp b cV x y dK =>
  simp only [mj] at h
  split at h
  ·rename_i gx m ahZ n aa ai
   split at h
   ·rename_i e he;subst e;cases b <;> simp only [Qk] at h <;> cases h
    ·exact TI hw aa ai hd k
    ·exact T9 hw aa ai hd k
    ·exact T1 hw aa ai hd k
    ·exact TW hw aa ai hd k
    ·exact TS hw aa ai hd k
    ·exact TR hw aa ai hd k
   ·cases h
  ·cases h
 | unOp u cV x =>
  cases u <;> simp only [mj] at h <;> try (cases h; done)
  split at h
  ·rename_i b aa; cases h; exact Ue hw aa hd k
  ·cases h
 | _ => simp only [mj] at h; cases h
theorem AR [Q : Ei P T] {o : Oper} (h : Qm T ops s o = some s') (k : a7 P ops K rest s') : a7 P ops K (o :: rest) s := by
 obtain ⟨dst, op, ty, pos, after, guard⟩ := o;unfold Qm at h
 split at h
 ·rename_i hw;cases dst with
  | some d =>
   simp only at h;cases hd : Nat.blt d s.n with
   | true => rw [hd] at h; exact Uh hw hd h k
   | false => rw [hd] at h; cases h
  | none =>
   simp only at h
   split at h
   ·rename_i t x y
    split at h
    ·rename_i j off z aa ai
     split at h
     ·rename_i cs b n hm cy;have yk := qa _ Q.ty cy;cases au : Nat.beq n z.cells.length with
      | true =>
       rw [au] at h;simp only [cond_true] at h
       split at h
       ·rename_i ds hp;cases h;have : e5 P t b n := ⟨yk⟩;exact Um hw aa ai hm au hp k
       ·cases h
      | false => rw [au] at h; cases h
     ·cases h
    ·cases h
   ·cases h
 ·rename_i hw;cases dst with
  | some d =>
   simp only at h;cases hd : Nat.blt d s.n with
   | true => rw [hd] at h; cases h; exact JN hw (fun d' e => by cases e; exact hd) k
   | false => rw [hd] at h; cases h
  | none => cases h; exact JN hw (fun d' e => by cases e) k
 ·cases h
end
end Go.Proofs.YtbcecodakfejaaaGreat
namespace Go.Proofs.YtbcecodakfejaaaGreat
instance : e5 ag 3 false 1 := ⟨by kernel_rfl⟩
instance : D7 ag 3 .i64 := ⟨by kernel_rfl⟩
instance : e5 ag 4 false 1 := ⟨by kernel_rfl⟩
instance : hQ ag 22 5 := ⟨by kernel_rfl⟩
instance : e5 ag 27 false 1 := ⟨by kernel_rfl⟩
instance : nn ag 27 [.int .i64 0, .int .i64 0] := ⟨by kernel_rfl⟩
instance : hQ ag 27 2 := ⟨by kernel_rfl⟩
instance : nn ag 28 [.slice none 0 0, .slice none 0 0] := ⟨by kernel_rfl⟩
instance : hQ ag 28 2 := ⟨by kernel_rfl⟩
instance : e5 ag 30 true 10 := ⟨by kernel_rfl⟩
instance : mA ag 30 2 2 := ⟨by kernel_rfl⟩
instance : e5 ag 32 false 1 := ⟨by kernel_rfl⟩
instance : nn ag 32 [.int .i64 0] := ⟨by kernel_rfl⟩
instance : hQ ag 32 1 := ⟨by kernel_rfl⟩
instance : e5 ag 34 true 2 := ⟨by kernel_rfl⟩
instance : mA ag 34 0 0 := ⟨by kernel_rfl⟩
instance : mA ag 34 1 1 := ⟨by kernel_rfl⟩
instance : e5 ag 36 true 2 := ⟨by kernel_rfl⟩
instance : e5 ag 38 true 2 := ⟨by kernel_rfl⟩
instance : mA ag 38 0 0 := ⟨by kernel_rfl⟩
instance : mA ag 38 1 1 := ⟨by kernel_rfl⟩
instance : e5 ag 53 true 5 := ⟨by kernel_rfl⟩
instance : mA ag 53 0 0 := ⟨by kernel_rfl⟩
instance : mA ag 53 1 2 := ⟨by kernel_rfl⟩
instance : e5 ag 68 true 5 := ⟨by kernel_rfl⟩
instance : nn ag 69 [.int .i64 0, .int .i64 0, .int .i64 0, .int .i64 0, .int .i64 0] := ⟨by kernel_rfl⟩
instance : hQ ag 69 5 := ⟨by kernel_rfl⟩
instance : nn ag 76 [.int .i64 0, .int .i64 0, .int .i64 0, .int .i64 0] := ⟨by kernel_rfl⟩
instance : hQ ag 76 4 := ⟨by kernel_rfl⟩
instance : mA ag 78 1 1 := ⟨by kernel_rfl⟩
instance : e5 ag 85 true 2 := ⟨by kernel_rfl⟩
instance : e5 ag 87 true 4 := ⟨by kernel_rfl⟩
instance : e5 ag 104 true 6 := ⟨by kernel_rfl⟩
instance : nn ag 115 [.bool false, .slice none 0 0, .bool false, .slice none 0 0] := ⟨by kernel_rfl⟩
instance : hQ ag 115 4 := ⟨by kernel_rfl⟩
instance : nn ag 134 [.int .i64 0, .int .i64 0, .int .i64 0] := ⟨by kernel_rfl⟩
instance : hQ ag 134 3 := ⟨by kernel_rfl⟩
instance : e5 ag 146 true 2 := ⟨by kernel_rfl⟩
instance : e5 ag 148 true 4 := ⟨by kernel_rfl⟩
instance : e5 ag 150 true 13 := ⟨by kernel_rfl⟩
instance : e5 ag 155 true 4 := ⟨by kernel_rfl⟩
instance : e5 ag 181 true 4 := ⟨by kernel_rfl⟩
instance : nn ag 193 [.slice none 0 0] := ⟨by kernel_rfl⟩
instance : hQ ag 193 1 := ⟨by kernel_rfl⟩
instance : nn ag 194 [.slice none 0 0] := ⟨by kernel_rfl⟩
instance : hQ ag 194 1 := ⟨by kernel_rfl⟩
instance : e5 ag 209 false 1 := ⟨by kernel_rfl⟩
instance : D7 ag 209 .u64 := ⟨by kernel_rfl⟩
instance : e5 ag 214 true 3 := ⟨by kernel_rfl⟩
instance : mA ag 214 1 2 := ⟨by kernel_rfl⟩
instance : e5 ag 225 true 3 := ⟨by kernel_rfl⟩
instance : e5 ag 227 true 10 := ⟨by kernel_rfl⟩
instance : e5 ag 246 true 4 := ⟨by kernel_rfl⟩
instance : e5 ag 250 true 2 := ⟨by kernel_rfl⟩
instance : Enters ag 7 := ⟨by kernel_rfl⟩
instance : Enters ag 8 := ⟨by kernel_rfl⟩
instance : Enters ag 9 := ⟨by kernel_rfl⟩
instance : Enters ag 10 := ⟨by kernel_rfl⟩
instance : Enters ag 11 := ⟨by kernel_rfl⟩
instance : Enters ag 12 := ⟨by kernel_rfl⟩
instance : Enters ag 13 := ⟨by kernel_rfl⟩
instance : Enters ag 14 := ⟨by kernel_rfl⟩
instance : Enters ag 18 := ⟨by kernel_rfl⟩
instance : Enters ag 25 := ⟨by kernel_rfl⟩
instance : Enters ag 26 := ⟨by kernel_rfl⟩
instance : Enters ag 27 := ⟨by kernel_rfl⟩
instance : Enters ag 28 := ⟨by kernel_rfl⟩
instance : Enters ag 29 := ⟨by kernel_rfl⟩
instance : Enters ag 30 := ⟨by kernel_rfl⟩
instance : Enters ag 31 := ⟨by kernel_rfl⟩
instance : Enters ag 32 := ⟨by kernel_rfl⟩
instance : Enters ag 33 := ⟨by kernel_rfl⟩
instance : Enters ag 34 := ⟨by kernel_rfl⟩
instance : Enters ag 35 := ⟨by kernel_rfl⟩
instance : Enters ag 36 := ⟨by kernel_rfl⟩
instance : Enters ag 37 := ⟨by kernel_rfl⟩
instance : Enters ag 38 := ⟨by kernel_rfl⟩
instance : Enters ag 39 := ⟨by kernel_rfl⟩
instance : Enters ag 40 := ⟨by kernel_rfl⟩
instance : Enters ag 41 := ⟨by kernel_rfl⟩
instance : Enters ag 44 := ⟨by kernel_rfl⟩
instance : Enters ag 49 := ⟨by kernel_rfl⟩
instance : Enters ag 50 := ⟨by kernel_rfl⟩
instance : Enters ag 51 := ⟨by kernel_rfl⟩
instance : Enters ag 52 := ⟨by kernel_rfl⟩
instance : Enters ag 53 := ⟨by kernel_rfl⟩
instance : Enters ag 54 := ⟨by kernel_rfl⟩
instance : Enters ag 55 := ⟨by kernel_rfl⟩
instance : Enters ag 56 := ⟨by kernel_rfl⟩
instance : Enters ag 57 := ⟨by kernel_rfl⟩
instance : Enters ag 58 := ⟨by kernel_rfl⟩
instance : Enters ag 59 := ⟨by kernel_rfl⟩
instance : Enters ag 60 := ⟨by kernel_rfl⟩
instance : Enters ag 61 := ⟨by kernel_rfl⟩
instance : Enters ag 62 := ⟨by kernel_rfl⟩
instance : Enters ag 63 := ⟨by kernel_rfl⟩
instance : Enters ag 64 := ⟨by kernel_rfl⟩
instance : Enters ag 65 := ⟨by kernel_rfl⟩
instance : Enters ag 66 := ⟨by kernel_rfl⟩
instance : Enters ag 67 := ⟨by kernel_rfl⟩
instance : Enters ag 68 := ⟨by kernel_rfl⟩
instance : Enters ag 69 := ⟨by kernel_rfl⟩
instance : Enters ag 70 := ⟨by kernel_rfl⟩
instance : Enters ag 71 := ⟨by kernel_rfl⟩
instance : Enters ag 72 := ⟨by kernel_rfl⟩
instance : Enters ag 73 := ⟨by kernel_rfl⟩
instance : Enters ag 76 := ⟨by kernel_rfl⟩
instance : Enters ag 77 := ⟨by kernel_rfl⟩
instance : Enters ag 85 := ⟨by kernel_rfl⟩
instance : Enters ag 86 := ⟨by kernel_rfl⟩
instance : Enters ag 87 := ⟨by kernel_rfl⟩
instance : Enters ag 88 := ⟨by kernel_rfl⟩
instance : Enters ag 89 := ⟨by kernel_rfl⟩
instance : Enters ag 90 := ⟨by kernel_rfl⟩
instance : Enters ag 91 := ⟨by kernel_rfl⟩
instance : Enters ag 92 := ⟨by kernel_rfl⟩
instance : Enters ag 93 := ⟨by kernel_rfl⟩
instance : Enters ag 94 := ⟨by kernel_rfl⟩
instance : Enters ag 95 := ⟨by kernel_rfl⟩
instance : Enters ag 96 := ⟨by kernel_rfl⟩
instance : Enters ag 97 := ⟨by kernel_rfl⟩
instance : Enters ag 98 := ⟨by kernel_rfl⟩
instance : Enters ag 99 := ⟨by kernel_rfl⟩
instance : Enters ag 100 := ⟨by kernel_rfl⟩
instance : Enters ag 101 := ⟨by kernel_rfl⟩
instance : Enters ag 102 := ⟨by kernel_rfl⟩
instance : Enters ag 103 := ⟨by kernel_rfl⟩
instance : Enters ag 104 := ⟨by kernel_rfl⟩
instance : Enters ag 105 := ⟨by kernel_rfl⟩
instance : Enters ag 106 := ⟨by kernel_rfl⟩
instance : Enters ag 107 := ⟨by kernel_rfl⟩
instance : Enters ag 108 := ⟨by kernel_rfl⟩
instance : Enters ag 109 := ⟨by kernel_rfl⟩
instance : Enters ag 120 := ⟨by kernel_rfl⟩
instance : Enters ag 121 := ⟨by kernel_rfl⟩
instance : Enters ag 122 := ⟨by kernel_rfl⟩
instance : Enters ag 123 := ⟨by kernel_rfl⟩
instance : Enters ag 124 := ⟨by kernel_rfl⟩
instance : Enters ag 125 := ⟨by kernel_rfl⟩
instance : Enters ag 126 := ⟨by kernel_rfl⟩
instance : Enters ag 127 := ⟨by kernel_rfl⟩
instance : Enters ag 128 := ⟨by kernel_rfl⟩
instance : Enters ag 129 := ⟨by kernel_rfl⟩
instance : Enters ag 130 := ⟨by kernel_rfl⟩
instance : Enters ag 131 := ⟨by kernel_rfl⟩
instance : Enters ag 132 := ⟨by kernel_rfl⟩
instance : Enters ag 133 := ⟨by kernel_rfl⟩
instance : Enters ag 134 := ⟨by kernel_rfl⟩
instance : Enters ag 135 := ⟨by kernel_rfl⟩
instance : Enters ag 136 := ⟨by kernel_rfl⟩
instance : Enters ag 137 := ⟨by kernel_rfl⟩
instance : Enters ag 138 := ⟨by kernel_rfl⟩
instance : Enters ag 140 := ⟨by kernel_rfl⟩
instance : Enters ag 141 := ⟨by kernel_rfl⟩
instance : Enters ag 142 := ⟨by kernel_rfl⟩
instance : Enters ag 143 := ⟨by kernel_rfl⟩
instance : Enters ag 144 := ⟨by kernel_rfl⟩
instance : Enters ag 145 := ⟨by kernel_rfl⟩
instance : Enters ag 146 := ⟨by kernel_rfl⟩
instance : Enters ag 147 := ⟨by kernel_rfl⟩
instance : Enters ag 148 := ⟨by kernel_rfl⟩
instance : Enters ag 149 := ⟨by kernel_rfl⟩
instance : Enters ag 150 := ⟨by kernel_rfl⟩
instance : Enters ag 151 := ⟨by kernel_rfl⟩
instance : Enters ag 152 := ⟨by kernel_rfl⟩
instance : Enters ag 153 := ⟨by kernel_rfl⟩
instance : Enters ag 154 := ⟨by kernel_rfl⟩
instance : Enters ag 155 := ⟨by kernel_rfl⟩
instance : Enters ag 156 := ⟨by kernel_rfl⟩
instance : Enters ag 157 := ⟨by kernel_rfl⟩
instance : Enters ag 158 := ⟨by kernel_rfl⟩
instance : Enters ag 159 := ⟨by kernel_rfl⟩
instance : Enters ag 160 := ⟨by kernel_rfl⟩
instance : Enters ag 163 := ⟨by kernel_rfl⟩
instance : Enters ag 164 := ⟨by kernel_rfl⟩
instance : Enters ag 165 := ⟨by kernel_rfl⟩
instance : Enters ag 166 := ⟨by kernel_rfl⟩
instance : Enters ag 167 := ⟨by kernel_rfl⟩
instance : Enters ag 168 := ⟨by kernel_rfl⟩
instance : Enters ag 169 := ⟨by kernel_rfl⟩
instance : Enters ag 170 := ⟨by kernel_rfl⟩
instance : Enters ag 171 := ⟨by kernel_rfl⟩
instance : Enters ag 172 := ⟨by kernel_rfl⟩
instance : Enters ag 173 := ⟨by kernel_rfl⟩
instance : Enters ag 174 := ⟨by kernel_rfl⟩
instance : Enters ag 175 := ⟨by kernel_rfl⟩
instance : Enters ag 176 := ⟨by kernel_rfl⟩
instance : Enters ag 177 := ⟨by kernel_rfl⟩
instance : Enters ag 179 := ⟨by kernel_rfl⟩
instance : Enters ag 180 := ⟨by kernel_rfl⟩
instance : Enters ag 181 := ⟨by kernel_rfl⟩
instance : Enters ag 182 := ⟨by kernel_rfl⟩
instance : Enters ag 185 := ⟨by kernel_rfl⟩
instance : Enters ag 186 := ⟨by kernel_rfl⟩
instance : Enters ag 187 := ⟨by kernel_rfl⟩
instance : Enters ag 188 := ⟨by kernel_rfl⟩
instance : Enters ag 189 := ⟨by kernel_rfl⟩
instance : Enters ag 190 := ⟨by kernel_rfl⟩
instance : Enters ag 191 := ⟨by kernel_rfl⟩
instance : Enters ag 192 := ⟨by kernel_rfl⟩
instance : Enters ag 194 := ⟨by kernel_rfl⟩
instance : Enters ag 195 := ⟨by kernel_rfl⟩
instance : Enters ag 196 := ⟨by kernel_rfl⟩
instance : Enters ag 197 := ⟨by kernel_rfl⟩
instance : Enters ag 198 := ⟨by kernel_rfl⟩
instance : Enters ag 199 := ⟨by kernel_rfl⟩
instance : Enters ag 200 := ⟨by kernel_rfl⟩
instance : Enters ag 201 := ⟨by kernel_rfl⟩
instance : Enters ag 203 := ⟨by kernel_rfl⟩
instance : Enters ag 204 := ⟨by kernel_rfl⟩
instance : Enters ag 205 := ⟨by kernel_rfl⟩
instance : Enters ag 206 := ⟨by kernel_rfl⟩
instance : Enters ag 208 := ⟨by kernel_rfl⟩
instance : Enters ag 209 := ⟨by kernel_rfl⟩
instance : Enters ag 212 := ⟨by kernel_rfl⟩
instance : Enters ag 213 := ⟨by kernel_rfl⟩
instance : Enters ag 215 := ⟨by kernel_rfl⟩
instance : Enters ag 216 := ⟨by kernel_rfl⟩
instance : Enters ag 217 := ⟨by kernel_rfl⟩
instance : Enters ag 218 := ⟨by kernel_rfl⟩
instance : Enters ag 219 := ⟨by kernel_rfl⟩
def tab : xJ where
 ty := [(0, false, 1), (1, false, 1), (2, false, 1), (3, false, 1), (4, false, 1), (9, false, 1), (20, false, 1), (22, false, 1), (25, false, 1), (27, false, 1), (28, false, 1), (30, true, 10), (32, false, 1), (34, true, 2), (36, true, 2), (38, true, 2), (40, true, 2), (53, true, 5), (68, true, 5), (69, false, 1), (75, false, 1), (76, false, 1), (78, true, 13), (85, true, 2), (87, true, 4), (103, true, 4), (104, true, 6), (108, false, 1), (115, false, 1), (133, false, 1), (134, false, 1), (136, true, 1), (138, true, 2), (140, false, 1), (144, false, 1), (146, true, 2), (148, true, 4), (150, true, 13), (153, false, 1), (155, true, 4), (157, false, 1), (160, false, 1), (162, false, 1), (175, false, 1), (176, false, 1), (178, false, 1), (181, true, 4), (193, false, 1), (194, false, 1), (196, false, 1), (201, false, 1), (204, false, 1), (209, false, 1), (210, false, 1), (212, false, 1), (214, true, 3), (223, true, 6), (225, true, 3), (227, true, 10), (229, false, 1), (230, true, 4), (231, false, 1), (232, false, 1), (234, false, 1), (238, false, 1), (246, true, 4), (250, true, 2), (251, false, 1), (258, false, 1), (264, false, 1)]
 zero := [(1, [.nilFunc]), (2, [.int .i64 0]), (3, [.int .i64 0]), (4, [.bool false]), (9, [.string ByteArray.empty]), (20, [.nilIface]), (22, [.slice none 0 0]), (25, [.pointer none]), (27, [.slice none 0 0]), (28, [.slice none 0 0]), (30, [.int .i64 0, .int .i64 0, .int .i64 0, .int .i64 0, .int .i64 0, .int .i64 0, .bool false, .slice none 0 0, .slice none 0 0, .slice none 0 0]), (32, [.slice none 0 0]), (34, [.slice none 0 0, .slice none 0 0]), (36, [.int .i64 0, .int .i64 0]), (38, [.int .i64 0, .int .i64 0]), (40, [.int .i64 0, .int .i64 0]), (53, [.int .i64 0, .int .i64 0, .int .i64 0, .int .i64 0, .int .i64 0]), (68, [.int .i64 0, .int .i64 0, .int .i64 0, .int .i64 0, .int .i64 0]), (69, [.slice none 0 0]), (75, [.pointer none]), (76, [.slice none 0 0]), (78, [.slice none 0 0, .int .i64 0, .int .i64 0, .int .i64 0, .int .i64 0, .int .i64 0, .int .i64 0, .bool false, .slice none 0 0, .slice none 0 0, .slice none 0 0, .pointer none, .slice none 0 0]), (85, [.bool false, .slice none 0 0]), (87, [.bool false, .slice none 0 0, .bool false, .slice none 0 0]), (103, [.nilFunc, .nilFunc, .nilFunc, .nilFunc]), (104, [.int .i64 0, .int .i64 0, .int .i64 0, .int .i64 0, .int .i64 0, .int .i64 0]), (108, [.nilFunc]), (115, [.slice none 0 0]), (133, [.nilFunc]), (134, [.slice none 0 0]), (136, [.slice none 0 0]), (138, [.slice none 0 0, .int .i64 0]), (144, [.int .u64 0]), (146, [.int .i64 0, .int .u64 0]), (148, [.int .i64 0, .int .u64 0, .int .i64 0, .int .u64 0]), (150, [.int .i64 0, .int .i64 0, .int .u64 0, .int .i64 0, .int .u64 0, .int .i64 0, .int .u64 0, .int .i64 0, .int .u64 0, .int .i64 0, .int .i64 0, .int .i64 0, .int .i64 0]), (153, [.pointer none]), (155, [.int .i64 0, .int .i64 0, .int .i64 0, .int .i64 0]), (160, [.nilFunc]), (175, [.int .i64 0]), (181, [.int .i64 0, .int .i64 0, .int .i64 0, .int .i64 0]), (193, [.slice none 0 0]), (194, [.slice none 0 0]), (209, [.int .u64 0]), (212, [.pointer none]), (214, [.int .i64 0, .int .i64 0, .int .i64 0]), (223, [.int .i64 0, .int .i64 0, .int .i64 0, .int .i64 0, .bool false, .bool false]), (225, [.int .i64 0, .int .i64 0, .bool false]), (227, [.int .i64 0, .int .i64 0, .int .i64 0, .int .i64 0, .int .i64 0, .int .i64 0, .bool false, .int .i64 0, .int .i64 0, .bool false]), (229, [.nilFunc]), (230, [.nilFunc, .nilFunc, .nilFunc, .nilFunc]), (231, [.int .u32 0]), (238, [.nilFunc]), (246, [.int .i64 0, .int .i64 0, .int .i64 0, .int .i64 0]), (250, [.int .u64 0, .int .u64 0])]
 nx := [(30, [(0, 0), (1, 1), (2, 2), (3, 3), (4, 4), (5, 5), (6, 6), (7, 7), (8, 8), (9, 9)]), (34, [(0, 0), (1, 1)]), (36, [(0, 0), (1, 1)]), (38, [(0, 0), (1, 1)]), (40, [(0, 0), (1, 1)]), (53, [(0, 0), (1, 2), (2, 4)]), (68, [(0, 0), (1, 2), (2, 4)]), (78, [(0, 0), (1, 1), (2, 11), (3, 12)]), (85, [(0, 0), (1, 1)]), (87, [(0, 0), (1, 2)]), (136, [(0, 0)]), (138, [(0, 0), (1, 1)]), (146, [(0, 0), (1, 1)]), (148, [(0, 0), (1, 2)]), (150, [(0, 0), (1, 1), (2, 5), (3, 9), (4, 11)]), (155, [(0, 0), (1, 2)]), (181, [(0, 0), (1, 2)]), (214, [(0, 0), (1, 2)]), (223, [(0, 0), (1, 2), (2, 4), (3, 5)]), (225, [(0, 0), (1, 1), (2, 2)]), (227, [(0, 0), (1, 2), (2, 4), (3, 7)]), (246, [(0, 0), (1, 2)]), (250, [(0, 0), (1, 1)])]
 mD := [(103, 4, 1), (104, 6, 1), (230, 4, 1)]
 iv := [(30, [(0, 1), (1, 1), (2, 1), (3, 1), (4, 1), (5, 1), (6, 1), (7, 1), (8, 1), (9, 1)]), (34, [(0, 1), (1, 1)]), (36, [(0, 1), (1, 1)]), (38, [(0, 1), (1, 1)]), (40, [(0, 1), (1, 1)]), (53, [(0, 2), (2, 2), (4, 1)]), (68, [(0, 2), (2, 2), (4, 1)]), (78, [(0, 1), (1, 10), (11, 1), (12, 1)]), (85, [(0, 1), (1, 1)]), (87, [(0, 2), (2, 2)]), (103, [(0, 1), (1, 1), (2, 1), (3, 1)]), (104, [(0, 1), (1, 1), (2, 1), (3, 1), (4, 1), (5, 1)]), (136, [(0, 1)]), (138, [(0, 1), (1, 1)]), (146, [(0, 1), (1, 1)]), (148, [(0, 2), (2, 2)]), (150, [(0, 1), (1, 4), (5, 4), (9, 2), (11, 2)]), (155, [(0, 2), (2, 2)]), (181, [(0, 2), (2, 2)]), (214, [(0, 2), (2, 1)]), (223, [(0, 2), (2, 2), (4, 1), (5, 1)]), (225, [(0, 1), (1, 1), (2, 1)]), (227, [(0, 2), (2, 2), (4, 3), (7, 3)]), (230, [(0, 1), (1, 1), (2, 1), (3, 1)]), (246, [(0, 2), (2, 2)]), (250, [(0, 1), (1, 1)])]
theorem vB {α β : Type} {g h : α → β} : ∀ l : List α, l.map g = l.map h → k1 (fun p => g p = h p) l
 | [], _ => trivial
 | a :: l, e => by
  rw [kQ, kQ, List.cons.injEq] at e;exact ⟨e.1, vB l e.2⟩
theorem JQ {α β γ : Type} {k : α → List γ} {g h : α → γ → β} : ∀ l : List α, (l.map fun p => (k p).map (g p)) = (l.map fun p => (k p).map (h p)) → k1 (fun p => k1 (fun q => g p q = h p q) (k p)) l
 | [], _ => trivial
 | a :: l, e => by
  rw [kQ, kQ, List.cons.injEq] at e;exact ⟨vB _ e.1, JQ l e.2⟩
theorem afD : k1 (fun p => j8 ag p.1 = some p.2) tab.ty := vB _ (by kernel_rfl)
theorem afE : k1 (fun p => zeroOf ag p.1 = some p.2) tab.zero := vB _ (by kernel_rfl)
theorem afA : k1 (fun p => AV ag p.1 = some p.2) tab.mD := vB _ (by kernel_rfl)
theorem afC : k1 (fun p => C7 ag p.1 = some p.2) tab.iv := vB _ (by kernel_rfl)
theorem afB : k1 (fun p => k1 (fun q => sM ag p.1 q.1 = some q.2) p.2) tab.nx := JQ _ (by kernel_rfl)
instance : Ei ag tab := ⟨afD, afE, afB, afA, afC⟩
end Go.Proofs.YtbcecodakfejaaaGreat
namespace Go.Proofs.YtbcecodakfejaaaGreat
open Go.RowKit
section
variable {P : Program} {s : az} {ops : Array Oper} {K : az → Prop} {rest : List Oper} {ty : Nat} {pos : String} {after : Array Edge} {guard : Option (Nat × Bool)} {d : Nat}
theorem T8 {cV : Nat} {x : Operand} {k : IntKind} {a c : Int} (hw : want ops ⟨some d, .unOp .neg cV x, ty, pos, after, guard⟩ s = some true) (aa : s.look x = some (aM (.int k a))) (aj : k.wrap (-a) = c) (hd : Nat.blt d s.n = true) (h : a7 P ops K rest (s.put (some d) (aM (.int k c)))) : a7 P ops K (⟨some d, .unOp .neg cV x, ty, pos, after, guard⟩ :: rest) s := by
 refine JO hw aa (fun W => ?_) rfl hd h;rw [← aj, show -a = 0 - a by omega];cases k <;> rfl
end
abbrev iX (l1 l2 h1 h2 : Int) : ah := .w (.agg [.c (.int .i64 l1), .c (.int .i64 l2), .c (.int .i64 h1), .c (.int .i64 h2)])
def dI (a b c d : Int) : Bool := decide (a = c) && decide (b = d)
theorem pd {a b c d : Int} : dI a b c d = true ↔ a = c ∧ b = d := by unfold dI; rw [dx, ca, ca]
def um (a b c d a' bK c' d' : Int) : Bool := dI a b a' bK && dI c d c' d'
class Ar (P : Program) (t : TypeId) : Prop where
 g : P.eqGuardType P.depth t = false
 h : ∀ (a b c d : Int) W, (Op.equalIn 10000 t (.agg #[.int .i64 a, .int .i64 b]) (.agg #[.int .i64 c, .int .i64 d])).run P W = .ok (dI a b c d) W
class IW (P : Program) (t : TypeId) : Prop where
 g : P.eqGuardType P.depth t = false
 h : ∀ (a b c d a' bK c' d' : Int) W, (Op.equalIn 10000 t (.agg #[.int .i64 a, .int .i64 b, .int .i64 c, .int .i64 d]) (.agg #[.int .i64 a', .int .i64 bK, .int .i64 c', .int .i64 d'])).run P W = .ok (um a b c d a' bK c' d') W
theorem Bk {P : Program} {op : BinOp} {t : TypeId} {x y : Operand} {u v : Array Value} {W : World} (ao : P.eqGuardType P.depth t = false) : (eqGuard op t x y (.agg u) (.agg v)).run P W = .ok () W := by
 unfold eqGuard;cases op <;> first | rfl | simp [Sem.run_bind, program, Sem.run, Result.andThen, ao]
section
variable {P : Program} {s : az} {ops : Array Oper} {K : az → Prop} {rest : List Oper} {ty : Nat} {pos : String} {after : Array Edge} {guard : Option (Nat × Bool)} {d : Nat}
theorem TG {t dK : Nat} {x y : Operand} {a b a' bK : Int} [E : Ar P t] (hw : want ops ⟨some d, .binOp .eql t x y dK, ty, pos, after, guard⟩ s = some true) (aa : s.look x = some (aP a b)) (ai : s.look y = some (aP a' bK)) (hd : Nat.blt d s.n = true) (h : a7 P ops K rest (s.put (some d) (bf (dI a b a' bK)))) : a7 P ops K (⟨some d, .binOp .eql t x y dK, ty, pos, after, guard⟩ :: rest) s :=
 ue hw aa ai rfl rfl (fun W => Bk E.g) (fun W => by rw [run_eql_struct, E.h]; rfl) rfl hd h
theorem Ua {t dK : Nat} {x y : Operand} {a b a' bK : Int} [E : Ar P t] (hw : want ops ⟨some d, .binOp .neq t x y dK, ty, pos, after, guard⟩ s = some true) (aa : s.look x = some (aP a b)) (ai : s.look y = some (aP a' bK)) (hd : Nat.blt d s.n = true) (h : a7 P ops K rest (s.put (some d) (bf (!dI a b a' bK)))) : a7 P ops K (⟨some d, .binOp .neq t x y dK, ty, pos, after, guard⟩ :: rest) s :=
 ue hw aa ai rfl rfl (fun W => Bk E.g) (fun W => by rw [run_neq_struct, E.h]; rfl) rfl hd h
theorem TF {t dK : Nat} {x y : Operand} {a b c e a' bK c' bm : Int} [E : IW P t] (hw : want ops ⟨some d, .binOp .eql t x y dK, ty, pos, after, guard⟩ s = some true) (aa : s.look x = some (iX a b c e)) (ai : s.look y = some (iX a' bK c' bm)) (hd : Nat.blt d s.n = true) (h : a7 P ops K rest (s.put (some d) (bf (um a b c e a' bK c' bm)))) : a7 P ops K (⟨some d, .binOp .eql t x y dK, ty, pos, after, guard⟩ :: rest) s :=
 ue hw aa ai rfl rfl (fun W => Bk E.g) (fun W => by rw [run_eql_struct, E.h]; rfl) rfl hd h
end
theorem V5 (a b c d : Int) (W : World) : (Op.equalIn 10000 36 (.agg #[.int .i64 a, .int .i64 b]) (.agg #[.int .i64 c, .int .i64 d])).run ag W = .ok (dI a b c d) W := by
 unfold dI
 go_simp
 by_cases h1 : a = c <;> by_cases h2 : b = d <;> simp [h1, h2]
instance ahN : Ar ag 36 := ⟨by kernel_rfl, V5⟩
theorem V4 (a b c d : Int) (W : World) : (Op.equalIn 10000 38 (.agg #[.int .i64 a, .int .i64 b]) (.agg #[.int .i64 c, .int .i64 d])).run ag W = .ok (dI a b c d) W := by
 unfold dI
 go_simp
 by_cases h1 : a = c <;> by_cases h2 : b = d <;> simp [h1, h2]
instance ahO : Ar ag 38 := ⟨by kernel_rfl, V4⟩
def sL (n : Int) : Bool := decide (-536870912 ≤ n) && decide (n ≤ 536870912)
theorem Lo {n : Int} : sL n = true ↔ -536870912 ≤ n ∧ n ≤ 536870912 := by unfold sL; rw [dx, ca, ca]
def dZ (x y : Int) : Bool := sL x && sL y
theorem Qq {x y : Int} : dZ x y = true ↔ (-536870912 ≤ x ∧ x ≤ 536870912) ∧ -536870912 ≤ y ∧ y ≤ 536870912 := by unfold dZ; rw [dx, Lo, Lo]
theorem Pl {n : Int} {b : Bool} (ab : sL n = b) : aC ag 189 [aB n] (bf b) := by
 have cs : (-536870912 ≤ n ∧ n ≤ 536870912 ∧ b = true) ∨ (-536870912 ≤ n ∧ ¬ n ≤ 536870912 ∧ b = false) ∨ (¬ -536870912 ≤ n ∧ b = false) := by
  rw [← ab]; unfold sL
  by_cases h1 : -536870912 ≤ n <;> by_cases h2 : n ≤ 536870912 <;> simp [h1, h2]
 clear ab;rcases cs with ⟨h1, h2, rfl⟩ | ⟨h1, h2, rfl⟩ | ⟨h1, rfl⟩
 all_goals
  refine bi (f := 189) Tryz.func189 rfl rfl rfl rfl ?_;(repeat first | refine ec ?_ | (with_reducible apply cc (c := true)); rfl; rfl; (exact ck (by omega)) | (with_reducible apply cc (c := false)); rfl; rfl; (exact cC (by omega)))
  ((refine ba rfl (a6 rfl aK) ?_))
  first | exact ah.aQ.refl _ | exact ah.aQ.of_eq (by rw [ck h2]; rfl) | exact ah.aQ.of_eq (by rw [cC h2]; rfl)
theorem rZ {x y : Int} {b : Bool} (ab : dZ x y = b) : aC ag 164 [aP x y] (bf b) := by
 have aU := Pl (n := x) rfl;have bD := Pl (n := y) rfl;unfold dZ at ab;cases q1 : sL x <;> cases q2 : sL y <;> rw [q1] at aU <;> rw [q2] at bD <;> rw [q1, q2] at ab <;> subst ab <;> clear q1 q2
 all_goals
  refine bi (f := 164) Tryz.func164 rfl rfl rfl rfl ?_;(refine bZ ?_)
  ((refine ba rfl (a6 rfl aK) ?_))
  exact ah.aQ.refl _
def bV (o1 o2 a1 a2 b1 b2 : Int) : Int := (a1 - o1) * (b2 - o2) - (a2 - o2) * (b1 - o1)
theorem Hr {x y A B : Int} (h1 : -A ≤ x) (h2 : x ≤ A) (h3 : -B ≤ y) (aE : y ≤ B) : -(A * B) ≤ x * y ∧ x * y ≤ A * B := by
 have aa : x.natAbs ≤ A.natAbs := by omega
 have ai : y.natAbs ≤ B.natAbs := by omega
 have h := Nat.mul_le_mul aa ai;rw [← Int.natAbs_mul, ← Int.natAbs_mul] at h;have dR : 0 ≤ A * B := fD (by omega) (by omega);omega
theorem Oi {x y : Int} (h1 : -1073741824 ≤ x) (h2 : x ≤ 1073741824) (h3 : -1073741824 ≤ y) (aE : y ≤ 1073741824) : -1152921504606846976 ≤ x * y ∧ x * y ≤ 1152921504606846976 := by
 have := Hr h1 h2 h3 aE;omega
theorem Pe {o1 o2 a1 a2 b1 b2 : Int} (ay : dZ o1 o2 = true) (aH : dZ a1 a2 = true) (ab : dZ b1 b2 = true) : aC ag 146 [aP o1 o2, aP a1 a2, aP b1 b2] (aB (bV o1 o2 a1 a2 b1 b2)) := by
 have bg := rZ ay;have fo := rZ aH;have ky := rZ ab;rw [Qq] at ay aH ab;have m1 := Oi (x := a1 - o1) (y := b2 - o2) (by omega) (by omega) (by omega) (by omega);have m2 := Oi (x := a2 - o2) (y := b1 - o1) (by omega) (by omega) (by omega) (by omega);refine bi (f := 146) Tryz.func146 rfl rfl rfl rfl ?_;(refine bZ ?_)
 ((refine ba rfl (a6 rfl aK) ?_))
 exact ah.aQ.refl _
theorem abO {o1 o2 a1 a2 b1 b2 : Int} (h : (dZ o1 o2 && dZ a1 a2 && dZ b1 b2) = false) : aC ag 146 [aP o1 o2, aP a1 a2, aP b1 b2] (aB 0) := by
 have bg := rZ (x := o1) (y := o2) rfl;have fo := rZ (x := a1) (y := a2) rfl;have ky := rZ (x := b1) (y := b2) rfl
 have cs : dZ o1 o2 = false ∨ (dZ o1 o2 = true ∧ dZ a1 a2 = false) ∨ (dZ o1 o2 = true ∧ dZ a1 a2 = true ∧ dZ b1 b2 = false) := by
  generalize dZ o1 o2 = p at *;generalize dZ a1 a2 = q at *;generalize dZ b1 b2 = r at *;cases p <;> cases q <;> cases r <;> simp_all
 clear h;rcases cs with h1 | ⟨h1, h2⟩ | ⟨h1, h2, h3⟩ <;> simp only [*] at bg fo ky
 all_goals
  refine bi (f := 146) Tryz.func146 rfl rfl rfl rfl ?_;(refine bZ ?_)
  ((refine ba rfl (a6 rfl aK) ?_))
  exact ah.aQ.refl _
def ri (o1 o2 a1 a2 b1 b2 : Int) : Int := if (dZ o1 o2 && dZ a1 a2 && dZ b1 b2) = true then bV o1 o2 a1 a2 b1 b2 else 0
theorem abN {o1 o2 a1 a2 b1 b2 : Int} : aC ag 146 [aP o1 o2, aP a1 a2, aP b1 b2] (aB (ri o1 o2 a1 a2 b1 b2)) := by
 unfold ri
 by_cases h : (dZ o1 o2 && dZ a1 a2 && dZ b1 b2) = true
 ·rw [if_pos h];simp only [dx] at h;exact Pe h.1.1 h.1.2 h.2
 ·rw [if_neg h];exact abO (by simpa using h)
def qR (n : Int) : Int := if n < 0 then -1 else if 0 < n then 1 else 0
theorem ach {o1 o2 a1 a2 b1 b2 : Int} : aC ag 192 [aP o1 o2, aP a1 a2, aP b1 b2] (aB (qR (ri o1 o2 a1 a2 b1 b2))) := by
 have aU := abN (o1 := o1) (o2 := o2) (a1 := a1) (a2 := a2) (b1 := b1) (b2 := b2);generalize ri o1 o2 a1 a2 b1 b2 = c at *;have cs : (c < 0 ∧ qR c = -1) ∨ (¬ c < 0 ∧ 0 < c ∧ qR c = 1) ∨ (¬ c < 0 ∧ ¬ 0 < c ∧ qR c = 0) := by unfold qR; repeat' split <;> omega
 rcases cs with ⟨h1, h⟩ | ⟨h1, h2, h⟩ | ⟨h1, h2, h⟩ <;> rw [h] <;> clear h
 all_goals
  refine bi (f := 192) Tryz.func192 rfl rfl rfl rfl ?_;(refine bZ ?_)
  ((refine ba rfl (a6 rfl aK) ?_))
  exact ah.aQ.refl _
abbrev gz (a b : Int) : Int := if b < a then b else a
abbrev gy (a b : Int) : Int := if b > a then b else a
theorem abK {a1 a2 b1 b2 : Int} : aC ag 191 [aP a1 a2, aP b1 b2] (iX (gz a1 b1) (gz a2 b2) (gy a1 b1) (gy a2 b2)) := by
 refine bi (f := 191) Tryz.func191 rfl rfl rfl rfl ?_;(refine fl ?_)
 ((refine ba rfl (cL rfl rfl rfl aK) ?_))
 exact ah.aQ.refl _
def eG (l1 l2 h1 h2 p1 p2 : Int) : Bool := decide (l1 ≤ p1) && decide (p1 ≤ h1) && decide (l2 ≤ p2) && decide (p2 ≤ h2)
theorem WS {l1 l2 h1 h2 p1 p2 : Int} : eG l1 l2 h1 h2 p1 p2 = true ↔ l1 ≤ p1 ∧ p1 ≤ h1 ∧ l2 ≤ p2 ∧ p2 ≤ h2 := by unfold eG; simp only [dx, ca, and_assoc]
theorem abX {l1 l2 h1 h2 p1 p2 : Int} {b : Bool} (ab : eG l1 l2 h1 h2 p1 p2 = b) : aC ag 190 [iX l1 l2 h1 h2, aP p1 p2] (bf b) := by
 have cs : (l1 ≤ p1 ∧ p1 ≤ h1 ∧ l2 ≤ p2 ∧ p2 ≤ h2 ∧ b = true) ∨ (l1 ≤ p1 ∧ p1 ≤ h1 ∧ l2 ≤ p2 ∧ ¬ p2 ≤ h2 ∧ b = false) ∨ (l1 ≤ p1 ∧ p1 ≤ h1 ∧ ¬ l2 ≤ p2 ∧ b = false) ∨ (l1 ≤ p1 ∧ ¬ p1 ≤ h1 ∧ b = false) ∨ (¬ l1 ≤ p1 ∧ b = false) := by
  rw [← ab]; unfold eG
  by_cases q1 : l1 ≤ p1 <;> by_cases q2 : p1 ≤ h1 <;> by_cases bE : l2 ≤ p2 <;> by_cases c4 : p2 ≤ h2 <;> simp [q1, q2, bE, c4]
 clear ab;rcases cs with ⟨q1, q2, bE, c4, rfl⟩ | ⟨q1, q2, bE, c4, rfl⟩ | ⟨q1, q2, bE, rfl⟩ | ⟨q1, q2, rfl⟩ | ⟨q1, rfl⟩
 all_goals
  refine bi (f := 190) Tryz.func190 rfl rfl rfl rfl ?_;(repeat first | refine ec ?_ | (with_reducible apply cc (c := true)); rfl; rfl; (exact ck (by omega)) | (with_reducible apply cc (c := false)); rfl; rfl; (exact cC (by omega)))
  ((refine ba rfl (a6 rfl aK) ?_))
  first | exact ah.aQ.refl _ | exact ah.aQ.of_eq (by rw [ck c4]; rfl) | exact ah.aQ.of_eq (by rw [cC c4]; rfl)
def CU (p1 p2 a1 a2 b1 b2 : Int) : Bool := dZ p1 p2 && dZ a1 a2 && dZ b1 b2 && eG (gz a1 b1) (gz a2 b2) (gy a1 b1) (gy a2 b2) p1 p2 && decide (bV a1 a2 b1 b2 p1 p2 = 0)
theorem aeX {n : Int} : qR n = 0 ↔ n = 0 := by unfold qR; repeat' split <;> omega
theorem ab7 {p1 p2 a1 a2 b1 b2 : Int} {b : Bool} (ab : CU p1 p2 a1 a2 b1 b2 = b) : aC ag 165 [aP p1 p2, aP a1 a2, aP b1 b2] (bf b) := by
 have bg := rZ (x := p1) (y := p2) rfl;have fo := rZ (x := a1) (y := a2) rfl;have ky := rZ (x := b1) (y := b2) rfl;have H1 := abK (a1 := a1) (a2 := a2) (b1 := b1) (b2 := b2);have cQ := abX (l1 := gz a1 b1) (l2 := gz a2 b2) (h1 := gy a1 b1) (h2 := gy a2 b2) (p1 := p1) (p2 := p2) rfl;have sv := ach (o1 := a1) (o2 := a2) (a1 := b1) (a2 := b2) (b1 := p1) (b2 := p2);unfold CU at ab
 have cs : (dZ p1 p2 = false ∧ b = false) ∨ (dZ p1 p2 = true ∧ dZ a1 a2 = false ∧ b = false) ∨ (dZ p1 p2 = true ∧ dZ a1 a2 = true ∧ dZ b1 b2 = false ∧ b = false)
   ∨ (dZ p1 p2 = true ∧ dZ a1 a2 = true ∧ dZ b1 b2 = true ∧ eG (gz a1 b1) (gz a2 b2) (gy a1 b1) (gy a2 b2) p1 p2 = false ∧ b = false)
   ∨ (dZ p1 p2 = true ∧ dZ a1 a2 = true ∧ dZ b1 b2 = true ∧ eG (gz a1 b1) (gz a2 b2) (gy a1 b1) (gy a2 b2) p1 p2 = true ∧ b = decide (qR (ri a1 a2 b1 b2 p1 p2) = 0)) := by
  have e : decide (qR (ri a1 a2 b1 b2 p1 p2) = 0) = decide (ri a1 a2 b1 b2 p1 p2 = 0) := by rw [lN, ca, ca, aeX]
  rw [e];unfold ri;generalize bV a1 a2 b1 b2 p1 p2 = c at *;generalize dZ p1 p2 = b8 at *;generalize dZ a1 a2 = cp at *;generalize dZ b1 b2 = jM at *;generalize eG _ _ _ _ p1 p2 = oQ at *;cases b8 <;> cases cp <;> cases jM <;> cases oQ <;> simp_all
 clear ab;generalize eG _ _ _ _ p1 p2 = oQ at *;generalize gz a1 b1 = i1 at *;generalize gz a2 b2 = i2 at *;generalize gy a1 b1 = i3 at *;generalize gy a2 b2 = i4 at *;generalize qR (ri a1 a2 b1 b2 p1 p2) = t at *;rcases cs with ⟨h1, rfl⟩ | ⟨h1, h2, rfl⟩ | ⟨h1, h2, h3, rfl⟩ | ⟨h1, h2, h3, rfl, rfl⟩ | ⟨h1, h2, h3, rfl, rfl⟩ <;> simp only [*] at bg fo ky
 all_goals
  refine bi (f := 165) Tryz.func165 rfl rfl rfl rfl ?_;(refine bZ ?_)
  ((refine ba rfl (a6 rfl aK) ?_))
  exact ah.aQ.refl _
end Go.Proofs.YtbcecodakfejaaaGreat
