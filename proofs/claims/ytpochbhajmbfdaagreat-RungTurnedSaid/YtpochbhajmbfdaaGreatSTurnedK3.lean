/-
  My own texts, without what this claim does not need. My own text.
-/
import Derived.Tactics
import Derived.IntWalk
import Derived.Test.YtpochbhajmbfdaaGreatProg
import Derived.ProofKit
import Derived.Laws.StructEq
import Derived.Test.YtpochbhajmbfdaaGreatSTurnedK2
set_option maxRecDepth 100000
set_option maxHeartbeats 64000000
set_option linter.unusedVariables false
set_option linter.unusedSimpArgs false
set_option linter.unusedSectionVars false
open Go.Proofs.Tryz renaming prog → aj
namespace Go.Proofs.YtpochbhajmbfdaaGreat
open Go.RowKit
abbrev aU (v : Value) : ai := .w (.one (.c v))
abbrev aR (n : Int) : ai := aU (.int .i64 n)
abbrev bG (b : Bool) : ai := aU (.bool b)
abbrev nl (k off : Nat) : ai := .w (.one (.own k off))
def kI (P : Program) (ty : TypeId) : Option (Bool × Nat) :=
 match P.underlying ty, P.info? ty with
 | some (.struct _), some i | some (.array _ _), some i => some (true, i.size)
 | some _, some i => some (false, i.size)
 | _, _ => none
class gn (P : Program) (ty : TypeId) (agg : outParam Bool) (n : outParam Nat) : Prop where
 h : kI P ty = some (agg, n)
def zeroOf (P : Program) (ty : TypeId) : Option (List Value) := ((P.info? ty).bind (·.zero)).map fun z => z.cells.toList
class Cz (P : Program) (ty : TypeId) (vs : outParam (List Value)) : Prop where
 h : zeroOf P ty = some vs
def ug (P : Program) (ty : TypeId) (i : Nat) : Option Nat :=
 match P.underlying ty with
 | some (.struct fs) => (fs[i]?).bind fun f => (P.info? f.type).bind fun t => if t.size = 0 then none else some f.offset
 | _ => none
class nm (P : Program) (ty : TypeId) (i : Nat) (off : outParam Nat) : Prop where
 h : ug P ty i = some off
def CI (P : Program) (ty : TypeId) : Option (Nat × Nat) :=
 match P.underlying ty with
 | some (.array n e) => (P.info? e).map fun t => (n, t.size)
 | _ => none
class KF (P : Program) (ty : TypeId) (n size : outParam Nat) : Prop where
 h : CI P ty = some (n, size)
def tx (P : Program) (ty : TypeId) : Option Nat :=
 match P.underlying ty with
 | some (.slice e) => (P.info? e).map fun t => t.size
 | _ => none
class iI (P : Program) (ty : TypeId) (size : outParam Nat) : Prop where
 h : tx P ty = some size
def Fb (P : Program) (ty : TypeId) : Option (List (Nat × Nat)) :=
 match P.underlying ty with
 | some (.struct fs) => fs.toList.mapM fun f => (P.info? f.type).map fun t => (f.offset, t.size)
 | some (.array n e) => bif Nat.ble n 32 then (P.info? e).map fun t => (List.range n).map fun i => (i * t.size, t.size) else none
 | _ => none
class K1 (P : Program) (ty : TypeId) (ps : outParam (List (Nat × Nat))) : Prop where
 h : Fb P ty = some ps
class Ge (P : Program) (ty : TypeId) (k : outParam IntKind) : Prop where
 h : P.underlying ty = some (.int k)
class Enters (P : Program) (f : FuncId) : Prop where
 h : enters P f = true
def takeN : List AC → Nat → Nat → Option (List AC)
 | _, 0, 0 => some []
 | [], _, _ => none
 | c :: cs, 0, n + 1 => match takeN cs 0 n with
  | some r => some (c :: r)
  | none => none
 | _ :: cs, off + 1, n => takeN cs off n
def px : List AC → Nat → List AC → Option (List AC)
 | cs, 0, [] => some cs
 | [], _, _ => none
 | _ :: cs, 0, d :: ds => match px cs 0 ds with
  | some r => some (d :: r)
  | none => none
 | c :: cs, off + 1, ds => match px cs off ds with
  | some r => some (c :: r)
  | none => none
theorem FO : ∀ (cs : List AC) (off n : Nat) (r : List AC), takeN cs off n = some r → off + n ≤ cs.length ∧ (cs.drop off).take n = r
 | cs, 0, 0, r, h => by
  cases cs <;> (simp only [takeN, gE] at h; subst h; simp)
 | [], 0, n + 1, r, h => by simp [takeN] at h
 | [], off + 1, n, r, h => by cases n <;> simp [takeN] at h
 | c :: cs, 0, n + 1, r, h => by
  simp only [takeN] at h
  split at h
  ·rename_i ba al;cases h;have := FO cs 0 n ba al;simp at this ⊢;exact this
  ·cases h
 | c :: cs, off + 1, n, r, h => by
  have ar : takeN cs off n = some r := by cases n <;> simpa [takeN] using h
  have := FO cs off n r ar;exact ⟨by have := this.1; simp; omega, by simpa using this.2⟩
theorem Bf : ∀ (cs : List AC) (off : Nat) (ds : List AC) (r : List AC), px cs off ds = some r → off + ds.length ≤ cs.length ∧ eO cs off ds = r
 | cs, 0, [], r, h => by
  cases cs <;> (simp only [px, gE] at h; subst h; simp [eO])
 | [], 0, d :: ds, r, h => by simp [px] at h
 | [], off + 1, ds, r, h => by cases ds <;> simp [px] at h
 | c :: cs, 0, d :: ds, r, h => by
  simp only [px] at h
  split at h
  ·rename_i ba al;cases h;have := Bf cs 0 ds ba al;simp [eO] at this ⊢;exact this
  ·cases h
 | c :: cs, off + 1, ds, r, h => by
  simp only [px] at h
  split at h
  ·rename_i ba al;cases h;have := Bf cs off ds ba al;simp [eO, Nat.add_right_comm] at this ⊢;exact this
  ·cases h
section
variable {P : Program} {s s' : aE} {o : Oper} {ops : Array Oper} {rest : List Oper} {K : aE → Prop}
theorem aA (h : K s) : bj P ops K [] s := h
theorem iJ {ik : List (Nat × Nat)} (hs : ik.all (mG s) = true) (h : K s) : bj P ops (fun s => ik.all (mG s) = true ∧ K s) [] s := ⟨hs, h⟩
theorem q5 {e : cu} (hw : want ops o s = some true) (he : e6 P s.n s.look s.mem o true e) (hd : ∀ d, o.dst = some d → d < s.n) (h : bj P ops K rest (e.on o.dst s)) : bj P ops K (o :: rest) s := ⟨true, hw, e, he, hd, h⟩
section
variable {d ty : Nat} {op : Op} {pos : String} {after : Array Edge} {guard : Option (Nat × Bool)}
theorem lj {d : Nat} (hd : Nat.blt d s.n = true) : ∀ d', some d = some d' → d' < s.n := fun d' e => by cases e; simpa [Nat.blt_eq] using hd
theorem LH {dst : Option Nat} (hw : want ops ⟨dst, op, ty, pos, after, guard⟩ s = some false) (hd : ∀ d, dst = some d → Nat.blt d s.n = true) (h : bj P ops K rest (s.put dst (.dd []))) : bj P ops K (⟨dst, op, ty, pos, after, guard⟩ :: rest) s :=
 ⟨false, hw, _, .skip, fun d e => by have := hd d e; simpa [Nat.blt_eq] using this, h⟩
theorem gp {av : ai} (hw : want ops ⟨some d, op, ty, pos, after, guard⟩ s = some true) (an : xd P s.look ⟨some d, op, ty, pos, after, guard⟩ av) (hd : Nat.blt d s.n = true) (h : bj P ops K rest (s.put (some d) av)) : bj P ops K (⟨some d, op, ty, pos, after, guard⟩ :: rest) s :=
 q5 hw (.quiet av an) (lj hd) h
theorem U3 {x : Operand} {av : ai} (hw : want ops ⟨some d, .move x, ty, pos, after, guard⟩ s = some true) (aa : s.look x = some av) (hd : Nat.blt d s.n = true) (h : bj P ops K rest (s.put (some d) av)) : bj P ops K (⟨some d, .move x, ty, pos, after, guard⟩ :: rest) s := by
 refine gp hw ⟨fun _ _ h => (by cases h), fun y ag => ?_, fun U ad W env he => ⟨env x, rfl, he x (by simp [Op.operands]) av aa⟩, fun j af => ⟨x, by simp [Op.operands], av, aa, af⟩⟩ hd h;simp [Op.operands] at ag;subst ag;exact ⟨av, aa⟩
theorem UE {x : Operand} {av : ai} (hw : want ops ⟨some d, .assign x, ty, pos, after, guard⟩ s = some true) (aa : s.look x = some av) (hd : Nat.blt d s.n = true) (h : bj P ops K rest (s.put (some d) av)) : bj P ops K (⟨some d, .assign x, ty, pos, after, guard⟩ :: rest) s := by
 refine gp hw ⟨fun _ _ h => (by cases h), fun y ag => ?_, fun U ad W env he => ⟨env x, rfl, he x (by simp [Op.operands]) av aa⟩, fun j af => ⟨x, by simp [Op.operands], av, aa, af⟩⟩ hd h;simp [Op.operands] at ag;subst ag;exact ⟨av, aa⟩
theorem UO {x : Operand} {i : Nat} {xs : List bK} {y : bK} (hw : want ops ⟨some d, .extract x i, ty, pos, after, guard⟩ s = some true) (aa : s.look x = some (.dd xs)) (hi : xs[i]? = some y) (hd : Nat.blt d s.n = true) (h : bj P ops K rest (s.put (some d) (.w y))) : bj P ops K (⟨some d, .extract x i, ty, pos, after, guard⟩ :: rest) s := by
 refine gp (av := .w y) hw ⟨fun _ _ h => (by cases h), fun y ag => ?_, fun U ad W env he => ?_, fun j af => ⟨x, by simp [Op.operands], _, aa, ⟨y, dL hi, af⟩⟩⟩ hd h
 ·simp [Op.operands] at ag;subst ag;exact ⟨_, aa⟩
 ·obtain ⟨vs, e, ap, hv⟩ := he x (by simp [Op.operands]) _ aa;have bh : i < vs.length := by rw [← ap]; exact (bP.1 hi).1
  refine ⟨vs[i], ?_, hv i y _ hi (cj bh)⟩;simp only [execOp, Instr.extract, e];simp [bh]
theorem UR {x : Operand} {qN i k off iw : Nat} [F : nm P qN i iw] (hw : want ops ⟨some d, .fieldAddr qN x i, ty, pos, after, guard⟩ s = some true) (aa : s.look x = some (nl k off)) (hd : Nat.blt d s.n = true) (h : bj P ops K rest (s.put (some d) (nl k (off + iw)))) : bj P ops K (⟨some d, .fieldAddr qN x i, ty, pos, after, guard⟩ :: rest) s := by
 refine gp hw ⟨fun _ _ h => (by cases h), fun y ag => ?_, fun U ad W env he => ?_, fun j af => ⟨x, by simp [Op.operands], _, aa, ?_⟩⟩ hd h
 ·simp [Op.operands] at ag;subst ag;exact ⟨_, aa⟩
 ·have hp : env x = .pointer (some ⟨ad k, off, none⟩) := he x (by simp [Op.operands]) _ aa;have hF := F.h;unfold ug at hF
  split at hF
  ·rename_i fs hu;cases aw : fs[i]? with
   | none => rw [aw] at hF; cases hF
   | some f =>
    rw [aw] at hF;simp only [kE] at hF;cases hi : P.info? f.type with
    | none => rw [hi] at hF; cases hF
    | some t =>
     rw [hi] at hF;simp only [kE] at hF
     split at hF
     ·cases hF
     ·rename_i ca;cases hF;refine ⟨.pointer (some ⟨ad k, off + f.offset, none⟩), ?_, rfl⟩;have kT : (⟨ad k, off, none⟩ : Addr).add f.offset = ⟨ad k, off + f.offset, none⟩ := by unfold Addr.add; split <;> simp_all
      simp only [execOp, Instr.fieldAt, hp, Instr.sureAddr, Sem.run_bind, Sem.run_pure, Result.andThen_ok, run_underlying hu, aw, fieldPlace, h5 hi, if_neg ca, kT]
  ·cases hF
 ·obtain ⟨y, ag, mu⟩ := af;exact ⟨.own k off, by simp [bK.cells], by simp [bK.cells] at ag; subst ag; exact mu⟩
theorem UU {x y : Operand} {GI k off n size : Nat} {ho : IntKind} {i : Int} [A : KF P GI n size] (hw : want ops ⟨some d, .indexAddr GI x y, ty, pos, after, guard⟩ s = some true) (aa : s.look x = some (nl k off)) (ag : s.look y = some (aU (.int ho i))) (aJ : 0 ≤ i) (h1 : i < n) (hd : Nat.blt d s.n = true) (h : bj P ops K rest (s.put (some d) (nl k (off + i.toNat * size)))) : bj P ops K (⟨some d, .indexAddr GI x y, ty, pos, after, guard⟩ :: rest) s := by
 refine gp hw ⟨fun _ _ h => (by cases h), fun z a6 => ?_, fun U ad W env he => ?_, fun j af => ⟨x, by simp [Op.operands], _, aa, ?_⟩⟩ hd h
 ·simp [Op.operands] at a6;rcases a6 with rfl | rfl
  ·exact ⟨_, aa⟩
  ·exact ⟨_, ag⟩
 ·have hp : env x = .pointer (some ⟨ad k, off, none⟩) := he x (by simp [Op.operands]) _ aa;have hi : env y = .int ho i := (he y (by simp [Op.operands]) _ ag).1;have ej := A.h;unfold CI at ej
  split at ej
  ·rename_i n' e hu;cases c3 : P.info? e with
   | none => rw [c3] at ej; cases ej
   | some t =>
    rw [c3] at ej;cases ej;refine ⟨.pointer (some ⟨ad k, off + i.toNat * t.size, none⟩), ?_, rfl⟩;have kT : (⟨ad k, off, none⟩ : Addr).add (i.toNat * t.size) = ⟨ad k, off + i.toNat * t.size, none⟩ := by unfold Addr.add; split <;> simp_all
    simp only [execOp, Instr.indexAt, hp, hi, asIntOf, Instr.sureAddr, Sem.run_bind, Sem.run_pure, Result.andThen_ok, run_underlying hu, h5 c3, if_pos (And.intro aJ h1), kT]
  ·cases ej
 ·obtain ⟨y, ag, mu⟩ := af;exact ⟨.own k off, by simp [bK.cells], by simp [bK.cells] at ag; subst ag; exact mu⟩
theorem aha {ty n : Nat} (h : kI P ty = some (false, n)) {cs : List AC} {off : Nat} {y : AC} (ak : cs[off]? = some y) : pick P ty cs off = some (.one y) := by
 unfold kI at h;unfold pick;cases hu : P.underlying ty with
 | none => rw [hu] at h; cases h
 | some D =>
  cases hi : P.info? ty with
  | none => rw [hu, hi] at h; cases D <;> cases h
  | some i =>
   rw [hu, hi] at h;cases D <;> first | (simp only [ak, hy]; done) | (exfalso; cases h)
theorem Su {ty n : Nat} (h : kI P ty = some (true, n)) {cs aZ : List AC} {off : Nat} (ak : takeN cs off n = some aZ) : pick P ty cs off = some (.agg aZ) := by
 obtain ⟨h1, h2⟩ := FO _ _ _ _ ak;unfold kI at h;unfold pick
 split at h
 ·rename_i i hu hi; cases h; simp only [hu, hi, kE, if_pos h1, h2]
 ·rename_i i hu hi; cases h; simp only [hu, hi, kE, if_pos h1, h2]
 ·cases h
 ·cases h
theorem ag9 {ty n : Nat} {b : Bool} (h : kI P ty = some (b, n)) : ∃ i, P.info? ty = some i ∧ i.size = n := by
 unfold kI at h
 split at h
 ·rename_i i hu hi; cases h; exact ⟨i, hi, rfl⟩
 ·rename_i i hu hi; cases h; exact ⟨i, hi, rfl⟩
 ·rename_i i _ _ hu hi; cases h; exact ⟨_, hi, rfl⟩
 ·cases h
theorem UZ {x : Operand} {lt k off n : Nat} {cs : List AC} {y : AC} [T : gn P lt false n] (hw : want ops ⟨some d, .load lt x, ty, pos, after, guard⟩ s = some true) (aa : s.look x = some (nl k off)) (hm : s.mem k = some cs) (ak : cs[off]? = some y) (hd : Nat.blt d s.n = true) (h : bj P ops K rest (s.put (some d) (.w (.one y)))) : bj P ops K (⟨some d, .load lt x, ty, pos, after, guard⟩ :: rest) s :=
 q5 hw (.load lt x k off cs _ rfl aa hm (aha T.h ak)) (lj hd) h
theorem U0 {x : Operand} {lt k off n : Nat} {cs aZ : List AC} [T : gn P lt true n] (hw : want ops ⟨some d, .load lt x, ty, pos, after, guard⟩ s = some true) (aa : s.look x = some (nl k off)) (hm : s.mem k = some cs) (ak : takeN cs off n = some aZ) (hd : Nat.blt d s.n = true) (h : bj P ops K rest (s.put (some d) (.w (.agg aZ)))) : bj P ops K (⟨some d, .load lt x, ty, pos, after, guard⟩ :: rest) s :=
 q5 hw (.load lt x k off cs _ rfl aa hm (Su T.h ak)) (lj hd) h
theorem Vc {x y : Operand} {st k off n : Nat} {b : Bool} {cs ds : List AC} {z : bK} [T : gn P st b n] (hw : want ops ⟨none, .store st x y, ty, pos, after, guard⟩ s = some true) (aa : s.look x = some (nl k off)) (ag : s.look y = some (.w z)) (hm : s.mem k = some cs) (aD : Nat.beq n z.cells.length = true) (hp : px cs off z.cells = some ds) (h : bj P ops K rest (s.ep k ds)) : bj P ops K (⟨none, .store st x y, ty, pos, after, guard⟩ :: rest) s := by
 obtain ⟨i, hi, hs⟩ := ag9 T.h;obtain ⟨h1, h2⟩ := Bf _ _ _ _ hp;refine q5 hw (.store st x y k off cs z i rfl aa ag hm hi (by rw [hs]; exact hP aD) h1) (fun d e => by cases e) ?_;simp only [cu.on, h2];exact h
theorem UC {gq : Nat} {vs : List Value} [Z : Cz P gq vs] (hw : want ops ⟨some d, .alloc gq, ty, pos, after, guard⟩ s = some true) (hm : s.mem d = none) (h1 : (vs.all fun v => v.oneCell') = true) (hd : Nat.blt d s.n = true) (h : bj P ops K rest ((s.ep d (vs.map .c)).put (some d) (nl d 0))) : bj P ops K (⟨some d, .alloc gq, ty, pos, after, guard⟩ :: rest) s := by
 have a6 := Z.h;unfold zeroOf at a6;cases hi : P.info? gq with
 | none => rw [hi] at a6; cases a6
 | some i =>
  rw [hi] at a6;simp only [kE] at a6;cases h0 : i.zero with
  | none => rw [h0] at a6; cases a6
  | some z =>
   rw [h0] at a6;cases a6;exact q5 hw (.new _ d rfl hm (.alloc gq i z _ rfl hi h0 rfl h1)) (lj hd) h
theorem UF {GQ : Nat} {x : Operand} {z : bK} (hw : want ops ⟨some d, .box GQ x, ty, pos, after, guard⟩ s = some true) (aa : s.look x = some (.w z)) (hm : s.mem d = none) (hd : Nat.blt d s.n = true) (h : bj P ops K rest ((s.ep d z.cells).put (some d) (nl d 0))) : bj P ops K (⟨some d, .box GQ x, ty, pos, after, guard⟩ :: rest) s :=
 q5 hw (.new _ d rfl hm (.box GQ x z rfl aa)) (lj hd) h
def xG : List AC → Option (List Value)
 | [] => some []
 | .c v :: xs => match xG xs with
  | some r => some (v :: r)
  | none => none
 | _ :: _ => none
def n6 : bK → Option Value
 | .one (.c v) => some v
 | .one _ => none
 | .agg xs => match xG xs with
  | some r => some (.agg r.toArray)
  | none => none
theorem M1 {U : Nat → Prop} {ad : Nat → Nat} {W : World} : ∀ (xs : List AC) (vs r : List Value), b3 U ad W xs vs → xG xs = some r → vs = r
 | [], vs, r, h, he => by cases he; have := h.1; exact mE this.symm
 | .c v :: xs, vs, r, h, he => by
  simp only [xG] at he
  split at he
  ·rename_i ba al;cases he;cases vs with
   | nil => have := h.1; cases this
   | cons u us =>
    have aJ : u = v := (h.2 0 _ _ rfl rfl).1;have := M1 xs us ba ⟨by have := h.1; simpa using this, fun i x w aa hw => h.2 (i + 1) x w (by simpa using aa) (by simpa using hw)⟩ al;rw [aJ, this]
  ·cases he
 | .own _ _ :: _, _, _, _, he => by cases he
 | .p _ :: _, _, _, _, he => by cases he
theorem Dj {U : Nat → Prop} {ad : Nat → Nat} {W : World} {x : bK} {v u : Value} (h : hh U ad W x v) (he : n6 x = some u) : v = u := by
 cases x with
 | one y => cases y with
  | c w => cases he; exact h.1
  | own => cases he
  | p => cases he
 | agg xs =>
  simp only [n6] at he
  split at he
  ·rename_i r al;cases he;obtain ⟨vs, rfl, ap⟩ := h;rw [M1 xs vs r ap al]
  ·cases he
theorem jq (v : Value) (j : Nat) : ¬ (aU v).owns j := fun ⟨y, ag, h⟩ => by simp [bK.cells] at ag; subst ag; cases h
theorem si {sq : BinOp} {de dY : Nat} {x y : Operand} {a b : bK} {jb fL v : Value} (hw : want ops ⟨some d, .binOp sq de x y dY, ty, pos, after, guard⟩ s = some true) (aa : s.look x = some (.w a)) (ag : s.look y = some (.w b)) (iM : n6 a = some jb) (ml : n6 b = some fL)
  (ax : ∀ W, (eqGuard sq de x y jb fL).run P W = .ok () W) (al : ∀ W, (binOp sq de jb fL).run P W = .ok v W) (h1 : v.oneCell' = true) (hd : Nat.blt d s.n = true) (h : bj P ops K rest (s.put (some d) (aU v))) : bj P ops K (⟨some d, .binOp sq de x y dY, ty, pos, after, guard⟩ :: rest) s := by
 refine gp (av := aU v) hw ⟨fun _ _ h => (by cases h), fun z a6 => ?_, fun U ad W env he => ⟨v, ?_, ⟨rfl, h1⟩⟩, fun j af => absurd af (jq v j)⟩ hd h
 ·simp [Op.operands] at a6;rcases a6 with rfl | rfl
  ·exact ⟨_, aa⟩
  ·exact ⟨_, ag⟩
 ·have aG : env x = jb := Dj (he x (by simp [Op.operands]) _ aa) iM;have aM : env y = fL := Dj (he y (by simp [Op.operands]) _ ag) ml;simp only [execOp, aG, aM, Sem.run_bind, ax, Result.andThen_ok, al, Sem.run_pure]
theorem q4 {sq : BinOp} {de dY : Nat} {x y : Operand} {k : IntKind} {a b : Int} {v : Value} (hw : want ops ⟨some d, .binOp sq de x y dY, ty, pos, after, guard⟩ s = some true) (aa : s.look x = some (aU (.int k a))) (ag : s.look y = some (aU (.int k b)))
  (al : ∀ W, (binOp sq de (.int k a) (.int k b)).run P W = .ok v W) (h1 : v.oneCell' = true) (hd : Nat.blt d s.n = true) (h : bj P ops K rest (s.put (some d) (aU v))) : bj P ops K (⟨some d, .binOp sq de x y dY, ty, pos, after, guard⟩ :: rest) s :=
 si hw aa ag rfl rfl (fun W => by unfold eqGuard; cases sq <;> rfl) al h1 hd h
theorem U1 {de dY : Nat} {x y : Operand} {k : IntKind} {a b : Int} (hw : want ops ⟨some d, .binOp .lss de x y dY, ty, pos, after, guard⟩ s = some true) (aa : s.look x = some (aU (.int k a))) (ag : s.look y = some (aU (.int k b))) (hd : Nat.blt d s.n = true) (h : bj P ops K rest (s.put (some d) (bG (decide (a < b))))) : bj P ops K (⟨some d, .binOp .lss de x y dY, ty, pos, after, guard⟩ :: rest) s :=
 q4 hw aa ag (fun W => by cases k <;> rfl) rfl hd h
theorem UY {de dY : Nat} {x y : Operand} {k : IntKind} {a b : Int} (hw : want ops ⟨some d, .binOp .leq de x y dY, ty, pos, after, guard⟩ s = some true) (aa : s.look x = some (aU (.int k a))) (ag : s.look y = some (aU (.int k b))) (hd : Nat.blt d s.n = true) (h : bj P ops K rest (s.put (some d) (bG (decide (a ≤ b))))) : bj P ops K (⟨some d, .binOp .leq de x y dY, ty, pos, after, guard⟩ :: rest) s :=
 q4 hw aa ag (fun W => by cases k <;> rfl) rfl hd h
theorem UT {de dY : Nat} {x y : Operand} {k : IntKind} {a b : Int} (hw : want ops ⟨some d, .binOp .gtr de x y dY, ty, pos, after, guard⟩ s = some true) (aa : s.look x = some (aU (.int k a))) (ag : s.look y = some (aU (.int k b))) (hd : Nat.blt d s.n = true) (h : bj P ops K rest (s.put (some d) (bG (decide (b < a))))) : bj P ops K (⟨some d, .binOp .gtr de x y dY, ty, pos, after, guard⟩ :: rest) s :=
 q4 hw aa ag (fun W => by cases k <;> rfl) rfl hd h
theorem US {de dY : Nat} {x y : Operand} {k : IntKind} {a b : Int} (hw : want ops ⟨some d, .binOp .geq de x y dY, ty, pos, after, guard⟩ s = some true) (aa : s.look x = some (aU (.int k a))) (ag : s.look y = some (aU (.int k b))) (hd : Nat.blt d s.n = true) (h : bj P ops K rest (s.put (some d) (bG (decide (b ≤ a))))) : bj P ops K (⟨some d, .binOp .geq de x y dY, ty, pos, after, guard⟩ :: rest) s :=
 q4 hw aa ag (fun W => by cases k <;> rfl) rfl hd h
theorem UN {de dY : Nat} {x y : Operand} {k : IntKind} {a b : Int} (hw : want ops ⟨some d, .binOp .eql de x y dY, ty, pos, after, guard⟩ s = some true) (aa : s.look x = some (aU (.int k a))) (ag : s.look y = some (aU (.int k b))) (hd : Nat.blt d s.n = true) (h : bj P ops K rest (s.put (some d) (bG (decide (a = b))))) : bj P ops K (⟨some d, .binOp .eql de x y dY, ty, pos, after, guard⟩ :: rest) s :=
 q4 hw aa ag (fun W => by cases k <;> rfl) rfl hd h
theorem U4 {de dY : Nat} {x y : Operand} {k : IntKind} {a b : Int} (hw : want ops ⟨some d, .binOp .neq de x y dY, ty, pos, after, guard⟩ s = some true) (aa : s.look x = some (aU (.int k a))) (ag : s.look y = some (aU (.int k b))) (hd : Nat.blt d s.n = true) (h : bj P ops K rest (s.put (some d) (bG (!decide (a = b))))) : bj P ops K (⟨some d, .binOp .neq de x y dY, ty, pos, after, guard⟩ :: rest) s :=
 q4 hw aa ag (fun W => by cases k <;> rfl) rfl hd h
theorem fh {de dY : Nat} {x y : Operand} {k : IntKind} {a b c : Int} (hw : want ops ⟨some d, .binOp .add de x y dY, ty, pos, after, guard⟩ s = some true) (aa : s.look x = some (aU (.int k a))) (ag : s.look y = some (aU (.int k b))) (ak : k.wrap (a + b) = c) (hd : Nat.blt d s.n = true) (h : bj P ops K rest (s.put (some d) (aU (.int k c)))) : bj P ops K (⟨some d, .binOp .add de x y dY, ty, pos, after, guard⟩ :: rest) s :=
 q4 hw aa ag (fun W => by rw [← ak]; cases k <;> rfl) rfl hd h
theorem nx {de dY : Nat} {x y : Operand} {k : IntKind} {a b c : Int} (hw : want ops ⟨some d, .binOp .sub de x y dY, ty, pos, after, guard⟩ s = some true) (aa : s.look x = some (aU (.int k a))) (ag : s.look y = some (aU (.int k b))) (ak : k.wrap (a - b) = c) (hd : Nat.blt d s.n = true) (h : bj P ops K rest (s.put (some d) (aU (.int k c)))) : bj P ops K (⟨some d, .binOp .sub de x y dY, ty, pos, after, guard⟩ :: rest) s :=
 q4 hw aa ag (fun W => by rw [← ak]; cases k <;> rfl) rfl hd h
theorem sj {de dY : Nat} {x y : Operand} {k : IntKind} {a b c : Int} (hw : want ops ⟨some d, .binOp .mul de x y dY, ty, pos, after, guard⟩ s = some true) (aa : s.look x = some (aU (.int k a))) (ag : s.look y = some (aU (.int k b))) (ak : k.wrap (a * b) = c) (hd : Nat.blt d s.n = true) (h : bj P ops K rest (s.put (some d) (aU (.int k c)))) : bj P ops K (⟨some d, .binOp .mul de x y dY, ty, pos, after, guard⟩ :: rest) s :=
 q4 hw aa ag (fun W => by rw [← ak]; cases k <;> rfl) rfl hd h
theorem cZ {n : Int} (h : -9223372036854775808 ≤ n ∧ n < 9223372036854775808) : IntKind.i64.wrap n = n := IntWalk.i64_in n (by omega)
theorem U6 {de : Nat} {x : Operand} {b : Bool} (hw : want ops ⟨some d, .unOp .not de x, ty, pos, after, guard⟩ s = some true) (aa : s.look x = some (bG b)) (hd : Nat.blt d s.n = true) (h : bj P ops K rest (s.put (some d) (bG (!b)))) : bj P ops K (⟨some d, .unOp .not de x, ty, pos, after, guard⟩ :: rest) s := by
 refine gp (av := bG (!b)) hw ⟨fun _ _ h => (by cases h), fun z a6 => ?_, fun U ad W env he => ⟨.bool (!b), ?_, ⟨rfl, rfl⟩⟩, fun j af => absurd af (jq _ j)⟩ hd h
 ·simp [Op.operands] at a6; subst a6; exact ⟨_, aa⟩
 ·have aG : env x = .bool b := (he x (by simp [Op.operands]) _ aa).1;simp only [execOp, aG, Sem.run_bind, Op.unary];rfl
theorem Vd {Kw : UnOp} {de : Nat} {x : Operand} {jb v : Value} (hw : want ops ⟨some d, .unOp Kw de x, ty, pos, after, guard⟩ s = some true) (aa : s.look x = some (aU jb)) (al : ∀ W, (Op.unary Kw jb).run P W = .ok v W) (h1 : v.oneCell' = true) (hd : Nat.blt d s.n = true) (h : bj P ops K rest (s.put (some d) (aU v))) : bj P ops K (⟨some d, .unOp Kw de x, ty, pos, after, guard⟩ :: rest) s := by
 refine gp (av := aU v) hw ⟨fun _ _ h => (by cases h), fun z a6 => ?_, fun U ad W env he => ⟨v, ?_, ⟨rfl, h1⟩⟩, fun j af => absurd af (jq v j)⟩ hd h
 ·simp [Op.operands] at a6; subst a6; exact ⟨_, aa⟩
 ·have aG : env x = jb := (he x (by simp [Op.operands]) _ aa).1;simp only [execOp, aG, Sem.run_bind, al, Result.andThen_ok, Sem.run_pure]
theorem UK {src dst : Nat} {x : Operand} {jb v : Value} (hw : want ops ⟨some d, .convert src dst x, ty, pos, after, guard⟩ s = some true) (aa : s.look x = some (aU jb)) (al : ∀ W, (convert src dst jb).run P W = .ok v W) (h1 : v.oneCell' = true) (hd : Nat.blt d s.n = true) (h : bj P ops K rest (s.put (some d) (aU v))) : bj P ops K (⟨some d, .convert src dst x, ty, pos, after, guard⟩ :: rest) s := by
 refine gp (av := aU v) hw ⟨fun _ _ h => (by cases h), fun z a6 => ?_, fun U ad W env he => ⟨v, ?_, ⟨rfl, h1⟩⟩, fun j af => absurd af (jq v j)⟩ hd h
 ·simp [Op.operands] at a6; subst a6; exact ⟨_, aa⟩
 ·have aG : env x = jb := (he x (by simp [Op.operands]) _ aa).1;simp only [execOp, aG, Sem.run_bind, al, Result.andThen_ok, Sem.run_pure]
theorem Gz {src dst n : Nat} {b : Bool} {k k' : IntKind} {x : Operand} {a c : Int} [S : gn P src b n] [I : Ge P dst k'] (hw : want ops ⟨some d, .convert src dst x, ty, pos, after, guard⟩ s = some true) (aa : s.look x = some (aU (.int k a))) (ak : k'.wrap a = c) (hd : Nat.blt d s.n = true) (h : bj P ops K rest (s.put (some d) (aU (.int k' c)))) : bj P ops K (⟨some d, .convert src dst x, ty, pos, after, guard⟩ :: rest) s := by
 refine UK hw aa (fun W => ?_) rfl hd h
 have hs : ∃ D, P.underlying src = some D := by
  have := S.h;unfold kI at this;cases hu : P.underlying src with
  | none => rw [hu] at this; cases this
  | some D => exact ⟨D, rfl⟩
 obtain ⟨D, hs⟩ := hs;unfold convert;simp only [Sem.run_bind, run_underlying hs, run_underlying I.h, Result.andThen_ok];rw [← ak];cases D <;> rfl
theorem U8 {c x y : Operand} {av : ai} (hw : want ops ⟨some d, .pick c x y, ty, pos, after, guard⟩ s = some true) (ak : s.look c = some (bG true)) (aa : s.look x = some av) {bv : ai} (ag : s.look y = some bv) (hd : Nat.blt d s.n = true) (h : bj P ops K rest (s.put (some d) av)) : bj P ops K (⟨some d, .pick c x y, ty, pos, after, guard⟩ :: rest) s := by
 refine gp hw ⟨fun _ _ h => (by cases h), fun z a6 => ?_, fun U ad W env he => ⟨env x, ?_, he x (by simp [Op.operands]) av aa⟩, fun j af => ⟨x, by simp [Op.operands], av, aa, af⟩⟩ hd h
 ·simp [Op.operands] at a6;rcases a6 with rfl | rfl | rfl
  ·exact ⟨_, ak⟩
  ·exact ⟨_, aa⟩
  ·exact ⟨_, ag⟩
 ·have aG : env c = .bool true := (he c (by simp [Op.operands]) _ ak).1;simp [execOp, aG, asBool]
theorem U7 {c x y : Operand} {av : ai} (hw : want ops ⟨some d, .pick c x y, ty, pos, after, guard⟩ s = some true) (ak : s.look c = some (bG false)) (aa : s.look y = some av) {bv : ai} (ag : s.look x = some bv) (hd : Nat.blt d s.n = true) (h : bj P ops K rest (s.put (some d) av)) : bj P ops K (⟨some d, .pick c x y, ty, pos, after, guard⟩ :: rest) s := by
 refine gp hw ⟨fun _ _ h => (by cases h), fun z a6 => ?_, fun U ad W env he => ⟨env y, ?_, he y (by simp [Op.operands]) av aa⟩, fun j af => ⟨y, by simp [Op.operands], av, aa, af⟩⟩ hd h
 ·simp [Op.operands] at a6;rcases a6 with rfl | rfl | rfl
  ·exact ⟨_, ak⟩
  ·exact ⟨_, ag⟩
  ·exact ⟨_, aa⟩
 ·have aG : env c = .bool false := (he c (by simp [Op.operands]) _ ak).1;simp [execOp, aG, asBool]
theorem xl {f : FuncId} {g : Operand} {aS : Array TypeId} {l : List Operand} {args : List ai} {r : ai} [E : Enters P f] (hw : want ops ⟨some d, .call ⟨.value g, l.toArray, aS⟩, ty, pos, after, guard⟩ s = some true) (ax : s.look g = some (aU (.func (.func f) #[] #[]))) (aI : l.map s.look = args.map some) (hp : aY P f args r) (hd : Nat.blt d s.n = true) (h : bj P ops K rest (s.put (some d) r)) :
  bj P ops K (⟨some d, .call ⟨.value g, l.toArray, aS⟩, ty, pos, after, guard⟩ :: rest) s :=
 q5 hw (.call f args r ⟨⟨_, g, rfl, rfl, .inl ⟨[], ax, by simpa using aI, rfl⟩⟩, E.h⟩ hp) (lj hd) h
theorem UI {f : FuncId} {g : Operand} {aS : Array TypeId} {l : List Operand} {bs : List Value} {args : List ai} {r : ai} [E : Enters P f] (hw : want ops ⟨some d, .call ⟨.value g, l.toArray, aS⟩, ty, pos, after, guard⟩ s = some true) (ax : s.look g = some (aU (.func (.func f) bs.toArray #[]))) (ab : bs.all CO = true) (aI : l.map s.look = args.map some) (hp : aY P f (bs.map yp ++ args) r) (hd : Nat.blt d s.n = true) (h : bj P ops K rest (s.put (some d) r)) :
  bj P ops K (⟨some d, .call ⟨.value g, l.toArray, aS⟩, ty, pos, after, guard⟩ :: rest) s :=
 q5 hw (.call f _ r ⟨⟨_, g, rfl, rfl, .inl ⟨bs, ax, by rw [List.toList_toArray, aI, List.map_append, List.map_map]; rfl, ab⟩⟩, E.h⟩ hp) (lj hd) h
theorem LD {f : FuncId} {g : Operand} {aS : Array TypeId} {l : List Operand} {cs : List AC} {args : List ai} {r : ai} [E : Enters P f] (hw : want ops ⟨some d, .call ⟨.value g, l.toArray, aS⟩, ty, pos, after, guard⟩ s = some true) (ax : s.look g = some (.w (.one (.p (pK (.func f) cs))))) (aI : l.map s.look = args.map some) (hp : aY P f (args ++ cs.map fun x => .w (.one x)) r) (hd : Nat.blt d s.n = true) (h : bj P ops K rest (s.put (some d) r)) :
  bj P ops K (⟨some d, .call ⟨.value g, l.toArray, aS⟩, ty, pos, after, guard⟩ :: rest) s :=
 q5 hw (.call f _ r ⟨⟨_, g, rfl, rfl, .inr ⟨cs, ax, by rw [List.toList_toArray, aI, List.map_append, List.map_map]; rfl⟩⟩, E.h⟩ hp) (lj hd) h
theorem zf {fn : Fn} {x : Operand} {a : bK} {jb : Value} (hw : want ops ⟨some d, .makeFunc fn #[x] #[], ty, pos, after, guard⟩ s = some true) (aa : s.look x = some (.w a)) (iM : n6 a = some jb) (hd : Nat.blt d s.n = true) (h : bj P ops K rest (s.put (some d) (aU (.func fn #[jb] #[])))) : bj P ops K (⟨some d, .makeFunc fn #[x] #[], ty, pos, after, guard⟩ :: rest) s := by
 refine gp (av := aU (.func fn #[jb] #[])) hw ⟨fun _ _ h => (by cases h), fun z a6 => ?_, fun U ad W env he => ⟨.func fn #[jb] #[], ?_, ⟨rfl, rfl⟩⟩, fun j af => absurd af (jq _ j)⟩ hd h
 ·simp [Op.operands] at a6; subst a6; exact ⟨_, aa⟩
 ·have aG : env x = jb := Dj (he x (by simp [Op.operands]) _ aa) iM;have em : (#[x] : Array Operand).map env = #[jb] := by simp [aG]
  simp only [execOp, em, Array.map_empty, Instr.makeFunc, Sem.run_bind, Sem.run_pure, Result.andThen_ok]
theorem CF {f : FuncId} {g : Operand} {aS : Array TypeId} {r : ai} [E : Enters P f] (hw : want ops ⟨some d, .call ⟨.value g, #[], aS⟩, ty, pos, after, guard⟩ s = some true) (ax : s.look g = some (aU (.func (.func f) #[] #[]))) (hp : aY P f [] r) (hd : Nat.blt d s.n = true) (h : bj P ops K rest (s.put (some d) r)) : bj P ops K (⟨some d, .call ⟨.value g, #[], aS⟩, ty, pos, after, guard⟩ :: rest) s :=
 xl (l := []) hw ax rfl hp hd h
theorem e2 {f : FuncId} {g : Operand} {aS : Array TypeId} {c0 : Operand} {a1 : ai} {r : ai} [E : Enters P f] (hw : want ops ⟨some d, .call ⟨.value g, #[c0], aS⟩, ty, pos, after, guard⟩ s = some true) (ax : s.look g = some (aU (.func (.func f) #[] #[]))) (h1 : s.look c0 = some a1) (hp : aY P f [a1] r) (hd : Nat.blt d s.n = true) (h : bj P ops K rest (s.put (some d) r)) : bj P ops K (⟨some d, .call ⟨.value g, #[c0], aS⟩, ty, pos, after, guard⟩ :: rest) s :=
 xl (l := [c0]) hw ax (by simp [h1]) hp hd h
theorem dP {f : FuncId} {g : Operand} {aS : Array TypeId} {c0 dm : Operand} {a1 a2 : ai} {r : ai} [E : Enters P f] (hw : want ops ⟨some d, .call ⟨.value g, #[c0, dm], aS⟩, ty, pos, after, guard⟩ s = some true) (ax : s.look g = some (aU (.func (.func f) #[] #[]))) (h1 : s.look c0 = some a1) (h2 : s.look dm = some a2) (hp : aY P f [a1, a2] r) (hd : Nat.blt d s.n = true) (h : bj P ops K rest (s.put (some d) r)) : bj P ops K (⟨some d, .call ⟨.value g, #[c0, dm], aS⟩, ty, pos, after, guard⟩ :: rest) s :=
 xl (l := [c0, dm]) hw ax (by simp [h1, h2]) hp hd h
theorem kt {f : FuncId} {g : Operand} {aS : Array TypeId} {c0 dm la : Operand} {a1 a2 a3 : ai} {r : ai} [E : Enters P f] (hw : want ops ⟨some d, .call ⟨.value g, #[c0, dm, la], aS⟩, ty, pos, after, guard⟩ s = some true) (ax : s.look g = some (aU (.func (.func f) #[] #[]))) (h1 : s.look c0 = some a1) (h2 : s.look dm = some a2) (ao : s.look la = some a3) (hp : aY P f [a1, a2, a3] r) (hd : Nat.blt d s.n = true) (h : bj P ops K rest (s.put (some d) r)) : bj P ops K (⟨some d, .call ⟨.value g, #[c0, dm, la], aS⟩, ty, pos, after, guard⟩ :: rest) s :=
 xl (l := [c0, dm, la]) hw ax (by simp [h1, h2, ao]) hp hd h
theorem n2 {f : FuncId} {g : Operand} {aS : Array TypeId} {c0 dm la nQ : Operand} {a1 a2 a3 a4 : ai} {r : ai} [E : Enters P f] (hw : want ops ⟨some d, .call ⟨.value g, #[c0, dm, la, nQ], aS⟩, ty, pos, after, guard⟩ s = some true) (ax : s.look g = some (aU (.func (.func f) #[] #[]))) (h1 : s.look c0 = some a1) (h2 : s.look dm = some a2) (ao : s.look la = some a3) (aH : s.look nQ = some a4) (hp : aY P f [a1, a2, a3, a4] r) (hd : Nat.blt d s.n = true) (h : bj P ops K rest (s.put (some d) r)) : bj P ops K (⟨some d, .call ⟨.value g, #[c0, dm, la, nQ], aS⟩, ty, pos, after, guard⟩ :: rest) s :=
 xl (l := [c0, dm, la, nQ]) hw ax (by simp [h1, h2, ao, aH]) hp hd h
theorem UH {f : FuncId} {g : Operand} {aS : Array TypeId} {c0 dm la nQ F1 : Operand} {a1 a2 a3 a4 a5 : ai} {r : ai} [E : Enters P f] (hw : want ops ⟨some d, .call ⟨.value g, #[c0, dm, la, nQ, F1], aS⟩, ty, pos, after, guard⟩ s = some true) (ax : s.look g = some (aU (.func (.func f) #[] #[]))) (h1 : s.look c0 = some a1) (h2 : s.look dm = some a2) (ao : s.look la = some a3) (aH : s.look nQ = some a4) (cM : s.look F1 = some a5) (hp : aY P f [a1, a2, a3, a4, a5] r) (hd : Nat.blt d s.n = true) (h : bj P ops K rest (s.put (some d) r)) : bj P ops K (⟨some d, .call ⟨.value g, #[c0, dm, la, nQ, F1], aS⟩, ty, pos, after, guard⟩ :: rest) s :=
 xl (l := [c0, dm, la, nQ, F1]) hw ax (by simp [h1, h2, ao, aH, cM]) hp hd h
def q7 (ps : List (Nat × Nat)) : List AC → List (Nat × bK) → Option (List AC)
 | cs, [] => some cs
 | cs, (i, z) :: rest => match ps[i]? with
  | some (off, size) => bif Nat.beq size z.cells.length then match px cs off z.cells with
    | some r => q7 ps r rest
    | none => none
   else none
  | none => none
def nG (look : Operand → Option ai) : List (Nat × Operand) → Option (List (Nat × bK))
 | [] => some []
 | (i, x) :: rest => match look x, nG look rest with
  | some (.w z), some r => some ((i, z) :: r)
  | _, _ => none
theorem Nb (off : Nat) : ∀ (zs : List Value) (k : Nat) (ny : Array Value), off + k + zs.length ≤ ny.size → ((zs.zipIdx k).foldl (fun cs (c, j) => cs.setIfInBounds (off + j) c) ny).toList = ny.toList.take (off + k) ++ zs ++ ny.toList.drop (off + k + zs.length)
 | [], k, ny, _ => by simp
 | z :: zs, k, ny, h => by
  simp only [List.zipIdx_cons, List.foldl_cons];rw [Nb off zs (k + 1) _ (by simp at h ⊢; omega)];have e := list_seg_step ny.toList (off + k) z zs (by simp at h ⊢; omega);simpa [Array.toList_setIfInBounds, Nat.add_assoc] using e
theorem zK {U : Nat → Prop} {ad : Nat → Nat} {W : World} {ps : List (Nat × Nat)} {place : Nat → Option (Nat × Nat)} (hp : ∀ i q, ps[i]? = some q → place i = some q) {look : Operand → Option ai} {env : Operand → Value} : ∀ (parts : List (Nat × Operand)) (cs : List AC) (vs : List Value) (zs : List (Nat × bK)) (r : List AC), b3 U ad W cs vs → nG look parts = some zs → (∀ p ∈ parts, ∀ a, look p.2 = some a → dn U ad W a (env p.2)) → q7 ps cs zs = some r →
  ∃ us : List Value, Instr.fill place vs.toArray (parts.map fun p => (p.1, env p.2)) = some us.toArray ∧ b3 U ad W r us
 | [], cs, vs, zs, r, ap, a6, _, ab => by cases a6; cases ab; exact ⟨vs, rfl, ap⟩
 | (i, x) :: parts, cs, vs, zs, r, ap, a6, he, ab => by
  simp only [nG] at a6
  split at a6
  ·rename_i z BR aa al;cases a6;simp only [q7] at ab
   split at ab
   ·rename_i off size x4;cases xT : Nat.beq size z.cells.length with
    | false => rw [xT] at ab; cases ab
    | true =>
     rw [xT] at ab;simp only [cond_true] at ab
     split at ab
     ·rename_i au Iu;have a6 : hh U ad W z (env x) := he (i, x) (by simp) _ aa;have o9 := a6.cells;obtain ⟨q1, q2⟩ := Bf _ _ _ _ Iu;have hs := hP xT;have Ab : (env x).cells.size = z.cells.length := by have := o9.1; simp at this; exact this.symm
      have NZ := ap.1;have ms := ap.eO o9 off q1;rw [q2] at ms;obtain ⟨us, g1, g2⟩ := zK hp parts au _ BR r ms al (fun p mW => he p (by simp [mW])) ab;refine ⟨us, ?_, g2⟩;simp only [k5, Instr.fill, hp i _ x4];rw [if_neg (by simp [Ab, hs]; omega)];rw [← g1];congr 1;apply Array.ext';have := Nb off (env x).cells.toList 0 vs.toArray (by simp [Ab]; omega);rw [← Array.foldl_toList, Array.toList_zipIdx];simpa using this
     ·cases ab
   ·cases ab
  ·cases a6
theorem Jd {look : Operand → Option ai} : ∀ (parts : List (Nat × Operand)) (zs : List (Nat × bK)), nG look parts = some zs → ∀ p ∈ parts, ∃ z, look p.2 = some (.w z) ∧ (p.1, z) ∈ zs
 | [], _, _, p, hp => by cases hp
 | (i, x) :: parts, zs, h, p, hp => by
  simp only [nG] at h
  split at h
  ·rename_i z BR aa al;cases h;rcases gS.1 hp with rfl | hp
   ·exact ⟨z, aa, by simp⟩
   ·obtain ⟨ahv, h1, h2⟩ := Jd parts BR al p hp;exact ⟨ahv, h1, by simp [h2]⟩
  ·cases h
theorem Pq {look : Operand → Option ai} : ∀ (parts : List (Nat × Operand)) (zs : List (Nat × bK)), nG look parts = some zs → ∀ q ∈ zs, ∃ p ∈ parts, look p.2 = some (.w q.2)
 | [], _, h, q, an => by cases h; cases an
 | (i, x) :: parts, zs, h, q, an => by
  simp only [nG] at h
  split at h
  ·rename_i z BR aa al;cases h;rcases gS.1 an with rfl | an
   ·exact ⟨(i, x), by simp, aa⟩
   ·obtain ⟨p, h1, h2⟩ := Pq parts BR al q an;exact ⟨p, by simp [h1], h2⟩
  ·cases h
theorem ae0 {cs ds r : List AC} {off : Nat} (h : px cs off ds = some r) : ∀ x ∈ r, x ∈ cs ∨ x ∈ ds := by
 obtain ⟨_, rfl⟩ := Bf _ _ _ _ h;intro x aa;unfold eO at aa;simp only [kD] at aa;rcases aa with (h1 | h1) | h1
 ·exact .inl (py h1)
 ·exact .inr h1
 ·exact .inl (nN h1)
theorem L2 {ps : List (Nat × Nat)} : ∀ (zs : List (Nat × bK)) (cs r : List AC), q7 ps cs zs = some r → ∀ x ∈ r, x ∈ cs ∨ ∃ q ∈ zs, x ∈ q.2.cells
 | [], cs, r, h, x, aa => by cases h; exact .inl aa
 | (i, z) :: zs, cs, r, h, x, aa => by
  simp only [q7] at h
  split at h
  ·rename_i off size x4;cases xT : Nat.beq size z.cells.length with
   | false => rw [xT] at h; cases h
   | true =>
    rw [xT] at h;simp only [cond_true] at h
    split at h
    ·rename_i au Iu;rcases L2 zs au r h x aa with h1 | ⟨q, h1, h2⟩
     ·rcases ae0 Iu x h1 with h2 | h2
      ·exact .inl h2
      ·exact .inr ⟨(i, z), by simp, h2⟩
     ·exact .inr ⟨q, by simp [h1], h2⟩
    ·cases h
  ·cases h
theorem RX {α β : Type} {f : α → Sem β} {W : World} : ∀ (l : List α) (vs : List β), l.length = vs.length → (∀ (i : Nat) x v, l[i]? = some x → vs[i]? = some v → (f x).run P W = .ok v W) → (l.mapM f).run P W = .ok vs W
 | [], [], _, _ => rfl
 | [], _ :: _, h, _ => by cases h
 | _ :: _, [], h, _ => by cases h
 | x :: l, v :: vs, ap, h => by
  have aJ := h 0 x v rfl rfl;have bW := RX l vs (by simpa using ap) (fun i x v aa hv => h (i + 1) x v (by simpa using aa) (by simpa using hv));rw [List.mapM_cons];simp only [Sem.run_bind, aJ, Result.andThen_ok, bW];rfl
theorem Pz {α β : Type} {f : α → Option β} : ∀ (l : List α) (vs : List β), l.mapM f = some vs → l.length = vs.length ∧ ∀ (i : Nat) x v, l[i]? = some x → vs[i]? = some v → f x = some v
 | [], vs, h => by cases h; exact ⟨rfl, fun i x v aa => by simp at aa⟩
 | a :: l, vs, h => by
  rw [List.mapM_cons] at h;cases aI : f a with
  | none => rw [aI] at h; cases h
  | some b =>
   rw [aI] at h;cases ap : l.mapM f with
   | none => rw [ap] at h; cases h
   | some bs =>
    rw [ap] at h;cases h;obtain ⟨h1, h2⟩ := Pz l bs ap;refine ⟨by simp [h1], fun i x v aa hv => ?_⟩;cases i with
    | zero => simp at aa hv; subst aa; subst hv; exact aI
    | succ i => exact h2 i x v (by simpa using aa) (by simpa using hv)
theorem UG {t : Nat} {parts : List (Nat × Operand)} {vs : List Value} {ps : List (Nat × Nat)} {zs : List (Nat × bK)} {r : List AC} [Z : Cz P t vs] [L : K1 P t ps] (hw : want ops ⟨some d, .build t parts.toArray, ty, pos, after, guard⟩ s = some true) (a6 : nG s.look parts = some zs) (ab : q7 ps (vs.map .c) zs = some r) (h1 : (vs.all fun v => v.oneCell') = true) (hd : Nat.blt d s.n = true) (h : bj P ops K rest (s.put (some d) (.w (.agg r)))) : bj P ops K (⟨some d, .build t parts.toArray, ty, pos, after, guard⟩ :: rest) s := by
 refine gp (av := .w (.agg r)) hw ⟨fun _ _ h => (by cases h), fun z AD => ?_, fun U ad W env he => ?_, fun j af => ?_⟩ hd h
 ·simp only [Op.operands, List.mem_toArray, iW] at AD;obtain ⟨p, hp, rfl⟩ := AD;obtain ⟨z, h1, _⟩ := Jd parts zs a6 p hp;exact ⟨_, h1⟩
 ·have dR := Z.h;have gY := L.h;unfold zeroOf at dR;unfold Fb at gY;cases hi : P.info? t with
  | none => rw [hi] at dR; cases dR
  | some i =>
   rw [hi] at dR;simp only [kE] at dR;cases h0 : i.zero with
   | none => rw [h0] at dR; cases dR
   | some z =>
    rw [h0] at dR;cases dR
    split at gY
    ·rename_i fs hu;obtain ⟨m1, m2⟩ := Pz _ _ gY;have sV : (zeroValue t).run P W = .ok z W := by simp [zeroValue, typeInfo, program, Sem.run_bind, Sem.run, hi, Result.andThen, h0]
     have o6 : (fs.mapM fun f => (do pure (f.offset, ← sizeOf f.type) : Sem (Nat × Nat))).run P W = .ok ps.toArray W := by
      rw [Array.mapM_eq_mapM_toList]
      have := RX (P := P) (W := W) (f := fun f : Field => (do pure (f.offset, ← sizeOf f.type) : Sem (Nat × Nat))) fs.toList ps m1 (fun j x v aa hv => by
       have := m2 j x v aa hv;cases Ia : P.info? x.type with
       | none => rw [Ia] at this; cases this
       | some eP =>
        rw [Ia] at this;cases this;simp only [Sem.run_bind, h5 Ia, Result.andThen_ok, Sem.run_pure])
      simp only [map_eq_pure_bind, Sem.run_bind, this, Result.andThen_ok, Sem.run_pure]
     have j8 : b3 U ad W (z.cells.toList.map .c) z.cells.toList := ⟨by simp, fun j x v aa hv => by
      rw [eG, hv] at aa;cases aa;exact ⟨rfl, cB.1 h1 v (dL hv)⟩⟩
     obtain ⟨us, g1, g2⟩ := zK (U := U) (ad := ad) (W := W) (ps := ps) (place := fun i => ps.toArray[i]?) (fun i q h => by simpa using h) (look := s.look) (env := env) parts _ _ zs r j8 a6 (fun p hp a aI => he p.2 (by simp only [Op.operands, List.mem_toArray, iW]; exact ⟨p, hp, rfl⟩) a aI) ab;refine ⟨.agg us.toArray, ?_, us, rfl, g2⟩;have uC : (parts.toArray.map fun (i, x) => (i, env x)).toList = parts.map fun p => (p.1, env p.2) := by simp
     have uG : z.cells.toList.toArray = z.cells := by simp
     rw [uG] at g1;simp only [execOp, Instr.build, Sem.run_bind, sV, Result.andThen_ok, run_underlying hu, o6, uC, g1, Sem.run_pure]
    ·rename_i n el hu;have sV : (zeroValue t).run P W = .ok z W := by simp [zeroValue, typeInfo, program, Sem.run_bind, Sem.run, hi, Result.andThen, h0]
     have j8 : b3 U ad W (z.cells.toList.map .c) z.cells.toList := ⟨by simp, fun j x v aa hv => by
      rw [eG, hv] at aa;cases aa;exact ⟨rfl, cB.1 h1 v (dL hv)⟩⟩
     cases aD : Nat.ble n 32 with
     | false => rw [aD] at gY; cases gY
     | true =>
      rw [aD] at gY;simp only [cond_true] at gY;cases H9 : P.info? el with
      | none => rw [H9] at gY; cases gY
      | some eP =>
       rw [H9] at gY;simp only [hy, gE] at gY
       obtain ⟨us, g1, g2⟩ := zK (U := U) (ad := ad) (W := W) (ps := ps) (place := fun i => some (i * eP.size, eP.size)) (fun i q h => by
        rw [← gY, eG] at h;rcases jt i n with bh | ix
        ·rw [cj (by simpa using bh)] at h;simpa using h
        ·rw [rJ (by simpa using ix)] at h;cases h) (look := s.look) (env := env) parts _ _ zs r j8 a6 (fun p hp a aI => he p.2 (by simp only [Op.operands, List.mem_toArray, iW]; exact ⟨p, hp, rfl⟩) a aI) ab
       refine ⟨.agg us.toArray, ?_, us, rfl, g2⟩;have uC : (parts.toArray.map fun (i, x) => (i, env x)).toList = parts.map fun p => (p.1, env p.2) := by simp
       have uG : z.cells.toList.toArray = z.cells := by simp
       rw [uG] at g1;simp only [execOp, Instr.build, Sem.run_bind, sV, Result.andThen_ok, run_underlying hu, h5 H9, uC, g1, Sem.run_pure]
    ·cases gY
 ·obtain ⟨y, ag, mu⟩ := af;rcases L2 zs _ r ab y ag with h2 | ⟨q, h2, ao⟩
  ·obtain ⟨v, _, rfl⟩ := iW.1 h2; cases mu
  ·obtain ⟨p, hp, ap⟩ := Pq parts zs a6 q h2;exact ⟨p.2, by simp only [Op.operands, List.mem_toArray, iW]; exact ⟨p, hp, rfl⟩, _, ap, ⟨y, ao, mu⟩⟩
theorem LC {GO : Builtin} {aS : Array TypeId} {x y : Operand} {jb fL v : Value} (hw : want ops ⟨some d, .call ⟨.builtin GO, #[x, y], aS⟩, ty, pos, after, guard⟩ s = some true) (aa : s.look x = some (aU jb)) (ag : s.look y = some (aU fL)) (al : ∀ cs W, (builtin GO aS ty cs #[jb, fL]).run P W = .ok (.value v) W) (h1 : v.oneCell' = true) (hd : Nat.blt d s.n = true) (h : bj P ops K rest (s.put (some d) (aU v))) : bj P ops K (⟨some d, .call ⟨.builtin GO, #[x, y], aS⟩, ty, pos, after, guard⟩ :: rest) s := by
 refine gp (av := aU v) hw ⟨fun _ _ h => (by cases h), fun z a6 => ?_, fun U ad W env he => ⟨v, ?_, ⟨rfl, h1⟩⟩, fun j af => absurd af (jq v j)⟩ hd h
 ·simp [Op.operands, Call.operands] at a6;rcases a6 with rfl | rfl
  ·exact ⟨_, aa⟩
  ·exact ⟨_, ag⟩
 ·have aG : env x = jb := (he x (by simp [Op.operands, Call.operands]) _ aa).1;have aM : env y = fL := (he y (by simp [Op.operands, Call.operands]) _ ag).1;have em : (#[x, y] : Array Operand).map env = #[jb, fL] := by simp [aG, aM]
  simp only [execOp, resolve, em, Sem.run_bind, Sem.run_pure, Result.andThen_ok, invoke, al]
theorem xn {aS : Array TypeId} {x y : Operand} {k : IntKind} {a b : Int} (hw : want ops ⟨some d, .call ⟨.builtin .min, #[x, y], aS⟩, ty, pos, after, guard⟩ s = some true) (aa : s.look x = some (aU (.int k a))) (ag : s.look y = some (aU (.int k b))) (hd : Nat.blt d s.n = true) (h : bj P ops K rest (s.put (some d) (aU (.int k (if b < a then b else a))))) : bj P ops K (⟨some d, .call ⟨.builtin .min, #[x, y], aS⟩, ty, pos, after, guard⟩ :: rest) s :=
 LC hw aa ag (fun cs W => by go_simp; all_goals (first | rfl | (split <;> omega))) rfl hd h
theorem tN {aS : Array TypeId} {x y : Operand} {k : IntKind} {a b : Int} (hw : want ops ⟨some d, .call ⟨.builtin .max, #[x, y], aS⟩, ty, pos, after, guard⟩ s = some true) (aa : s.look x = some (aU (.int k a))) (ag : s.look y = some (aU (.int k b))) (hd : Nat.blt d s.n = true) (h : bj P ops K rest (s.put (some d) (aU (.int k (if b > a then b else a))))) : bj P ops K (⟨some d, .call ⟨.builtin .max, #[x, y], aS⟩, ty, pos, after, guard⟩ :: rest) s :=
 LC hw aa ag (fun cs W => by go_simp; all_goals (first | rfl | (split <;> omega))) rfl hd h
theorem UJ {t : Nat} {b : Bool} {l : List Oper} (hs : s.tmps t = some (bG b)) (h1 : b = true → bj P ops K l (s.put (some t) (bG true))) (aJ : b = false → bj P ops K l (s.put (some t) (bG false))) : bj P ops K l s := by
 have same : ∀ c, b = c → s.put (some t) (bG c) = s := fun c e => by
  subst e;simp only [aE.put];congr 1;funext j
  by_cases af : j = t
  ·subst af; rw [cw, hs]
  ·rw [cl _ _ af]
 cases b with
 | true => rw [← same true rfl]; exact h1 rfl
 | false => rw [← same false rfl]; exact aJ rfl
end
theorem bf : ([] : List ResultVar).map (iZ P s) = ([] : List bK).map some := rfl
theorem bD {t : Nat} {x : bK} {l : List ResultVar} {xs : List bK} (h : s.tmps t = some (.w x)) (ap : l.map (iZ P s) = xs.map some) : (ResultVar.tmp t :: l).map (iZ P s) = (x :: xs).map some := by
 simp only [k5, ap]; rw [show iZ P s (.tmp t) = some x by simp only [iZ, h]]
theorem fc {a ty k off n : Nat} [T : gn P ty true n] {cs aZ : List AC} {l : List ResultVar} {xs : List bK} (h : s.tmps a = some (nl k off)) (hm : s.mem k = some cs) (ak : takeN cs off n = some aZ) (ap : l.map (iZ P s) = xs.map some) : (ResultVar.cell a ty :: l).map (iZ P s) = (.agg aZ :: xs).map some := by
 simp only [k5, ap]; rw [show iZ P s (.cell a ty) = some (.agg aZ) by simp only [iZ, h, hm, kE, Su T.h ak]]
theorem bY {fn : Func} {l : List ResultVar} {xs : List bK} {r : ai} (al : fn.results = l.toArray) (h : l.map (iZ P s) = xs.map some) (hle : (packed xs).bo r) : zj P fn r .ret s := ⟨xs, by rw [al]; exact h, hle⟩
theorem aeK {f : FuncId} {args : List ai} {r : ai} {k9 : List Value} (he : args.map (fun x => match x with | .w y => n6 y | _ => none) = k9.map some) (jX : ∀ x ∈ args, x.closed) (ct : r.closed)
  (h : ∀ W, Calls P f k9.toArray W fun e bn => ∃ v, e = .returned v ∧ (∀ U, (∀ b, W.heap.size ≤ b → U b) → dn U id bn r v) ∧ Below W.heap.size W bn) : aY P f args r := by
 refine ⟨jX, ct, fun U W vs dX => ?_⟩
 have e : vs = k9 := by
  apply List.ext_getElem?;intro i;have ap := dX.1;have mT : args.length = k9.length := by have := congrArg List.length he; simpa using this
  rcases jt i args.length with hi | hi
  ·have h1 : (args.map (fun x => match x with | .w y => n6 y | _ => none))[i]? = (k9.map some)[i]? := by rw [he]
   rw [eG, eG, cj hi, cj (by omega : i < k9.length)] at h1;simp only [hy, gE] at h1;rw [cj (by omega : i < vs.length), cj (by omega : i < k9.length)];have h2 := dX.2 i args[i] vs[i] (cj hi) (cj (by omega));cases aa : args[i] with
   | w y =>
    rw [aa] at h1 h2;rw [Dj h2 h1]
   | dd xs => rw [aa] at h1; cases h1
  ·rw [rJ (by omega), rJ (by omega)]
 subst e;refine (h W).mono ?_;rintro e bn ⟨v, h1, h2, ao⟩;exact ⟨v, h1, h2 _ fun b ab => .inr ab, ao⟩
def AC.bd : AC → Bool
 | .own _ _ => false
 | _ => true
def bK.bd : bK → Bool
 | .one x => x.bd
 | .agg xs => xs.all AC.bd
def ai.bd : ai → Bool
 | .w x => x.bd
 | .dd xs => xs.all bK.bd
theorem AC.dI {x : AC} (h : x.bd = true) (j : Nat) : ¬ x.owns j := by cases x <;> simp_all [AC.bd, AC.owns]
theorem bK.dI {x : bK} (h : x.bd = true) (j : Nat) : ¬ x.owns j := by
 rintro ⟨y, ag, af⟩;cases x with
 | one z => simp [bK.cells] at ag; subst ag; exact AC.dI h j af
 | agg xs => exact AC.dI (cB.1 h y ag) j af
theorem ai.dI {x : ai} (h : x.bd = true) : x.closed := fun j => by
 cases x with
 | w y => exact bK.dI h j
 | dd xs => rintro ⟨y, ag, af⟩; exact bK.dI (cB.1 h y ag) j af
theorem cq {f : FuncId} {fn : Func} {c : Code} {args : List ai} {r : ai} (aw : P.funcs[f]? = some fn) (ab : fn.body = some c) (aD : Nat.ble args.length fn.ntmps = true) (jX : args.all ai.bd = true) (ct : r.bd = true)
  (h : fN P c (zj P fn r) (start fn.ntmps args)) : aY P f args r :=
 aeL aw ab (by simpa [Nat.ble_eq] using aD) (fun x aa => ai.dI (cB.1 jX x aa)) (ai.dI ct) h
theorem aeJ {f : FuncId} {fn : Func} {c : Code} {args : List ai} {r : ai} (aw : P.funcs[f]? = some fn) (ab : fn.body = some c) (aD : Nat.ble args.length fn.ntmps = true) (jX : args.all ai.bd = true) (ct : r.bd = true)
  (h : tF P c (zj P fn r) (start fn.ntmps args)) : aY P f args r :=
 Q8 aw ab (by simpa [Nat.ble_eq] using aD) (fun x aa => ai.dI (cB.1 jX x aa)) (ai.dI ct) h
theorem aeN {f : FuncId} {args : List ai} {r : ai} (k9 : List Value) (he : args.map (fun x => match x with | .w y => n6 y | _ => none) = k9.map some) (jX : args.all ai.bd = true) (ct : r.bd = true)
  (h : ∀ W, Calls P f k9.toArray W fun e bn => ∃ v, e = .returned v ∧ (∀ U, (∀ b, W.heap.size ≤ b → U b) → dn U id bn r v) ∧ Below W.heap.size W bn) : aY P f args r :=
 aeK he (fun x aa => ai.dI (cB.1 jX x aa)) (ai.dI ct) h
theorem bI {next : aE → Prop} {Q : Exit → aE → Prop} (h : next s) : so next Q .normal s := h
theorem vB {next : aE → Prop} {Q : Exit → aE → Prop} {id : Nat} (h : Q (.exit id) s) : so next Q (.exit id) s := h
theorem fV {next : aE → Prop} {Q : Exit → aE → Prop} (h : Q .ret s) : so next Q .ret s := h
theorem nw {Q : Exit → aE → Prop} {id : Nat} (h : Q .normal s) : xj id Q .normal s := h
theorem mM {Q : Exit → aE → Prop} {id : Nat} (h : Q .ret s) : xj id Q .ret s := h
theorem vy {Q : Exit → aE → Prop} {id : Nat} (h : Q .normal s) : xj id Q (.exit id) s := by simp only [xj, Nat.beq_refl, cond_true]; exact h
theorem dO {dst : Option Nat} {op : Op} {ty : Nat} {pos : String} {after : Array Edge} {g t : Nat} {b LU c : Bool} (hd : (ops[g]?).bind (·.dst) = some t) (hs : s.tmps t = some (bG LU)) (ab : LU = c)
  (h1 : bj P ops K (⟨dst, op, ty, pos, after, some (g, b)⟩ :: rest) (s.put (some t) (bG c))) : bj P ops K (⟨dst, op, ty, pos, after, some (g, b)⟩ :: rest) s := by
 subst ab;exact UJ hs (fun e => by subst e; exact h1) (fun e => by subst e; exact h1)
theorem LP {c : Operand} {t u : Bool} {x y : Code} {Q : Exit → aE → Prop} (ak : s.look c = some (bG t)) (aF : t = u) (h : fN P (bif u then x else y) Q s) : fN P (.cond c x y) Q s := by
 subst aF;cases t with
 | true => exact iK ak h
 | false => exact ib ak h
theorem gO {c : Operand} {t : Bool} {x y : Code} {Q : Exit → aE → Prop} (ak : s.look c = some (bG t)) (aF : t = true) (h : fN P x Q s) : fN P (.cond c x y) Q s := LP ak aF h
theorem ia {c : Operand} {t : Bool} {x y : Code} {Q : Exit → aE → Prop} (ak : s.look c = some (bG t)) (aF : t = false) (h : fN P y Q s) : fN P (.cond c x y) Q s := LP ak aF h
end
abbrev bi (x y : Int) : ai := .w (.agg [.c (.int .i64 x), .c (.int .i64 y)])
def Ho (w : World) : AC → Value → Nat → Prop
 | .p R, x, b => R.lS w x b
 | _, _, _ => False
theorem za (a : Addr) (m j : Nat) : (a.add m).add j = a.add (m + j) := by
 unfold Addr.add
 by_cases h1 : m = 0 <;> by_cases h2 : j = 0 <;> simp [h1, h2, Nat.add_assoc]
theorem block_add (a : Addr) (m : Nat) : (a.add m).block = a.block := by unfold Addr.add; split <;> rfl
structure lb (w : World) (a : Addr) (xs : List AC) (vs : List Value) : Prop where
 lt : a.block < w.heap.size
 oF : b3 (fun _ => True) id w xs vs
 at_ : ∀ (j : Nat) v, vs[j]? = some v → w.cell? (a.add j) = some v
 p5 : ∀ y ∈ xs, y.bd = true
def nz (w : World) (a : Addr) (xs : List AC) (b : Nat) : Prop := a.block = b ∨ ∃ (j : Nat) (y : AC) (v : Value), xs[j]? = some y ∧ w.cell? (a.add j) = some v ∧ Ho w y v b
theorem lb.frame {w w' : World} {a : Addr} {xs : List AC} {vs : List Value} (h : lb w a xs vs) (aw : ∀ b, nz w a xs b → w'.heap[b]? = w.heap[b]?) : lb w' a xs vs ∧ ∀ b, nz w' a xs b → nz w a xs b := by
 have ab : w'.heap[a.block]? = w.heap[a.block]? := aw _ (.inl rfl);have ak : ∀ j, w'.cell? (a.add j) = w.cell? (a.add j) := fun j => World.cell?_of_block (w := w) (by rw [block_add]; exact ab)
 have key : ∀ (j : Nat) (y : AC) (v : Value), xs[j]? = some y → w.cell? (a.add j) = some v → gV (fun _ => True) id w y v → gV (fun _ => True) id w' y v ∧ ∀ b, Ho w' y v b → Ho w y v b := by
  intro j y v ag hv al;cases y with
  | c u => exact ⟨al, fun b h => h⟩
  | own k o => exact ⟨al, fun b h => h⟩
  | p R =>
   have := R.frame w w' v al.1 fun b ab => aw b (.inr ⟨j, _, v, ag, hv, ab⟩);exact ⟨⟨this.1, fun _ _ => trivial⟩, this.2⟩
 refine ⟨⟨?_, ⟨h.oF.1, fun i y v ag hv => (key i y v ag (h.at_ i v hv) (h.oF.2 i y v ag hv)).1⟩, fun j v hv => by rw [ak]; exact h.at_ j v hv, h.p5⟩, ?_⟩
 ·have cM := Array.getElem?_eq_getElem h.lt;exact (k4.1 (ab.trans cM)).1
 ·rintro b (h1 | ⟨j, y, v, ag, hv, gP⟩)
  ·exact .inl h1
  ·rw [ak] at hv;have bh : j < vs.length := by rw [← h.oF.1]; exact (bP.1 ag).1
   have h2 := h.at_ j _ (cj bh);rw [hv] at h2;cases h2;exact .inr ⟨j, y, _, ag, hv, (key j y _ ag hv (h.oF.2 j y _ ag (cj bh))).2 b gP⟩
theorem lb.iT {w : World} {a : Addr} {xs : List AC} {vs : List Value} {b : Nat} (h : lb w a xs vs) (aw : nz w a xs b) : b < w.heap.size := by
 rcases aw with rfl | ⟨j, y, v, ag, hv, gP⟩
 ·exact h.lt
 ·have bh : j < vs.length := by rw [← h.oF.1]; exact (bP.1 ag).1
  have h2 := h.at_ j _ (cj bh);rw [hv] at h2;cases h2;have := h.oF.2 j y _ ag (cj bh);cases y with
  | c u => cases gP
  | own k o => cases gP
  | p R => exact R.iT _ _ _ this.1 gP
theorem lb.sub {w : World} {a : Addr} {xs : List AC} {vs : List Value} (h : lb w a xs vs) (off n : Nat) : lb w (a.add off) ((xs.drop off).take n) ((vs.drop off).take n) := by
 refine ⟨by rw [block_add]; exact h.lt, h.oF.sub off n, fun j v hv => ?_, fun y ag => h.p5 y (nN (py ag))⟩;rw [za]
 have af : j < n := by
  have := (bP.1 hv).1;simp at this; omega
 rw [gl af, gF] at hv;exact h.at_ _ v hv
theorem nz.sub {w : World} {a : Addr} {xs : List AC} {off n b : Nat} (h : nz w (a.add off) ((xs.drop off).take n) b) : nz w a xs b := by
 rcases h with h | ⟨j, y, v, ag, hv, gP⟩
 ·rw [block_add] at h; exact .inl h
 ·rw [za] at hv
  have af : j < n := by
   have := (bP.1 ag).1;simp at this; omega
  rw [gl af, gF] at ag;exact .inr ⟨_, y, v, ag, hv, gP⟩
theorem lb.J9 {w : World} {a : Addr} {xs : List AC} {vs : List Value} {U : Nat → Prop} {ad : Nat → Nat} (h : lb w a xs vs) (dJ : ∀ b, nz w a xs b → U b) : b3 U ad w xs vs := by
 refine ⟨h.oF.1, fun i y v ag hv => ?_⟩;have h1 := h.oF.2 i y v ag hv;have h2 := h.p5 y (dL ag);cases y with
 | c u => exact h1
 | own k o => cases h2
 | p R => exact ⟨h1.1, fun b ab => dJ b (.inr ⟨i, _, v, ag, h.at_ i v hv, ab⟩)⟩
def Gi (xs : List AC) : ff where
 holds w v := ∃ a vs, v = .pointer (some a) ∧ lb w a xs vs
 lS w v b := ∃ a, v = .pointer (some a) ∧ nz w a xs b
 frame w w' v := by
  rintro ⟨a, vs, rfl, h⟩ aw;obtain ⟨h1, h2⟩ := h.frame fun b ab => aw b ⟨a, rfl, ab⟩;exact ⟨⟨a, vs, rfl, h1⟩, fun b ⟨a', e, ab⟩ => by cases e; exact ⟨a, rfl, h2 b ab⟩⟩
 iT w v b := by
  rintro ⟨a, vs, rfl, h⟩ ⟨a', e, ab⟩;cases e;exact h.iT ab
 cell w v := by rintro ⟨a, vs, rfl, h⟩; rfl
def cx (sz n : Nat) (xs : List AC) : ff where
 holds w v := ∃ A c, v = .slice A n c ∧ n ≤ c ∧ xs.length = n * sz ∧ (0 < n → ∃ a vs, A = some a ∧ lb w a xs vs)
 lS w v b := ∃ c a, v = .slice (some a) n c ∧ 0 < n ∧ nz w a xs b
 frame w w' v := by
  rintro ⟨A, c, rfl, ak, ap, h⟩ aw;refine ⟨⟨A, c, rfl, ak, ap, fun aD => ?_⟩, ?_⟩
  ·obtain ⟨a, vs, rfl, ar⟩ := h aD;exact ⟨a, vs, rfl, (ar.frame fun b ab => aw b ⟨c, a, rfl, aD, ab⟩).1⟩
  ·rintro b ⟨c', a', e, aD, ab⟩;cases e;obtain ⟨a, vs, e, ar⟩ := h aD;cases e;exact ⟨c, a', rfl, aD, (ar.frame fun b ab => aw b ⟨c, a', rfl, aD, ab⟩).2 b ab⟩
 iT w v b := by
  rintro ⟨A, c, rfl, ak, ap, h⟩ ⟨c', a', e, aD, ab⟩;cases e;obtain ⟨a, vs, e, ar⟩ := h aD;cases e;exact ar.iT ab
 cell w v := by rintro ⟨A, c, rfl, _⟩; rfl
abbrev cT (sz n : Nat) (xs : List AC) : ai := .w (.one (.p (cx sz n xs)))
abbrev BM (xs : List AC) : ai := .w (.one (.p (Gi xs)))
theorem lY (R : ff) (j : Nat) : ¬ (ai.w (.one (.p R))).owns j := fun ⟨y, ag, h⟩ => by simp [bK.cells] at ag; subst ag; cases h
section
variable {P : Program} {s : aE} {o : Oper} {ops : Array Oper} {K : aE → Prop} {rest : List Oper} {op : Op} {ty : Nat} {pos : String} {after : Array Edge} {guard : Option (Nat × Bool)} {d : Nat}
theorem GB {av : ai} (hw : want ops ⟨some d, op, ty, pos, after, guard⟩ s = some true) (an : w9 P s.look ⟨some d, op, ty, pos, after, guard⟩ av) (hd : Nat.blt d s.n = true) (h : bj P ops K rest (s.put (some d) av)) : bj P ops K (⟨some d, op, ty, pos, after, guard⟩ :: rest) s :=
 q5 (e := ⟨av, none⟩) hw (.fresh av an) (lj hd) h
theorem nj {t sz : Nat} (h : tx P t = some sz) : ∃ e i, P.underlying t = some (.slice e) ∧ P.info? e = some i ∧ i.size = sz := by
 unfold tx at h
 split at h
 ·rename_i e hu;cases hi : P.info? e with
  | none => rw [hi] at h; cases h
  | some i => rw [hi] at h; cases h; exact ⟨e, i, hu, hi, rfl⟩
 ·cases h
theorem kP {t e : Nat} (h : P.underlying t = some (.slice e)) : P.elem t = e := by simp [Program.elem, h]
theorem c6 {t sz agO n : Nat} {xs : List AC} {x : Operand} [S : iI P t agO] (hw : want ops ⟨some d, .call ⟨.builtin .len, #[x], #[t]⟩, ty, pos, after, guard⟩ s = some true) (aa : s.look x = some (cT sz n xs)) (hd : Nat.blt d s.n = true)
  (h : bj P ops K rest (s.put (some d) (aR n))) : bj P ops K (⟨some d, .call ⟨.builtin .len, #[x], #[t]⟩, ty, pos, after, guard⟩ :: rest) s := by
 refine gp (av := aR n) hw ⟨fun _ _ h => (by cases h), fun y ag => ?_, fun U ad W env he => ⟨.int .i64 n, ?_, rfl, rfl⟩, fun j af => absurd af (jq _ j)⟩ hd h
 ·simp [Op.operands, Call.operands] at ag;subst ag;exact ⟨_, aa⟩
 ·obtain ⟨⟨A, c, aG, _⟩, _⟩ := he x (by simp [Op.operands, Call.operands]) _ aa;obtain ⟨e, i, hu, hi, _⟩ := nj S.h;have fk : P.underlying t = some (.slice (P.elem t)) := by rw [kP hu]; exact hu
  have em : (#[x] : Array Operand).map env = #[.slice A n c] := by simp [aG]
  simp only [execOp, resolve, em, Sem.run_bind, Sem.run_pure, Result.andThen_ok, invoke, builtin];rw [run_len_slice W t ty A n c fk];rfl
theorem fi {x y : Operand} {t sz n : Nat} {ho : IntKind} {i : Int} {xs aZ : List AC} [S : iI P t sz] (hw : want ops ⟨some d, .indexAddr t x y, ty, pos, after, guard⟩ s = some true) (aa : s.look x = some (cT sz n xs)) (ag : s.look y = some (aU (.int ho i))) (aJ : 0 ≤ i) (h1 : i < n)
  (he : (xs.drop (i.toNat * sz)).take sz = aZ) (hd : Nat.blt d s.n = true) (h : bj P ops K rest (s.put (some d) (BM aZ))) : bj P ops K (⟨some d, .indexAddr t x y, ty, pos, after, guard⟩ :: rest) s := by
 subst he;refine gp hw ⟨fun _ _ h => (by cases h), fun z a6 => ?_, fun U ad W env he => ?_, fun j af => absurd af (lY _ j)⟩ hd h
 ·simp [Op.operands] at a6;rcases a6 with rfl | rfl
  ·exact ⟨_, aa⟩
  ·exact ⟨_, ag⟩
 ·obtain ⟨⟨A, c, aG, ak, ap, ej⟩, dJ⟩ := he x (by simp [Op.operands]) _ aa;have hi : env y = .int ho i := (he y (by simp [Op.operands]) _ ag).1;obtain ⟨e, eP, hu, c3, hs⟩ := nj S.h;obtain ⟨a, vs, rfl, eL⟩ := ej (by omega);refine ⟨.pointer (some (a.add (i.toNat * sz))), ?_, ⟨_, _, rfl, eL.sub _ _⟩, ?_⟩
  ·simp only [execOp, Instr.indexAt, aG, hi, asIntOf, Sem.run_bind, Sem.run_pure, Result.andThen_ok, run_underlying hu, h5 c3, if_pos (And.intro aJ h1), hs]
  ·rintro b ⟨a', e, ab⟩;cases e;exact dJ b ⟨c, a, aG, by omega, ab.sub⟩
theorem tL {x : Operand} {qN i iw : Nat} {xs : List AC} [F : nm P qN i iw] (hw : want ops ⟨some d, .fieldAddr qN x i, ty, pos, after, guard⟩ s = some true) (aa : s.look x = some (BM xs)) (hd : Nat.blt d s.n = true) (h : bj P ops K rest (s.put (some d) (BM (xs.drop iw)))) : bj P ops K (⟨some d, .fieldAddr qN x i, ty, pos, after, guard⟩ :: rest) s := by
 refine gp hw ⟨fun _ _ h => (by cases h), fun y ag => ?_, fun U ad W env he => ?_, fun j af => absurd af (lY _ j)⟩ hd h
 ·simp [Op.operands] at ag;subst ag;exact ⟨_, aa⟩
 ·obtain ⟨⟨a, vs, aG, eL⟩, dJ⟩ := he x (by simp [Op.operands]) _ aa;have hF := F.h;unfold ug at hF
  split at hF
  ·rename_i fs hu;cases aw : fs[i]? with
   | none => rw [aw] at hF; cases hF
   | some f =>
    rw [aw] at hF;simp only [kE] at hF;cases hi : P.info? f.type with
    | none => rw [hi] at hF; cases hF
    | some t =>
     rw [hi] at hF;simp only [kE] at hF
     split at hF
     ·cases hF
     ·rename_i ca;cases hF;have wm := eL.sub f.offset xs.length;rw [hQ (by simp), hQ (by have := eL.oF.1; simp; omega)] at wm;refine ⟨.pointer (some (a.add f.offset)), ?_, ⟨_, _, rfl, wm⟩, ?_⟩
      ·simp only [execOp, Instr.fieldAt, aG, Instr.sureAddr, Sem.run_bind, Sem.run_pure, Result.andThen_ok, run_underlying hu, aw, fieldPlace, h5 hi, if_neg ca]
      ·rintro b ⟨a', e, ab⟩;cases e;refine dJ b ⟨a, aG, nz.sub (off := f.offset) (n := xs.length) ?_⟩;rw [hQ (by simp)];exact ab
  ·cases hF
theorem mh {x : Operand} {lt n : Nat} {xs : List AC} {y : AC} [T : gn P lt false n] (hw : want ops ⟨some d, .load lt x, ty, pos, after, guard⟩ s = some true) (aa : s.look x = some (BM xs)) (ak : xs[0]? = some y) (cW : y.bd = true) (hd : Nat.blt d s.n = true) (h : bj P ops K rest (s.put (some d) (.w (.one y)))) : bj P ops K (⟨some d, .load lt x, ty, pos, after, guard⟩ :: rest) s := by
 refine gp hw ⟨fun _ _ h => (by cases h), fun y ag => ?_, fun U ad W env he => ?_, fun j af => ?_⟩ hd h
 ·simp [Op.operands] at ag;subst ag;exact ⟨_, aa⟩
 ·obtain ⟨⟨a, vs, aG, eL⟩, dJ⟩ := he x (by simp [Op.operands]) _ aa;have al := eL.J9 (U := U) (ad := ad) fun b ab => dJ b ⟨a, aG, ab⟩;have bh : 0 < vs.length := by rw [← al.1]; exact (bP.1 ak).1
  have hv := cj bh;refine ⟨_, ?_, al.2 0 y _ ak hv⟩;have ee := T.h;have oa : W.cell? a = some vs[0] := eL.at_ 0 _ hv;unfold kI at ee;cases hu : P.underlying lt with
  | none => rw [hu] at ee; cases ee
  | some D =>
   have key : (loadVar lt a).run P W = .ok vs[0] W := by
    refine Kc hu (fun fs e => ?_) (fun m bu e => ?_) oa
    ·subst e;cases hi : P.info? lt with
     | none => simp [hu, hi] at ee
     | some eP => simp [hu, hi] at ee
    ·subst e;cases hi : P.info? lt with
     | none => simp [hu, hi] at ee
     | some eP => simp [hu, hi] at ee
   simp only [execOp, Instr.loadAt, aG, Instr.sureAddr, Sem.run_bind, Sem.run_pure, Result.andThen_ok, key]
 ·exact absurd af (ai.dI (x := .w (.one y)) cW j)
theorem gN {x : Operand} {lt n : Nat} {xs aZ : List AC} [T : gn P lt true n] (hw : want ops ⟨some d, .load lt x, ty, pos, after, guard⟩ s = some true) (aa : s.look x = some (BM xs)) (ak : takeN xs 0 n = some aZ) (cW : (bK.agg aZ).bd = true) (hd : Nat.blt d s.n = true) (h : bj P ops K rest (s.put (some d) (.w (.agg aZ)))) : bj P ops K (⟨some d, .load lt x, ty, pos, after, guard⟩ :: rest) s := by
 refine gp hw ⟨fun _ _ h => (by cases h), fun y ag => ?_, fun U ad W env he => ?_, fun j af => ?_⟩ hd h
 ·simp [Op.operands] at ag;subst ag;exact ⟨_, aa⟩
 ·obtain ⟨⟨a, vs, aG, eL⟩, dJ⟩ := he x (by simp [Op.operands]) _ aa;obtain ⟨q1, q2⟩ := FO _ _ _ _ ak;have wm := eL.sub 0 n;have al := wm.J9 (U := U) (ad := ad) fun b ab => dJ b ⟨a, aG, nz.sub ab⟩;rw [q2] at al;have aI : a.add 0 = a := rfl;refine ⟨.agg ((vs.drop 0).take n).toArray, ?_, _, rfl, al⟩;have ee := T.h;unfold kI at ee;have hlen : ((vs.drop 0).take n).length = n := by have := eL.oF.1; simp; omega
  have oa := wm.at_;rw [aI] at oa;cases hu : P.underlying lt with
  | none => rw [hu] at ee; cases ee
  | some D =>
   cases hi : P.info? lt with
   | none => rw [hu, hi] at ee; cases D <;> cases ee
   | some eP =>
    rw [hu, hi] at ee;have key : ((∃ fs, D = .struct fs) ∨ ∃ n e, D = .array n e) ∧ eP.size = n := by cases D <;> simp at ee <;> simp [ee]
    have := Kb (P := P) (w := W) (A := a) hu key.1 hi (by rw [hlen, key.2]) oa;simp only [execOp, Instr.loadAt, aG, Instr.sureAddr, Sem.run_bind, Sem.run_pure, Result.andThen_ok, this]
 ·exact absurd af (ai.dI (x := .w (.agg aZ)) cW j)
def yG (P : Program) (t : TypeId) : Option (List Value) :=
 match P.underlying t with
 | some (.slice e) => zeroOf P e
 | _ => none
class nX (P : Program) (t : TypeId) (vs : outParam (List Value)) : Prop where
 h : yG P t = some vs
def ir (n sz : Nat) (vs : List Value) : List AC := (List.range (n * sz)).map fun j => .c (vs.toArray[j % vs.length]!)
def yt (n sz : Nat) : List (Nat × Nat) := (List.range n).map fun i => (i * sz, sz)
theorem Ve {w : World} {ts : List AC} {us : List Value} {ty : TypeId} {U : Nat → Prop} {ad : Nat → Nat} (h : b3 U ad w ts us) (cW : ∀ y ∈ ts, y.bd = true) : lb (w.alloc (.cells us.toArray ty)) ⟨w.heap.size, 0, none⟩ ts us := by
 refine ⟨by show w.heap.size < (w.heap.push _).size; simp, ⟨h.1, fun i y v ag hv => ?_⟩, fun j v hv => ?_, cW⟩
 ·refine (h.2 i y v ag hv).map (fun b ab ap => ⟨trivial, Below.heap_alloc _ _ _ ap⟩) fun j af => ?_;exact absurd af (AC.dI (cW y (dL ag)) j)
 ·have kT : (⟨w.heap.size, 0, none⟩ : Addr).add j = ⟨w.heap.size, j, none⟩ := by unfold Addr.add; split <;> simp_all
  rw [kT];have : (w.alloc (.cells us.toArray ty)).heap[w.heap.size]? = some (.cells us.toArray ty (0, 0)) := by show (w.heap.push _)[w.heap.size]? = _; simp
  simp only [World.cell?, this];simpa using hv
theorem Vf {w : World} {ts : List AC} {us : List Value} {ty : TypeId} {U : Nat → Prop} {ad : Nat → Nat} {b : Nat} (h : b3 U ad w ts us) (aw : nz (w.alloc (.cells us.toArray ty)) ⟨w.heap.size, 0, none⟩ ts b) : U b ∨ w.heap.size ≤ b := by
 rcases aw with rfl | ⟨j, y, v, ag, hv, gP⟩
 ·exact .inr (eb _)
 ·have kT : (⟨w.heap.size, 0, none⟩ : Addr).add j = ⟨w.heap.size, j, none⟩ := by unfold Addr.add; split <;> simp_all
  rw [kT] at hv;have : (w.alloc (.cells us.toArray ty)).heap[w.heap.size]? = some (.cells us.toArray ty (0, 0)) := by show (w.heap.push _)[w.heap.size]? = _; simp
  simp only [World.cell?, this] at hv;have cg : us[j]? = some v := by simpa using hv
  have al := h.2 j y v ag cg;cases y with
  | c u => cases gP
  | own k o => cases gP
  | p R =>
   refine .inl (al.2 b ?_);exact (R.frame w _ v al.1 fun bR cV => Below.heap_alloc _ _ _ (R.iT _ _ _ al.1 cV)).2 b gP
theorem lM {t n sz : Nat} {parts : List (Nat × Operand)} {vs : List Value} {zs : List (Nat × bK)} {r : List AC} [S : iI P t sz] [Z : nX P t vs] (hw : want ops ⟨some d, .buildSlice t n parts.toArray, ty, pos, after, guard⟩ s = some true) (a6 : nG s.look parts = some zs) (ab : q7 (yt n sz) (ir n sz vs) zs = some r)
  (h1 : (vs.all fun v => v.oneCell') = true) (hs : Nat.beq vs.length sz = true) (aJ : Nat.blt 0 (n * sz) = true) (h2 : Nat.ble (n * sz) 16777216 = true) (al : Nat.beq r.length (n * sz) = true) (cW : r.all AC.bd = true) (hd : Nat.blt d s.n = true) (h : bj P ops K rest (s.put (some d) (cT sz n r))) : bj P ops K (⟨some d, .buildSlice t n parts.toArray, ty, pos, after, guard⟩ :: rest) s := by
 refine GB (av := cT sz n r) hw ⟨fun z AD => ?_, fun j af => lY _ j af, fun U ad W env he => ?_⟩ hd h
 ·simp only [Op.operands, List.mem_toArray, iW] at AD;obtain ⟨p, hp, rfl⟩ := AD;obtain ⟨z, h1, _⟩ := Jd parts zs a6 p hp;exact ⟨_, h1⟩
 ·obtain ⟨e, i, hu, hi, b4⟩ := nj S.h;have dR := Z.h;unfold yG at dR;rw [hu] at dR;simp only at dR;unfold zeroOf at dR;rw [hi] at dR;simp only [kE] at dR;cases h0 : i.zero with
  | none => rw [h0] at dR; cases dR
  | some z =>
   rw [h0] at dR;cases dR;have hlen : z.cells.toList.length = sz := hP hs;have zO : 0 < n * sz := by simpa [Nat.blt_eq] using aJ
   have xP : n * sz ≤ 16777216 := by simpa [Nat.ble_eq] using h2
   have D6 : r.length = n * sz := hP al;have sG : ∀ y ∈ r, y.bd = true := cB.1 cW;have sV : (zeroValue e).run P W = .ok z W := by simp [zeroValue, typeInfo, program, Sem.run_bind, Sem.run, hi, Result.andThen, h0]
   have j8 : b3 U ad W (ir n sz z.cells.toList) ((List.range (n * sz)).map fun j => z.cells[j % z.cells.size]!) := by
    refine ⟨by simp [ir], fun j x v aa hv => ?_⟩;have af : j < n * sz := by have := (bP.1 hv).1; simpa using this
    simp only [ir, eG, wL af, hy, gE] at aa hv;subst aa; subst hv;have wo : z.cells.size = sz := by simpa using hlen
    have It : 0 < sz := Nat.pos_of_mul_pos_left zO |> fun h => by
     rcases u3 sz with q | q
     ·rw [q] at zO; simp at zO
     ·exact q
    have bh : j % z.cells.size < z.cells.size := Nat.mod_lt _ (by omega);have aM : z.cells.toList.toArray[j % z.cells.toList.length]! = z.cells[j % z.cells.size]! := by simp
    refine ⟨aM.symm, ?_⟩;rw [aM, getElem!_pos z.cells _ bh];exact cB.1 h1 _ (by simp)
   obtain ⟨us, g1, g2⟩ := zK (U := U) (ad := ad) (W := W) (ps := yt n sz) (place := fun i => some (i * sz, sz)) (fun i q an => by
     simp only [yt, eG] at an;cases al : (List.range n)[i]? with
     | none => rw [al] at an; cases an
     | some m =>
      rw [al] at an;cases an;have := bP.1 al;obtain ⟨ao, aH⟩ := this;simp at aH;rw [aH]) (look := s.look) (env := env) parts _ _ zs r j8 a6 (fun p hp a aI => he p.2 (by simp only [Op.operands, List.mem_toArray, iW]; exact ⟨p, hp, rfl⟩) a aI) ab
   refine ⟨.slice (some ⟨W.heap.size, 0, none⟩) n n, W.alloc (.cells us.toArray e), ?_, ⟨⟨some ⟨W.heap.size, 0, none⟩, n, rfl, eb _, D6, fun aD => ⟨_, us, rfl, Ve g2 sG⟩⟩, ?_⟩, (Below.refl _ _).alloc (eb _) _⟩
   ·have uC : (parts.toArray.map fun (i, x) => (i, env x)).toList = parts.map fun p => (p.1, env p.2) := by simp
    have cD : (Array.range (n * sz)).map (fun j => z.cells[j % z.cells.size]!) = ((List.range (n * sz)).map fun j => z.cells[j % z.cells.size]!).toArray := by simp [← List.toArray_range]
    simp only [execOp, Instr.buildSlice, Sem.run_bind, run_underlying hu, Result.andThen_ok, h5 hi, b4];rw [if_neg (by omega), if_neg (by omega)];simp only [Sem.run_bind, Sem.run_pure, sV, Result.andThen_ok, cD, uC, g1, newRow, newObj, Sem.run];rfl
   ·rintro b ⟨c, a, e, aD, ab⟩;cases e;exact Vf g2 ab
end
def kz {α : Type} : List (Nat × α) → Nat → Option α
 | [], _ => none
 | (k, v) :: r, t => bif Nat.beq t k then some v else kz r t
def uO (n : Nat) (aS : List (Nat × ai)) (bw : List (Nat × List AC)) : aE := ⟨n, kz aS, kz bw⟩
def oQ {α : Type} (f : Nat → Option α) : List (Nat × α) → Prop
 | [] => True
 | (k, v) :: r => f k = some v ∧ oQ f r
theorem GG {α : Type} {f : Nat → Option α} : ∀ (l : List (Nat × α)), oQ f l → ∀ t v, kz l t = some v → f t = some v
 | [], _, t, v, h => by cases h
 | (k, u) :: r, aI, t, v, h => by
  simp only [kz] at h;cases ab : Nat.beq t k with
  | true => rw [ab] at h; cases h; rw [hP ab]; exact aI.1
  | false => rw [ab] at h; exact GG r aI.2 t v h
theorem EJ {s : aE} {n : Nat} {aS : List (Nat × ai)} {bw : List (Nat × List AC)} (aD : n = s.n) (aF : oQ s.tmps aS) (hm : oQ s.mem bw) : s.bo (uO n aS bw) :=
 ⟨aD, GG aS aF, GG bw hm⟩
def Ev {α : Type} (bw : List (Nat × α)) (k : Nat) : Bool := bw.any fun p => Nat.beq k p.1
def CA (bw : List (Nat × List AC)) : AC → Bool
 | .own k _ => Ev bw k
 | _ => true
def Vk (bw : List (Nat × List AC)) : ai → Bool
 | .w x => x.cells.all (CA bw)
 | .dd xs => xs.all fun x => x.cells.all (CA bw)
def okB (aS : List (Nat × ai)) (bw : List (Nat × List AC)) : Bool := aS.all (fun p => Vk bw p.2) && bw.all fun p => p.2.all (CA bw)
theorem Pb {α : Type} {k : Nat} : ∀ (bw : List (Nat × α)), Ev bw k = true → ∃ v, kz bw k = some v
 | [], h => by cases h
 | (j, u) :: r, h => by
  simp only [Ev, List.any_cons, rK] at h;simp only [kz];cases ab : Nat.beq k j with
  | true => exact ⟨u, rfl⟩
  | false => rw [ab] at h; exact Pb r (by simpa [Ev] using h)
theorem Jb {α : Type} {k : Nat} {v : α} : ∀ (bw : List (Nat × α)), kz bw k = some v → (k, v) ∈ bw
 | [], h => by cases h
 | (j, u) :: r, h => by
  simp only [kz] at h;cases ab : Nat.beq k j with
  | true => rw [ab] at h; cases h; rw [hP ab]; simp
  | false => rw [ab] at h; exact oA _ (Jb r h)
theorem Gw {bw : List (Nat × List AC)} {x : AC} {j : Nat} (h : CA bw x = true) (af : x.owns j) : ∃ cs, kz bw j = some cs := by
 cases x with
 | c v => cases af
 | p R => cases af
 | own k o => cases af; exact Pb bw h
theorem Jm {n : Nat} {aS : List (Nat × ai)} {bw : List (Nat × List AC)} (h : okB aS bw = true) : (uO n aS bw).cU := by
 unfold okB at h;rw [eh] at h;refine ⟨fun t av j aF af => ?_, fun k cs x j ae aa af => ?_⟩
 ·have h1 := cB.1 h.1 _ (Jb aS aF);cases av with
  | w x =>
   obtain ⟨y, ag, mu⟩ := af;exact Gw (cB.1 h1 y ag) mu
  | dd xs =>
   obtain ⟨z, a6, y, ag, mu⟩ := af;exact Gw (cB.1 (cB.1 h1 z a6) y ag) mu
 ·have h1 := cB.1 h.2 _ (Jb bw ae);exact Gw (cB.1 h1 x aa) af
section
variable {P : Program} {s : aE} {x : Code}
theorem xr {Q : Exit → aE → Prop} (N : Nat) (I : Nat → List (Nat × ai) → List (Nat × List AC) → Prop) (k : Nat) (aS : List (Nat × ai)) (bw : List (Nat × List AC)) (bp : I k aS bw) (aD : N = s.n) (aF : oQ s.tmps aS) (hm : oQ s.mem bw) (ok : okB aS bw = true)
  (round : ∀ k aS bw, I k aS bw → okB aS bw = true → fN P x (so (fun s' => ∃ k' pE pi, k' < k ∧ I k' pE pi ∧ N = s'.n ∧ oQ s'.tmps pE ∧ oQ s'.mem pi ∧ okB pE pi = true) Q) (uO N aS bw)) : fN P (.loop x) Q s := by
 refine LQ (fun k s => ∃ aS bw, I k aS bw ∧ okB aS bw = true ∧ s = uO N aS bw) k (uO N aS bw) (EJ aD aF hm) (Jm ok) ⟨aS, bw, bp, ok, rfl⟩ ?_;rintro k s ⟨aS, bw, bp, ok, rfl⟩;intro dz B A ad a w ay;refine tC (round k aS bw bp ok dz B A ad a w ay) ?_;rintro e a' w' ⟨s', bg, wH, cE, an⟩;refine ⟨s', bg, wH, cE, ?_⟩;cases e with
 | normal =>
  obtain ⟨k', pE, pi, h1, h2, ao, aH, cM, fQ⟩ := an;exact ⟨k', h1, uO N pE pi, EJ ao aH cM, Jm fQ, pE, pi, h2, fQ, rfl⟩
 | _ => exact an
def Bo (P : Program) (x : Code) (Q : Exit → aE → Prop) : Nat → aE → Prop
 | 0, _ => False
 | n + 1, s => fN P x (so (Bo P x Q n) Q) s
theorem afF {Q : Exit → aE → Prop} {n : Nat} (h : fN P x (so (Bo P x Q n) Q) s) : Bo P x Q (n + 1) s := h
theorem Vl (n : Nat) {Q : Exit → aE → Prop} (h : Bo P x Q n s) : fN P (.loop x) Q s := by
 intro ok;refine LQ (fun k s => s.cU ∧ Bo P x Q k s) n s ⟨rfl, fun _ _ h => h, fun _ _ h => h⟩ ok ⟨ok, h⟩ ?_ ok;rintro k s ⟨ok, h⟩;cases k with
 | zero => cases h
 | succ k =>
  intro dz B A ad a w ay;refine tC (h dz B A ad a w ay) ?_;rintro e a' w' ⟨s', bg, wH, cE, an⟩;refine ⟨s', bg, wH, cE, ?_⟩;cases e with
  | normal => exact ⟨k, Nat.lt_succ_self k, s', ⟨rfl, fun _ _ h => h, fun _ _ h => h⟩, wH, wH, an⟩
  | _ => exact an
end
def okW (x : bK) : Bool := x.cells.all fun y => match y with | .c v => v.oneCell' | _ => true
def Di : List bK → Option (List Value)
 | [] => some []
 | x :: xs => match n6 x, Di xs with
  | some v, some r => some (v :: r)
  | _, _ => none
def Hh : ai → Option Value
 | .w x => n6 x
 | .dd xs => match Di xs with
  | some r => some (.tuple r.toArray)
  | none => none
def Qz : ai → Bool
 | .w x => okW x
 | .dd xs => xs.all okW
section
variable {U : Nat → Prop} {ad : Nat → Nat} {W : World}
theorem RN : ∀ (xs : List AC) (r : List Value), xG xs = some r → (xs.all fun y => match y with | .c v => v.oneCell' | _ => true) = true → b3 U ad W xs r
 | [], r, h, _ => by cases h; exact ⟨rfl, fun i x v h => by simp at h⟩
 | .c v :: xs, r, h, ok => by
  simp only [xG] at h
  split at h
  ·rename_i ba al;cases h;simp only [kF, eh] at ok;have bW := RN xs ba al ok.2;refine ⟨by simp [bW.1], fun i x u aa hu => ?_⟩;cases i with
   | zero => simp at aa hu; subst aa; subst hu; exact ⟨rfl, ok.1⟩
   | succ i => exact bW.2 i x u (by simpa using aa) (by simpa using hu)
  ·cases h
 | .own _ _ :: _, _, h, _ => by cases h
 | .p _ :: _, _, h, _ => by cases h
theorem RQ {x : bK} {u : Value} (h : n6 x = some u) (ok : okW x = true) : hh U ad W x u := by
 cases x with
 | one y => cases y with
  | c v => cases h; simp [okW, bK.cells] at ok; exact ⟨rfl, ok⟩
  | own => cases h
  | p => cases h
 | agg xs =>
  simp only [n6] at h
  split at h
  ·rename_i r al; cases h; exact ⟨r, rfl, RN xs r al ok⟩
  ·cases h
theorem RO : ∀ (xs : List bK) (r : List Value), Di xs = some r → xs.all okW = true → xs.length = r.length ∧ ∀ (i : Nat) (x : bK) (v : Value), xs[i]? = some x → r[i]? = some v → hh U ad W x v
 | [], r, h, _ => by cases h; exact ⟨rfl, fun i x v h => by simp at h⟩
 | x :: xs, r, h, ok => by
  simp only [Di] at h
  split at h
  ·rename_i v ba hv al;cases h;simp only [kF, eh] at ok;obtain ⟨h1, h2⟩ := RO xs ba al ok.2;refine ⟨by simp [h1], fun i y u ag hu => ?_⟩;cases i with
   | zero => simp at ag hu; subst ag; subst hu; exact RQ hv ok.1
   | succ i => exact h2 i y u (by simpa using ag) (by simpa using hu)
  ·cases h
theorem J8 {x : ai} {u : Value} (h : Hh x = some u) (ok : Qz x = true) : dn U ad W x u := by
 cases x with
 | w y => exact RQ h ok
 | dd xs =>
  simp only [Hh] at h
  split at h
  ·rename_i r al; cases h; exact ⟨r, rfl, RO xs r al ok⟩
  ·cases h
end
theorem nI {P : Program} {f : FuncId} {args : List ai} {r : ai} (k9 : List Value) (ck : Value) (he : args.map (fun x => match x with | .w y => n6 y | _ => none) = k9.map some) (al : Hh r = some ck) (jX : args.all ai.bd = true) (ct : r.bd = true) (ok : Qz r = true)
  (h : ∀ W, Calls P f k9.toArray W fun e bn => e = .returned ck ∧ Below W.heap.size W bn) : aY P f args r :=
 aeN k9 he jX ct fun W => (h W).mono fun e w' ⟨h1, h2⟩ => ⟨ck, h1, fun _ _ => J8 al ok, h2⟩
structure y7 where
 ty : List (Nat × Bool × Nat)
 zero : List (Nat × List Value)
 n7 : List (Nat × List (Nat × Nat))
 ny : List (Nat × Nat × Nat)
 iU : List (Nat × List (Nat × Nat))
def lN {α : Type} (R : α → Prop) : List α → Prop
 | [] => True
 | a :: l => R a ∧ lN R l
theorem q6 {α : Type} {R : Nat × α → Prop} {k : Nat} {v : α} : ∀ (l : List (Nat × α)), lN R l → kz l k = some v → R (k, v)
 | [], _, h => by cases h
 | (j, u) :: l, ap, h => by
  simp only [kz] at h;cases ab : Nat.beq k j with
  | true => rw [ab] at h; cases h; obtain rfl := hP ab; exact ap.1
  | false => rw [ab] at h; exact q6 l ap.2 h
class Gk (P : Program) (T : outParam y7) : Prop where
 ty : lN (fun p => kI P p.1 = some p.2) T.ty
 zero : lN (fun p => zeroOf P p.1 = some p.2) T.zero
 n7 : lN (fun p => lN (fun q => ug P p.1 q.1 = some q.2) p.2) T.n7
 ny : lN (fun p => CI P p.1 = some p.2) T.ny
 iU : lN (fun p => Fb P p.1 = some p.2) T.iU
def Rt (b : BinOp) (m n : Int) : Option Bool :=
 match b with
 | .lss => some (decide (m < n))
 | .leq => some (decide (m ≤ n))
 | .gtr => some (decide (n < m))
 | .geq => some (decide (n ≤ m))
 | .eql => some (decide (m = n))
 | .neq => some (!decide (m = n))
 | _ => none
def nf (T : y7) (s : aE) (d : Nat) : Op → Option aE
 | .move x => match s.look x with
  | some av => some (s.put (some d) av)
  | none => none
 | .assign x => match s.look x with
  | some av => some (s.put (some d) av)
  | none => none
 | .pick c x y => match s.look c, s.look x, s.look y with
  | some (.w (.one (.c (.bool true)))), some av, some _ => some (s.put (some d) av)
  | some (.w (.one (.c (.bool false)))), some _, some bv => some (s.put (some d) bv)
  | _, _, _ => none
 | .alloc t => match kz T.zero t, s.mem d with
  | some vs, none => bif vs.all fun v => v.oneCell' then some ((s.ep d (vs.map .c)).put (some d) (nl d 0)) else none
  | _, _ => none
 | .box _ x => match s.look x, s.mem d with
  | some (.w z), none => some ((s.ep d z.cells).put (some d) (nl d 0))
  | _, _ => none
 | .load t x => match s.look x with
  | some (.w (.one (.own k off))) => match s.mem k with
   | some cs => match kz T.ty t with
    | some (false, _) => match cs[off]? with
     | some y => some (s.put (some d) (.w (.one y)))
     | none => none
    | some (true, n) => match takeN cs off n with
     | some aZ => some (s.put (some d) (.w (.agg aZ)))
     | none => none
    | none => none
   | none => none
  | _ => none
 | .fieldAddr t x i => match s.look x with
  | some (.w (.one (.own k off))) => match kz T.n7 t with
   | some l => match kz l i with
    | some iw => some (s.put (some d) (nl k (off + iw)))
    | none => none
   | none => none
  | _ => none
 | .indexAddr t x y => match s.look x, s.look y with
  | some (.w (.one (.own k off))), some (.w (.one (.c (.int _ i)))) => match kz T.ny t with
   | some (n, size) => bif decide (0 ≤ i) && decide (i < n) then some (s.put (some d) (nl k (off + i.toNat * size))) else none
   | none => none
  | _, _ => none
 | .extract x i => match s.look x with
  | some (.dd xs) => match xs[i]? with
   | some y => some (s.put (some d) (.w y))
   | none => none
  | _ => none
 | .build t parts => match nG s.look parts.toList, kz T.zero t, kz T.iU t with
  | some zs, some vs, some ps => match q7 ps (vs.map .c) zs with
   | some r => bif vs.all fun v => v.oneCell' then some (s.put (some d) (.w (.agg r))) else none
   | none => none
  | _, _, _ => none
 | .binOp b _ x y _ => match s.look x, s.look y with
  | some (.w (.one (.c (.int k m)))), some (.w (.one (.c (.int k' n)))) => match decEq k k' with
   | isTrue _ => match Rt b m n with
    | some r => some (s.put (some d) (bG r))
    | none => none
   | isFalse _ => none
  | _, _ => none
 | .unOp .not _ x => match s.look x with
  | some (.w (.one (.c (.bool b)))) => some (s.put (some d) (bG (!b)))
  | _ => none
 | _ => none
def Rv (T : y7) (ops : Array Oper) (s : aE) (o : Oper) : Option aE :=
 match want ops o s with
 | some true => match o.dst with
  | some d => bif Nat.blt d s.n then nf T s d o.op else none
  | none => match o.op with
   | .store t x y => match s.look x, s.look y with
    | some (.w (.one (.own k off))), some (.w z) => match s.mem k, kz T.ty t with
     | some cs, some (_, n) => bif Nat.beq n z.cells.length then (match px cs off z.cells with
      | some ds => some (s.ep k ds)
      | none => none) else none
     | _, _ => none
    | _, _ => none
   | _ => none
 | some false => match o.dst with
  | some d => bif Nat.blt d s.n then some (s.put (some d) (.dd [])) else none
  | none => some s
 | none => none
section
variable {P : Program} {T : y7} {s s' : aE} {ops : Array Oper} {K : aE → Prop} {rest : List Oper}
theorem U9 [Q : Gk P T] {d ty : Nat} {op : Op} {pos : String} {after : Array Edge} {guard : Option (Nat × Bool)} (hw : want ops ⟨some d, op, ty, pos, after, guard⟩ s = some true) (hd : Nat.blt d s.n = true) (h : nf T s d op = some s') (k : bj P ops K rest s') :
  bj P ops K (⟨some d, op, ty, pos, after, guard⟩ :: rest) s := by
 cases op with
 | move x =>
  simp only [nf] at h
  split at h
  ·rename_i av aa; cases h; exact U3 hw aa hd k
  ·cases h
 | assign x =>
  simp only [nf] at h
  split at h
  ·rename_i av aa; cases h; exact UE hw aa hd k
  ·cases h
 | pick c x y =>
  simp only [nf] at h
  split at h
  ·rename_i av bv ak aa ag; cases h; exact U8 hw ak aa ag hd k
  ·rename_i av bv ak aa ag; cases h; exact U7 hw ak ag aa hd k
  ·cases h
 | alloc t =>
  simp only [nf] at h
  split at h
  ·rename_i vs a6 hm;have dR := q6 _ Q.zero a6;cases h1 : (vs.all fun v => v.oneCell') with
   | true =>
    rw [h1] at h;cases h;have : Cz P t vs := ⟨dR⟩;exact UC hw hm h1 hd k
   | false => rw [h1] at h; cases h
  ·cases h
 | box t x =>
  simp only [nf] at h
  split at h
  ·rename_i z aa hm; cases h; exact UF hw aa hm hd k
  ·cases h
 | load t x =>
  simp only [nf] at h
  split at h
  ·rename_i j off aa
   split at h
   ·rename_i cs hm
    split at h
    ·rename_i n ee;have zU := q6 _ Q.ty ee
     split at h
     ·rename_i y ak; cases h; have : gn P t false n := ⟨zU⟩; exact UZ hw aa hm ak hd k
     ·cases h
    ·rename_i n ee;have zU := q6 _ Q.ty ee
     split at h
     ·rename_i aZ ak; cases h; have : gn P t true n := ⟨zU⟩; exact U0 hw aa hm ak hd k
     ·cases h
    ·cases h
   ·cases h
  ·cases h
 | fieldAddr t x i =>
  simp only [nf] at h
  split at h
  ·rename_i j off aa
   split at h
   ·rename_i l ap
    split at h
    ·rename_i iw aw;have hF := q6 _ (q6 _ Q.n7 ap) aw;cases h;have : nm P t i iw := ⟨hF⟩;exact UR hw aa hd k
    ·cases h
   ·cases h
  ·cases h
 | indexAddr t x y =>
  simp only [nf] at h
  split at h
  ·rename_i j off ho i aa ag
   split at h
   ·rename_i n size ej;have zP := q6 _ Q.ny ej;cases h1 : (decide (0 ≤ i) && decide (i < (n : Int))) with
    | true =>
     rw [h1] at h;cases h;rw [eh, cL, cL] at h1;have : KF P t n size := ⟨zP⟩;exact UU hw aa ag h1.1 h1.2 hd k
    | false => rw [h1] at h; cases h
   ·cases h
  ·cases h
 | extract x i =>
  simp only [nf] at h
  split at h
  ·rename_i xs aa
   split at h
   ·rename_i y ag; cases h; exact UO hw aa ag hd k
   ·cases h
  ·cases h
 | build t parts =>
  simp only [nf] at h
  split at h
  ·rename_i zs vs ps a6 hv hp;have dR := q6 _ Q.zero hv;have gY := q6 _ Q.iU hp
   split at h
   ·rename_i r al;cases h1 : (vs.all fun v => v.oneCell') with
    | true =>
     rw [h1] at h;cases h;have : Cz P t vs := ⟨dR⟩;have : K1 P t ps := ⟨gY⟩;have g : bj P ops K (⟨some d, .build t parts.toList.toArray, ty, pos, after, guard⟩ :: rest) s := UG (by rw [Array.toArray_toList]; exact hw) a6 al h1 hd k;rwa [Array.toArray_toList] at g
    | false => rw [h1] at h; cases h
   ·cases h
  ·cases h
 | binOp b de x y dY =>
  simp only [nf] at h
  split at h
  ·rename_i ho m ajx n aa ag
   split at h
   ·rename_i e he;subst e;cases b <;> simp only [Rt] at h <;> cases h
    ·exact UN hw aa ag hd k
    ·exact U4 hw aa ag hd k
    ·exact U1 hw aa ag hd k
    ·exact UY hw aa ag hd k
    ·exact UT hw aa ag hd k
    ·exact US hw aa ag hd k
   ·cases h
  ·cases h
 | unOp u de x =>
  cases u <;> simp only [nf] at h <;> try (cases h; done)
  split at h
  ·rename_i b aa; cases h; exact U6 hw aa hd k
  ·cases h
 | _ => simp only [nf] at h; cases h
theorem az [Q : Gk P T] {o : Oper} (h : Rv T ops s o = some s') (k : bj P ops K rest s') : bj P ops K (o :: rest) s := by
 obtain ⟨dst, op, ty, pos, after, guard⟩ := o;unfold Rv at h
 split at h
 ·rename_i hw;cases dst with
  | some d =>
   simp only at h;cases hd : Nat.blt d s.n with
   | true => rw [hd] at h; exact U9 hw hd h k
   | false => rw [hd] at h; cases h
  | none =>
   simp only at h
   split at h
   ·rename_i t x y
    split at h
    ·rename_i j off z aa ag
     split at h
     ·rename_i cs b n hm ee;have zU := q6 _ Q.ty ee;cases aD : Nat.beq n z.cells.length with
      | true =>
       rw [aD] at h;simp only [cond_true] at h
       split at h
       ·rename_i ds hp;cases h;have : gn P t b n := ⟨zU⟩;exact Vc hw aa ag hm aD hp k
       ·cases h
      | false => rw [aD] at h; cases h
     ·cases h
    ·cases h
   ·cases h
 ·rename_i hw;cases dst with
  | some d =>
   simp only at h;cases hd : Nat.blt d s.n with
   | true => rw [hd] at h; cases h; exact LH hw (fun d' e => by cases e; exact hd) k
   | false => rw [hd] at h; cases h
  | none => cases h; exact LH hw (fun d' e => by cases e) k
 ·cases h
end
end Go.Proofs.YtpochbhajmbfdaaGreat
namespace Go.Proofs.YtpochbhajmbfdaaGreat
instance : gn aj 3 false 1 := ⟨by kernel_rfl⟩
instance : Ge aj 3 .i64 := ⟨by kernel_rfl⟩
instance : gn aj 4 false 1 := ⟨by kernel_rfl⟩
instance : nX aj 22 [.int .i64 0, .int .i64 0, .int .i64 0, .int .i64 0, .int .i64 0] := ⟨by kernel_rfl⟩
instance : iI aj 22 5 := ⟨by kernel_rfl⟩
instance : nX aj 28 [.int .i64 0, .int .i64 0, .int .i64 0, .int .i64 0, .int .i64 0] := ⟨by kernel_rfl⟩
instance : iI aj 28 5 := ⟨by kernel_rfl⟩
instance : gn aj 42 false 1 := ⟨by kernel_rfl⟩
instance : nX aj 42 [.int .i64 0, .int .i64 0] := ⟨by kernel_rfl⟩
instance : iI aj 42 2 := ⟨by kernel_rfl⟩
instance : nX aj 43 [.slice none 0 0, .slice none 0 0] := ⟨by kernel_rfl⟩
instance : iI aj 43 2 := ⟨by kernel_rfl⟩
instance : gn aj 45 true 10 := ⟨by kernel_rfl⟩
instance : nm aj 45 2 2 := ⟨by kernel_rfl⟩
instance : gn aj 51 false 1 := ⟨by kernel_rfl⟩
instance : nX aj 51 [.int .i64 0] := ⟨by kernel_rfl⟩
instance : iI aj 51 1 := ⟨by kernel_rfl⟩
instance : gn aj 53 true 2 := ⟨by kernel_rfl⟩
instance : nm aj 53 0 0 := ⟨by kernel_rfl⟩
instance : nm aj 53 1 1 := ⟨by kernel_rfl⟩
instance : gn aj 59 true 2 := ⟨by kernel_rfl⟩
instance : gn aj 61 true 2 := ⟨by kernel_rfl⟩
instance : nm aj 61 0 0 := ⟨by kernel_rfl⟩
instance : nm aj 61 1 1 := ⟨by kernel_rfl⟩
instance : gn aj 63 true 5 := ⟨by kernel_rfl⟩
instance : nm aj 63 0 0 := ⟨by kernel_rfl⟩
instance : nm aj 63 1 2 := ⟨by kernel_rfl⟩
instance : gn aj 91 true 5 := ⟨by kernel_rfl⟩
instance : nX aj 96 [.int .i64 0, .int .i64 0, .int .i64 0, .int .i64 0] := ⟨by kernel_rfl⟩
instance : iI aj 96 4 := ⟨by kernel_rfl⟩
instance : nm aj 98 1 1 := ⟨by kernel_rfl⟩
instance : gn aj 126 true 6 := ⟨by kernel_rfl⟩
instance : nX aj 137 [.int .i64 0, .int .i64 0, .int .i64 0] := ⟨by kernel_rfl⟩
instance : iI aj 137 3 := ⟨by kernel_rfl⟩
instance : gn aj 161 true 4 := ⟨by kernel_rfl⟩
instance : gn aj 163 true 13 := ⟨by kernel_rfl⟩
instance : gn aj 167 true 4 := ⟨by kernel_rfl⟩
instance : gn aj 216 true 4 := ⟨by kernel_rfl⟩
instance : gn aj 253 false 1 := ⟨by kernel_rfl⟩
instance : Ge aj 253 .u64 := ⟨by kernel_rfl⟩
instance : nX aj 256 [.slice none 0 0] := ⟨by kernel_rfl⟩
instance : iI aj 256 1 := ⟨by kernel_rfl⟩
instance : nX aj 257 [.slice none 0 0] := ⟨by kernel_rfl⟩
instance : iI aj 257 1 := ⟨by kernel_rfl⟩
instance : gn aj 261 true 3 := ⟨by kernel_rfl⟩
instance : nm aj 261 1 2 := ⟨by kernel_rfl⟩
instance : gn aj 282 true 3 := ⟨by kernel_rfl⟩
instance : gn aj 284 true 10 := ⟨by kernel_rfl⟩
instance : gn aj 307 true 4 := ⟨by kernel_rfl⟩
instance : Enters aj 15 := ⟨by kernel_rfl⟩
instance : Enters aj 16 := ⟨by kernel_rfl⟩
instance : Enters aj 17 := ⟨by kernel_rfl⟩
instance : Enters aj 18 := ⟨by kernel_rfl⟩
instance : Enters aj 19 := ⟨by kernel_rfl⟩
instance : Enters aj 23 := ⟨by kernel_rfl⟩
instance : Enters aj 24 := ⟨by kernel_rfl⟩
instance : Enters aj 25 := ⟨by kernel_rfl⟩
instance : Enters aj 27 := ⟨by kernel_rfl⟩
instance : Enters aj 28 := ⟨by kernel_rfl⟩
instance : Enters aj 32 := ⟨by kernel_rfl⟩
instance : Enters aj 37 := ⟨by kernel_rfl⟩
instance : Enters aj 41 := ⟨by kernel_rfl⟩
instance : Enters aj 42 := ⟨by kernel_rfl⟩
instance : Enters aj 43 := ⟨by kernel_rfl⟩
instance : Enters aj 49 := ⟨by kernel_rfl⟩
instance : Enters aj 50 := ⟨by kernel_rfl⟩
instance : Enters aj 53 := ⟨by kernel_rfl⟩
instance : Enters aj 54 := ⟨by kernel_rfl⟩
instance : Enters aj 55 := ⟨by kernel_rfl⟩
instance : Enters aj 56 := ⟨by kernel_rfl⟩
instance : Enters aj 57 := ⟨by kernel_rfl⟩
instance : Enters aj 58 := ⟨by kernel_rfl⟩
instance : Enters aj 65 := ⟨by kernel_rfl⟩
instance : Enters aj 66 := ⟨by kernel_rfl⟩
instance : Enters aj 67 := ⟨by kernel_rfl⟩
instance : Enters aj 68 := ⟨by kernel_rfl⟩
instance : Enters aj 69 := ⟨by kernel_rfl⟩
instance : Enters aj 70 := ⟨by kernel_rfl⟩
instance : Enters aj 72 := ⟨by kernel_rfl⟩
instance : Enters aj 77 := ⟨by kernel_rfl⟩
instance : Enters aj 78 := ⟨by kernel_rfl⟩
instance : Enters aj 83 := ⟨by kernel_rfl⟩
instance : Enters aj 84 := ⟨by kernel_rfl⟩
instance : Enters aj 85 := ⟨by kernel_rfl⟩
instance : Enters aj 88 := ⟨by kernel_rfl⟩
instance : Enters aj 91 := ⟨by kernel_rfl⟩
instance : Enters aj 98 := ⟨by kernel_rfl⟩
instance : Enters aj 99 := ⟨by kernel_rfl⟩
instance : Enters aj 100 := ⟨by kernel_rfl⟩
instance : Enters aj 101 := ⟨by kernel_rfl⟩
instance : Enters aj 102 := ⟨by kernel_rfl⟩
instance : Enters aj 115 := ⟨by kernel_rfl⟩
instance : Enters aj 116 := ⟨by kernel_rfl⟩
instance : Enters aj 117 := ⟨by kernel_rfl⟩
instance : Enters aj 118 := ⟨by kernel_rfl⟩
instance : Enters aj 119 := ⟨by kernel_rfl⟩
instance : Enters aj 120 := ⟨by kernel_rfl⟩
instance : Enters aj 121 := ⟨by kernel_rfl⟩
instance : Enters aj 122 := ⟨by kernel_rfl⟩
instance : Enters aj 123 := ⟨by kernel_rfl⟩
instance : Enters aj 124 := ⟨by kernel_rfl⟩
instance : Enters aj 125 := ⟨by kernel_rfl⟩
instance : Enters aj 126 := ⟨by kernel_rfl⟩
instance : Enters aj 127 := ⟨by kernel_rfl⟩
instance : Enters aj 128 := ⟨by kernel_rfl⟩
instance : Enters aj 129 := ⟨by kernel_rfl⟩
instance : Enters aj 130 := ⟨by kernel_rfl⟩
instance : Enters aj 131 := ⟨by kernel_rfl⟩
instance : Enters aj 132 := ⟨by kernel_rfl⟩
instance : Enters aj 133 := ⟨by kernel_rfl⟩
instance : Enters aj 154 := ⟨by kernel_rfl⟩
instance : Enters aj 163 := ⟨by kernel_rfl⟩
instance : Enters aj 170 := ⟨by kernel_rfl⟩
instance : Enters aj 171 := ⟨by kernel_rfl⟩
instance : Enters aj 172 := ⟨by kernel_rfl⟩
instance : Enters aj 173 := ⟨by kernel_rfl⟩
instance : Enters aj 174 := ⟨by kernel_rfl⟩
instance : Enters aj 175 := ⟨by kernel_rfl⟩
instance : Enters aj 176 := ⟨by kernel_rfl⟩
instance : Enters aj 177 := ⟨by kernel_rfl⟩
instance : Enters aj 178 := ⟨by kernel_rfl⟩
instance : Enters aj 179 := ⟨by kernel_rfl⟩
instance : Enters aj 180 := ⟨by kernel_rfl⟩
instance : Enters aj 181 := ⟨by kernel_rfl⟩
instance : Enters aj 182 := ⟨by kernel_rfl⟩
instance : Enters aj 183 := ⟨by kernel_rfl⟩
instance : Enters aj 184 := ⟨by kernel_rfl⟩
instance : Enters aj 185 := ⟨by kernel_rfl⟩
instance : Enters aj 186 := ⟨by kernel_rfl⟩
instance : Enters aj 187 := ⟨by kernel_rfl⟩
instance : Enters aj 200 := ⟨by kernel_rfl⟩
instance : Enters aj 201 := ⟨by kernel_rfl⟩
instance : Enters aj 202 := ⟨by kernel_rfl⟩
instance : Enters aj 215 := ⟨by kernel_rfl⟩
instance : Enters aj 216 := ⟨by kernel_rfl⟩
instance : Enters aj 217 := ⟨by kernel_rfl⟩
instance : Enters aj 218 := ⟨by kernel_rfl⟩
instance : Enters aj 219 := ⟨by kernel_rfl⟩
instance : Enters aj 220 := ⟨by kernel_rfl⟩
instance : Enters aj 221 := ⟨by kernel_rfl⟩
instance : Enters aj 222 := ⟨by kernel_rfl⟩
instance : Enters aj 223 := ⟨by kernel_rfl⟩
instance : Enters aj 224 := ⟨by kernel_rfl⟩
instance : Enters aj 225 := ⟨by kernel_rfl⟩
instance : Enters aj 226 := ⟨by kernel_rfl⟩
instance : Enters aj 227 := ⟨by kernel_rfl⟩
instance : Enters aj 229 := ⟨by kernel_rfl⟩
instance : Enters aj 230 := ⟨by kernel_rfl⟩
instance : Enters aj 231 := ⟨by kernel_rfl⟩
instance : Enters aj 242 := ⟨by kernel_rfl⟩
instance : Enters aj 243 := ⟨by kernel_rfl⟩
instance : Enters aj 244 := ⟨by kernel_rfl⟩
instance : Enters aj 249 := ⟨by kernel_rfl⟩
instance : Enters aj 250 := ⟨by kernel_rfl⟩
instance : Enters aj 251 := ⟨by kernel_rfl⟩
instance : Enters aj 252 := ⟨by kernel_rfl⟩
instance : Enters aj 253 := ⟨by kernel_rfl⟩
instance : Enters aj 254 := ⟨by kernel_rfl⟩
instance : Enters aj 255 := ⟨by kernel_rfl⟩
instance : Enters aj 256 := ⟨by kernel_rfl⟩
instance : Enters aj 258 := ⟨by kernel_rfl⟩
instance : Enters aj 259 := ⟨by kernel_rfl⟩
instance : Enters aj 260 := ⟨by kernel_rfl⟩
instance : Enters aj 261 := ⟨by kernel_rfl⟩
instance : Enters aj 273 := ⟨by kernel_rfl⟩
instance : Enters aj 274 := ⟨by kernel_rfl⟩
instance : Enters aj 275 := ⟨by kernel_rfl⟩
instance : Enters aj 276 := ⟨by kernel_rfl⟩
instance : Enters aj 282 := ⟨by kernel_rfl⟩
instance : Enters aj 283 := ⟨by kernel_rfl⟩
instance : Enters aj 284 := ⟨by kernel_rfl⟩
instance : Enters aj 285 := ⟨by kernel_rfl⟩
instance : Enters aj 294 := ⟨by kernel_rfl⟩
instance : Enters aj 295 := ⟨by kernel_rfl⟩
def tab : y7 where
 ty := [(0, false, 1), (1, false, 1), (2, false, 1), (3, false, 1), (4, false, 1), (5, false, 1), (6, false, 1), (7, true, 4), (8, true, 4), (9, false, 1), (10, false, 1), (11, false, 1), (12, false, 1), (13, true, 2), (14, true, 2), (15, false, 1), (16, false, 1), (17, false, 1), (18, true, 1), (19, true, 1), (20, false, 1), (21, false, 1), (22, false, 1), (23, true, 2), (24, false, 1), (25, false, 1), (26, false, 1), (27, false, 1), (28, false, 1), (29, false, 1), (30, false, 1), (31, false, 1), (32, false, 1), (33, true, 11), (34, true, 11), (35, false, 1), (36, false, 1), (37, false, 1), (38, false, 1), (39, false, 1), (40, false, 1), (41, false, 1), (42, false, 1), (43, false, 1), (44, true, 10), (45, true, 10), (46, false, 1), (47, false, 1), (48, false, 1), (49, true, 2), (50, true, 2), (51, false, 1), (52, true, 2), (53, true, 2), (54, true, 2), (55, true, 2), (56, false, 1), (57, false, 1), (58, true, 2), (59, true, 2), (60, false, 1), (61, true, 2), (62, true, 5), (63, true, 5), (64, true, 2), (65, false, 1), (66, false, 1), (67, false, 1), (68, false, 1), (69, false, 1), (70, false, 1), (71, false, 1), (72, false, 1), (73, true, 4), (74, false, 1), (75, false, 1), (76, false, 1), (77, false, 1), (78, false, 1), (79, false, 1), (80, false, 1), (81, false, 1), (82, false, 1), (83, false, 1), (84, false, 1), (85, false, 1), (86, false, 1), (87, false, 1), (88, true, 4), (89, false, 1), (90, false, 1), (91, true, 5), (92, false, 1), (93, false, 1), (94, false, 1), (95, false, 1), (96, false, 1), (97, true, 13), (98, true, 13), (99, false, 1), (100, false, 1), (101, false, 1), (102, false, 1), (103, false, 1), (104, true, 4), (105, false, 1), (106, false, 1), (107, false, 1), (108, false, 1), (109, true, 2), (110, true, 2), (111, true, 4), (112, true, 4), (113, true, 9), (114, true, 9), (115, false, 1), (116, false, 1), (117, false, 1), (118, false, 1), (119, false, 1), (120, false, 1), (121, true, 13), (122, true, 13), (123, false, 1), (124, false, 1), (125, false, 1), (126, true, 6), (127, false, 1), (128, false, 1), (129, false, 1), (130, false, 1), (131, false, 1), (132, false, 1), (133, false, 1), (134, false, 1), (135, false, 1), (136, false, 1), (137, false, 1), (138, true, 1), (139, true, 1), (140, true, 2), (141, true, 2), (142, false, 1), (143, false, 1), (144, false, 1), (145, false, 1), (146, false, 1), (147, false, 1), (148, false, 1), (149, false, 1), (150, false, 1), (151, false, 1), (152, false, 1), (153, false, 1), (154, false, 1), (155, false, 1), (156, false, 1), (157, false, 1), (158, true, 2), (159, true, 2), (160, true, 4), (161, true, 4), (162, true, 13), (163, true, 13), (164, false, 1), (165, false, 1), (166, true, 4), (167, true, 4), (168, false, 1), (169, false, 1), (170, false, 1), (171, false, 1), (172, false, 1), (173, false, 1), (174, false, 1), (175, false, 1), (176, false, 1), (177, false, 1), (178, false, 1), (179, false, 1), (180, false, 1), (181, false, 1), (182, false, 1), (183, false, 1), (184, false, 1), (185, false, 1), (186, false, 1), (187, false, 1), (188, false, 1), (189, false, 1), (190, false, 1), (191, false, 1), (192, false, 1), (193, false, 1), (194, false, 1), (195, false, 1), (196, false, 1), (197, false, 1), (198, false, 1), (199, false, 1), (200, false, 1), (201, false, 1), (202, true, 6), (203, false, 1), (204, false, 1), (205, false, 1), (206, false, 1), (207, false, 1), (208, false, 1), (209, false, 1), (210, false, 1), (211, false, 1), (212, false, 1), (213, false, 1), (214, false, 1), (215, true, 4), (216, true, 4), (217, false, 1), (218, false, 1), (219, false, 1), (220, false, 1), (221, false, 1), (222, false, 1), (223, false, 1), (224, false, 1), (225, false, 1), (226, false, 1), (227, false, 1), (228, false, 1), (229, false, 1), (230, false, 1), (231, false, 1), (232, false, 1), (233, false, 1), (234, false, 1), (235, false, 1), (236, false, 1), (237, false, 1), (238, false, 1), (239, false, 1), (240, false, 1), (241, false, 1), (242, false, 1), (243, false, 1), (244, false, 1), (245, false, 1), (246, false, 1), (247, false, 1), (248, false, 1), (249, false, 1), (250, false, 1), (251, false, 1), (252, false, 1), (253, false, 1), (254, false, 1), (255, false, 1), (256, false, 1), (257, false, 1), (258, false, 1), (259, false, 1), (260, true, 3), (261, true, 3), (262, false, 1), (263, false, 1), (264, false, 1), (265, true, 5), (266, true, 5), (267, false, 1), (268, false, 1), (269, false, 1), (270, false, 1), (271, false, 1), (272, false, 1), (273, false, 1), (274, false, 1), (275, false, 1), (276, false, 1), (277, false, 1), (278, false, 1), (279, true, 6), (280, true, 6), (281, true, 3), (282, true, 3), (283, true, 10), (284, true, 10), (285, false, 1), (286, false, 1), (287, true, 4), (288, false, 1), (289, false, 1), (290, false, 1), (291, false, 1), (292, false, 1), (293, false, 1), (294, false, 1), (295, false, 1), (296, false, 1), (297, false, 1), (298, false, 1), (299, false, 1), (300, false, 1), (301, false, 1), (302, false, 1), (303, false, 1), (304, false, 1), (305, false, 1), (306, true, 4), (307, true, 4), (308, false, 1), (309, false, 1), (310, true, 2), (311, true, 2), (312, false, 1), (313, false, 1), (314, false, 1), (315, false, 1), (316, false, 1), (317, false, 1), (318, false, 1), (319, false, 1), (320, false, 1), (321, false, 1), (322, false, 1), (323, false, 1), (324, false, 1), (325, false, 1), (326, false, 1), (327, false, 1), (328, false, 1), (329, false, 1), (330, false, 1), (331, false, 1), (332, false, 1), (333, false, 1), (334, false, 1), (335, false, 1), (336, false, 1), (337, true, 4), (338, true, 4), (339, true, 0), (340, true, 0), (341, true, 0), (342, false, 1), (343, false, 1), (344, false, 1), (345, false, 1), (346, false, 1), (347, false, 1), (348, true, 11), (349, true, 11), (350, true, 1), (351, true, 1), (352, false, 1)]
 zero := [(1, [.nilFunc]), (2, [.int .i64 0]), (3, [.int .i64 0]), (4, [.bool false]), (5, [.int .u8 0]), (6, [.int .u8 0]), (7, [.int .i64 0, .int .i64 0, .bool false, .int .u8 0]), (8, [.int .i64 0, .int .i64 0, .bool false, .int .u8 0]), (9, [.string ByteArray.empty]), (10, [.string ByteArray.empty]), (11, [.string ByteArray.empty]), (12, [.int .u64 0]), (13, [.string ByteArray.empty, .int .u64 0]), (14, [.string ByteArray.empty, .int .u64 0]), (15, [.pointer none]), (16, [.pointer none]), (17, [.pointer none]), (18, [.pointer none]), (19, [.pointer none]), (20, [.nilIface]), (21, [.int .i32 0]), (22, [.slice none 0 0]), (23, [.int .i64 0, .int .i64 0]), (24, [.nilFunc]), (25, [.nilFunc]), (26, [.pointer none]), (27, [.nilFunc]), (28, [.slice none 0 0]), (29, [.nilFunc]), (30, [.nilFunc]), (31, [.slice none 0 0]), (32, [.slice none 0 0]), (33, [.slice none 0 0, .int .i64 0, .int .i64 0, .int .i64 0, .int .i64 0, .int .i64 0, .int .i64 0, .bool false, .slice none 0 0, .slice none 0 0, .slice none 0 0]), (34, [.slice none 0 0, .int .i64 0, .int .i64 0, .int .i64 0, .int .i64 0, .int .i64 0, .int .i64 0, .bool false, .slice none 0 0, .slice none 0 0, .slice none 0 0]), (35, [.nilFunc]), (37, [.nilFunc]), (38, [.nilFunc]), (39, [.nilFunc]), (40, [.nilFunc]), (41, [.nilFunc]), (42, [.slice none 0 0]), (43, [.slice none 0 0]), (44, [.int .i64 0, .int .i64 0, .int .i64 0, .int .i64 0, .int .i64 0, .int .i64 0, .bool false, .slice none 0 0, .slice none 0 0, .slice none 0 0]), (45, [.int .i64 0, .int .i64 0, .int .i64 0, .int .i64 0, .int .i64 0, .int .i64 0, .bool false, .slice none 0 0, .slice none 0 0, .slice none 0 0]), (46, [.nilFunc]), (47, [.nilFunc]), (48, [.nilFunc]), (49, [.int .i64 0, .slice none 0 0]), (50, [.int .i64 0, .slice none 0 0]), (51, [.slice none 0 0]), (52, [.slice none 0 0, .slice none 0 0]), (53, [.slice none 0 0, .slice none 0 0]), (54, [.slice none 0 0, .slice none 0 0]), (55, [.slice none 0 0, .slice none 0 0]), (56, [.nilFunc]), (57, [.nilFunc]), (58, [.int .i64 0, .int .i64 0]), (59, [.int .i64 0, .int .i64 0]), (60, [.nilFunc]), (61, [.int .i64 0, .int .i64 0]), (62, [.int .i64 0, .int .i64 0, .int .i64 0, .int .i64 0, .int .i64 0]), (63, [.int .i64 0, .int .i64 0, .int .i64 0, .int .i64 0, .int .i64 0]), (64, [.int .i64 0, .int .i64 0]), (65, [.nilFunc]), (66, [.nilFunc]), (67, [.nilFunc]), (68, [.nilFunc]), (69, [.nilFunc]), (70, [.slice none 0 0]), (71, [.nilFunc]), (72, [.nilFunc]), (73, [.int .i64 0, .int .i64 0, .int .i64 0, .int .i64 0]), (74, [.nilFunc]), (75, [.nilFunc]), (76, [.nilFunc]), (77, [.nilFunc]), (78, [.nilFunc]), (79, [.slice none 0 0]), (80, [.nilFunc]), (81, [.nilFunc]), (83, [.nilFunc]), (84, [.nilFunc]), (85, [.nilFunc]), (86, [.nilFunc]), (87, [.nilFunc]), (88, [.int .i64 0, .int .i64 0, .int .i64 0, .int .i64 0]), (89, [.nilFunc]), (90, [.nilFunc]), (91, [.int .i64 0, .int .i64 0, .int .i64 0, .int .i64 0, .int .i64 0]), (92, [.nilFunc]), (93, [.pointer none]), (94, [.nilFunc]), (95, [.nilFunc]), (96, [.slice none 0 0]), (97, [.slice none 0 0, .int .i64 0, .int .i64 0, .int .i64 0, .int .i64 0, .int .i64 0, .int .i64 0, .bool false, .slice none 0 0, .slice none 0 0, .slice none 0 0, .pointer none, .slice none 0 0]), (98, [.slice none 0 0, .int .i64 0, .int .i64 0, .int .i64 0, .int .i64 0, .int .i64 0, .int .i64 0, .bool false, .slice none 0 0, .slice none 0 0, .slice none 0 0, .pointer none, .slice none 0 0]), (99, [.nilFunc]), (100, [.nilFunc]), (101, [.nilFunc]), (102, [.nilFunc]), (103, [.nilFunc]), (104, [.nilFunc, .nilFunc, .nilFunc, .nilFunc]), (105, [.nilFunc]), (106, [.nilFunc]), (107, [.nilFunc]), (108, [.slice none 0 0]), (109, [.bool false, .slice none 0 0]), (110, [.bool false, .slice none 0 0]), (111, [.bool false, .slice none 0 0, .bool false, .slice none 0 0]), (112, [.bool false, .slice none 0 0, .bool false, .slice none 0 0]), (113, [.bool false, .slice none 0 0, .bool false, .slice none 0 0, .bool false, .slice none 0 0, .bool false, .slice none 0 0, .bool false]), (114, [.bool false, .slice none 0 0, .bool false, .slice none 0 0, .bool false, .slice none 0 0, .bool false, .slice none 0 0, .bool false]), (115, [.nilFunc]), (116, [.nilFunc]), (117, [.nilFunc]), (118, [.nilFunc]), (119, [.nilFunc]), (120, [.nilFunc]), (121, [.int .i64 0, .bool false, .slice none 0 0, .bool false, .slice none 0 0, .bool false, .slice none 0 0, .bool false, .slice none 0 0, .int .i64 0, .int .i64 0, .int .i64 0, .int .i64 0]), (122, [.int .i64 0, .bool false, .slice none 0 0, .bool false, .slice none 0 0, .bool false, .slice none 0 0, .bool false, .slice none 0 0, .int .i64 0, .int .i64 0, .int .i64 0, .int .i64 0]), (123, [.nilFunc]), (124, [.nilFunc]), (125, [.nilFunc]), (126, [.int .i64 0, .int .i64 0, .int .i64 0, .int .i64 0, .int .i64 0, .int .i64 0]), (127, [.nilFunc]), (128, [.nilFunc]), (129, [.nilFunc]), (130, [.nilFunc]), (131, [.nilFunc]), (132, [.nilFunc]), (133, [.nilFunc]), (134, [.nilFunc]), (135, [.nilFunc]), (136, [.nilFunc]), (137, [.slice none 0 0]), (138, [.slice none 0 0]), (139, [.slice none 0 0]), (140, [.slice none 0 0, .int .i64 0]), (141, [.slice none 0 0, .int .i64 0]), (142, [.nilFunc]), (143, [.nilFunc]), (144, [.nilFunc]), (145, [.nilFunc]), (146, [.nilFunc]), (147, [.nilFunc]), (148, [.nilFunc]), (149, [.nilFunc]), (150, [.nilFunc]), (152, [.nilFunc]), (154, [.nilFunc]), (155, [.nilFunc]), (156, [.nilFunc]), (157, [.int .u64 0]), (158, [.int .i64 0, .int .u64 0]), (159, [.int .i64 0, .int .u64 0]), (160, [.int .i64 0, .int .u64 0, .int .i64 0, .int .u64 0]), (161, [.int .i64 0, .int .u64 0, .int .i64 0, .int .u64 0]), (162, [.int .i64 0, .int .i64 0, .int .u64 0, .int .i64 0, .int .u64 0, .int .i64 0, .int .u64 0, .int .i64 0, .int .u64 0, .int .i64 0, .int .i64 0, .int .i64 0, .int .i64 0]), (163, [.int .i64 0, .int .i64 0, .int .u64 0, .int .i64 0, .int .u64 0, .int .i64 0, .int .u64 0, .int .i64 0, .int .u64 0, .int .i64 0, .int .i64 0, .int .i64 0, .int .i64 0]), (164, [.nilFunc]), (165, [.pointer none]), (166, [.int .i64 0, .int .i64 0, .int .i64 0, .int .i64 0]), (167, [.int .i64 0, .int .i64 0, .int .i64 0, .int .i64 0]), (168, [.nilFunc]), (170, [.nilFunc]), (171, [.nilFunc]), (172, [.nilFunc]), (173, [.nilFunc]), (175, [.nilFunc]), (176, [.nilFunc]), (177, [.nilFunc]), (178, [.nilFunc]), (179, [.nilFunc]), (180, [.nilFunc]), (181, [.nilFunc]), (182, [.nilFunc]), (183, [.nilFunc]), (184, [.nilFunc]), (185, [.slice none 0 0]), (186, [.nilFunc]), (187, [.nilFunc]), (188, [.nilFunc]), (189, [.nilFunc]), (190, [.nilFunc]), (191, [.nilFunc]), (193, [.nilFunc]), (194, [.nilFunc]), (195, [.nilFunc]), (196, [.nilFunc]), (197, [.nilFunc]), (198, [.nilFunc]), (199, [.int .i64 0]), (201, [.nilFunc]), (202, [.nilFunc, .nilFunc, .nilFunc, .nilFunc, .nilFunc, .nilFunc]), (203, [.nilFunc]), (204, [.nilFunc]), (205, [.nilFunc]), (207, [.nilFunc]), (208, [.nilFunc]), (210, [.nilFunc]), (211, [.nilFunc]), (212, [.nilFunc]), (214, [.nilFunc]), (215, [.int .i64 0, .int .i64 0, .int .i64 0, .int .i64 0]), (216, [.int .i64 0, .int .i64 0, .int .i64 0, .int .i64 0]), (217, [.nilFunc]), (218, [.nilFunc]), (219, [.nilFunc]), (220, [.nilFunc]), (221, [.nilFunc]), (222, [.nilFunc]), (223, [.nilFunc]), (224, [.nilFunc]), (225, [.nilFunc]), (226, [.nilFunc]), (227, [.nilFunc]), (228, [.nilFunc]), (229, [.nilFunc]), (230, [.nilFunc]), (231, [.nilFunc]), (232, [.nilFunc]), (233, [.nilFunc]), (234, [.nilFunc]), (236, [.nilFunc]), (237, [.nilFunc]), (238, [.slice none 0 0]), (239, [.nilFunc]), (240, [.nilFunc]), (241, [.nilFunc]), (242, [.nilFunc]), (243, [.nilFunc]), (244, [.nilFunc]), (245, [.nilFunc]), (247, [.nilFunc]), (248, [.nilFunc]), (250, [.nilFunc]), (251, [.nilFunc]), (252, [.nilFunc]), (253, [.int .u64 0]), (255, [.nilFunc]), (256, [.slice none 0 0]), (257, [.slice none 0 0]), (258, [.nilFunc]), (259, [.pointer none]), (260, [.int .i64 0, .int .i64 0, .int .i64 0]), (261, [.int .i64 0, .int .i64 0, .int .i64 0]), (262, [.nilFunc]), (263, [.nilFunc]), (264, [.nilFunc]), (265, [.int .i64 0, .int .i64 0, .int .i64 0, .int .i64 0, .int .i64 0]), (266, [.int .i64 0, .int .i64 0, .int .i64 0, .int .i64 0, .int .i64 0]), (267, [.nilFunc]), (268, [.map none]), (269, [.nilFunc]), (270, [.nilFunc]), (272, [.nilFunc]), (273, [.nilFunc]), (275, [.nilFunc]), (276, [.nilFunc]), (277, [.nilFunc]), (278, [.nilFunc]), (279, [.int .i64 0, .int .i64 0, .int .i64 0, .int .i64 0, .bool false, .bool false]), (280, [.int .i64 0, .int .i64 0, .int .i64 0, .int .i64 0, .bool false, .bool false]), (281, [.int .i64 0, .int .i64 0, .bool false]), (282, [.int .i64 0, .int .i64 0, .bool false]), (283, [.int .i64 0, .int .i64 0, .int .i64 0, .int .i64 0, .int .i64 0, .int .i64 0, .bool false, .int .i64 0, .int .i64 0, .bool false]), (284, [.int .i64 0, .int .i64 0, .int .i64 0, .int .i64 0, .int .i64 0, .int .i64 0, .bool false, .int .i64 0, .int .i64 0, .bool false]), (285, [.nilFunc]), (286, [.nilFunc]), (287, [.nilFunc, .nilFunc, .nilFunc, .nilFunc]), (288, [.int .u32 0]), (290, [.nilFunc]), (292, [.nilFunc]), (293, [.nilFunc]), (294, [.nilFunc]), (295, [.nilFunc]), (296, [.nilFunc]), (297, [.nilFunc]), (298, [.nilFunc]), (299, [.nilFunc]), (300, [.nilFunc]), (301, [.nilFunc]), (302, [.nilFunc]), (303, [.nilFunc]), (304, [.nilFunc]), (305, [.nilFunc]), (306, [.int .i64 0, .int .i64 0, .int .i64 0, .int .i64 0]), (307, [.int .i64 0, .int .i64 0, .int .i64 0, .int .i64 0]), (308, [.nilFunc]), (309, [.nilFunc]), (310, [.int .u64 0, .int .u64 0]), (311, [.int .u64 0, .int .u64 0]), (313, [.nilFunc]), (314, [.nilFunc]), (315, [.nilFunc]), (316, [.nilFunc]), (317, [.nilFunc]), (318, [.nilFunc]), (319, [.nilFunc]), (320, [.nilFunc]), (322, [.nilFunc]), (323, [.nilFunc]), (324, [.nilFunc]), (325, [.nilFunc]), (326, [.nilFunc]), (328, [.nilFunc]), (329, [.nilFunc]), (330, [.nilFunc]), (331, [.nilFunc]), (332, [.nilFunc]), (333, [.nilIface]), (334, [.nilIface]), (335, [.pointer none]), (336, [.nilFunc]), (337, [.pointer none, .pointer none, .pointer none, .string ByteArray.empty]), (338, [.pointer none, .pointer none, .pointer none, .string ByteArray.empty]), (339, []), (340, []), (341, []), (342, [.int .u8 0]), (343, [.int .u8 0]), (344, [.nilFunc]), (345, [.pointer none]), (346, [.int .i32 0]), (347, [.int .i32 0]), (348, [.int .u64 0, .int .u64 0, .int .u32 0, .int .u8 0, .int .u8 0, .int .u8 0, .int .u8 0, .nilFunc, .pointer none, .int .i32 0, .int .i32 0]), (349, [.int .u64 0, .int .u64 0, .int .u32 0, .int .u8 0, .int .u8 0, .int .u8 0, .int .u8 0, .nilFunc, .pointer none, .int .i32 0, .int .i32 0]), (350, [.string ByteArray.empty]), (351, [.string ByteArray.empty]), (352, [.pointer none])]
 n7 := [(7, [(0, 0), (1, 1), (2, 2), (3, 3)]), (8, [(0, 0), (1, 1), (2, 2), (3, 3)]), (13, [(0, 0), (1, 1)]), (14, [(0, 0), (1, 1)]), (18, [(0, 0)]), (19, [(0, 0)]), (33, [(0, 0), (1, 1), (2, 2), (3, 3), (4, 4), (5, 5), (6, 6), (7, 7), (8, 8), (9, 9), (10, 10)]), (34, [(0, 0), (1, 1), (2, 2), (3, 3), (4, 4), (5, 5), (6, 6), (7, 7), (8, 8), (9, 9), (10, 10)]), (44, [(0, 0), (1, 1), (2, 2), (3, 3), (4, 4), (5, 5), (6, 6), (7, 7), (8, 8), (9, 9)]), (45, [(0, 0), (1, 1), (2, 2), (3, 3), (4, 4), (5, 5), (6, 6), (7, 7), (8, 8), (9, 9)]), (49, [(0, 0), (1, 1)]), (50, [(0, 0), (1, 1)]), (52, [(0, 0), (1, 1)]), (53, [(0, 0), (1, 1)]), (54, [(0, 0), (1, 1)]), (55, [(0, 0), (1, 1)]), (58, [(0, 0), (1, 1)]), (59, [(0, 0), (1, 1)]), (61, [(0, 0), (1, 1)]), (62, [(0, 0), (1, 2), (2, 4)]), (63, [(0, 0), (1, 2), (2, 4)]), (64, [(0, 0), (1, 1)]), (91, [(0, 0), (1, 2), (2, 4)]), (97, [(0, 0), (1, 1), (2, 11), (3, 12)]), (98, [(0, 0), (1, 1), (2, 11), (3, 12)]), (109, [(0, 0), (1, 1)]), (110, [(0, 0), (1, 1)]), (111, [(0, 0), (1, 2)]), (112, [(0, 0), (1, 2)]), (113, [(0, 0), (1, 4), (2, 8)]), (114, [(0, 0), (1, 4), (2, 8)]), (121, [(0, 0), (1, 1), (2, 5), (3, 9), (4, 11)]), (122, [(0, 0), (1, 1), (2, 5), (3, 9), (4, 11)]), (138, [(0, 0)]), (139, [(0, 0)]), (140, [(0, 0), (1, 1)]), (141, [(0, 0), (1, 1)]), (158, [(0, 0), (1, 1)]), (159, [(0, 0), (1, 1)]), (160, [(0, 0), (1, 2)]), (161, [(0, 0), (1, 2)]), (162, [(0, 0), (1, 1), (2, 5), (3, 9), (4, 11)]), (163, [(0, 0), (1, 1), (2, 5), (3, 9), (4, 11)]), (166, [(0, 0), (1, 2)]), (167, [(0, 0), (1, 2)]), (215, [(0, 0), (1, 2)]), (216, [(0, 0), (1, 2)]), (260, [(0, 0), (1, 2)]), (261, [(0, 0), (1, 2)]), (265, [(0, 0), (1, 4)]), (266, [(0, 0), (1, 4)]), (279, [(0, 0), (1, 2), (2, 4), (3, 5)]), (280, [(0, 0), (1, 2), (2, 4), (3, 5)]), (281, [(0, 0), (1, 1), (2, 2)]), (282, [(0, 0), (1, 1), (2, 2)]), (283, [(0, 0), (1, 2), (2, 4), (3, 7)]), (284, [(0, 0), (1, 2), (2, 4), (3, 7)]), (306, [(0, 0), (1, 2)]), (307, [(0, 0), (1, 2)]), (310, [(0, 0), (1, 1)]), (311, [(0, 0), (1, 1)]), (337, [(0, 0), (1, 1), (2, 2), (3, 3)]), (338, [(0, 0), (1, 1), (2, 2), (3, 3)]), (348, [(0, 0), (1, 1), (2, 2), (3, 3), (4, 4), (5, 5), (6, 6), (7, 7), (8, 8), (9, 9), (10, 10)]), (349, [(0, 0), (1, 1), (2, 2), (3, 3), (4, 4), (5, 5), (6, 6), (7, 7), (8, 8), (9, 9), (10, 10)]), (350, [(0, 0)]), (351, [(0, 0)])]
 ny := [(23, 2, 1), (73, 2, 2), (88, 4, 1), (104, 4, 1), (126, 6, 1), (202, 6, 1), (287, 4, 1), (339, 0, 1)]
 iU := [(7, [(0, 1), (1, 1), (2, 1), (3, 1)]), (8, [(0, 1), (1, 1), (2, 1), (3, 1)]), (13, [(0, 1), (1, 1)]), (14, [(0, 1), (1, 1)]), (18, [(0, 1)]), (19, [(0, 1)]), (23, [(0, 1), (1, 1)]), (33, [(0, 1), (1, 1), (2, 1), (3, 1), (4, 1), (5, 1), (6, 1), (7, 1), (8, 1), (9, 1), (10, 1)]), (34, [(0, 1), (1, 1), (2, 1), (3, 1), (4, 1), (5, 1), (6, 1), (7, 1), (8, 1), (9, 1), (10, 1)]), (44, [(0, 1), (1, 1), (2, 1), (3, 1), (4, 1), (5, 1), (6, 1), (7, 1), (8, 1), (9, 1)]), (45, [(0, 1), (1, 1), (2, 1), (3, 1), (4, 1), (5, 1), (6, 1), (7, 1), (8, 1), (9, 1)]), (49, [(0, 1), (1, 1)]), (50, [(0, 1), (1, 1)]), (52, [(0, 1), (1, 1)]), (53, [(0, 1), (1, 1)]), (54, [(0, 1), (1, 1)]), (55, [(0, 1), (1, 1)]), (58, [(0, 1), (1, 1)]), (59, [(0, 1), (1, 1)]), (61, [(0, 1), (1, 1)]), (62, [(0, 2), (2, 2), (4, 1)]), (63, [(0, 2), (2, 2), (4, 1)]), (64, [(0, 1), (1, 1)]), (73, [(0, 2), (2, 2)]), (88, [(0, 1), (1, 1), (2, 1), (3, 1)]), (91, [(0, 2), (2, 2), (4, 1)]), (97, [(0, 1), (1, 10), (11, 1), (12, 1)]), (98, [(0, 1), (1, 10), (11, 1), (12, 1)]), (104, [(0, 1), (1, 1), (2, 1), (3, 1)]), (109, [(0, 1), (1, 1)]), (110, [(0, 1), (1, 1)]), (111, [(0, 2), (2, 2)]), (112, [(0, 2), (2, 2)]), (113, [(0, 4), (4, 4), (8, 1)]), (114, [(0, 4), (4, 4), (8, 1)]), (121, [(0, 1), (1, 4), (5, 4), (9, 2), (11, 2)]), (122, [(0, 1), (1, 4), (5, 4), (9, 2), (11, 2)]), (126, [(0, 1), (1, 1), (2, 1), (3, 1), (4, 1), (5, 1)]), (138, [(0, 1)]), (139, [(0, 1)]), (140, [(0, 1), (1, 1)]), (141, [(0, 1), (1, 1)]), (158, [(0, 1), (1, 1)]), (159, [(0, 1), (1, 1)]), (160, [(0, 2), (2, 2)]), (161, [(0, 2), (2, 2)]), (162, [(0, 1), (1, 4), (5, 4), (9, 2), (11, 2)]), (163, [(0, 1), (1, 4), (5, 4), (9, 2), (11, 2)]), (166, [(0, 2), (2, 2)]), (167, [(0, 2), (2, 2)]), (202, [(0, 1), (1, 1), (2, 1), (3, 1), (4, 1), (5, 1)]), (215, [(0, 2), (2, 2)]), (216, [(0, 2), (2, 2)]), (260, [(0, 2), (2, 1)]), (261, [(0, 2), (2, 1)]), (265, [(0, 4), (4, 1)]), (266, [(0, 4), (4, 1)]), (279, [(0, 2), (2, 2), (4, 1), (5, 1)]), (280, [(0, 2), (2, 2), (4, 1), (5, 1)]), (281, [(0, 1), (1, 1), (2, 1)]), (282, [(0, 1), (1, 1), (2, 1)]), (283, [(0, 2), (2, 2), (4, 3), (7, 3)]), (284, [(0, 2), (2, 2), (4, 3), (7, 3)]), (287, [(0, 1), (1, 1), (2, 1), (3, 1)]), (306, [(0, 2), (2, 2)]), (307, [(0, 2), (2, 2)]), (310, [(0, 1), (1, 1)]), (311, [(0, 1), (1, 1)]), (337, [(0, 1), (1, 1), (2, 1), (3, 1)]), (338, [(0, 1), (1, 1), (2, 1), (3, 1)]), (340, [(0, 0)]), (341, [(0, 0)]), (348, [(0, 1), (1, 1), (2, 1), (3, 1), (4, 1), (5, 1), (6, 1), (7, 1), (8, 1), (9, 1), (10, 1)]), (349, [(0, 1), (1, 1), (2, 1), (3, 1), (4, 1), (5, 1), (6, 1), (7, 1), (8, 1), (9, 1), (10, 1)]), (350, [(0, 1)]), (351, [(0, 1)])]
theorem xo {α β : Type} {g h : α → β} : ∀ l : List α, l.map g = l.map h → lN (fun p => g p = h p) l
 | [], _ => trivial
 | a :: l, e => by
  rw [k5, k5, List.cons.injEq] at e;exact ⟨e.1, xo l e.2⟩
theorem LJ {α β γ : Type} {k : α → List γ} {g h : α → γ → β} : ∀ l : List α, (l.map fun p => (k p).map (g p)) = (l.map fun p => (k p).map (h p)) → lN (fun p => lN (fun q => g p q = h p q) (k p)) l
 | [], _ => trivial
 | a :: l, e => by
  rw [k5, k5, List.cons.injEq] at e;exact ⟨xo _ e.1, LJ l e.2⟩
theorem agS : lN (fun p => kI aj p.1 = some p.2) tab.ty := xo _ (by kernel_rfl)
theorem agT : lN (fun p => zeroOf aj p.1 = some p.2) tab.zero := xo _ (by kernel_rfl)
theorem agP : lN (fun p => CI aj p.1 = some p.2) tab.ny := xo _ (by kernel_rfl)
theorem agR : lN (fun p => Fb aj p.1 = some p.2) tab.iU := xo _ (by kernel_rfl)
theorem agQ : lN (fun p => lN (fun q => ug aj p.1 q.1 = some q.2) p.2) tab.n7 := LJ _ (by kernel_rfl)
instance : Gk aj tab := ⟨agS, agT, agQ, agP, agR⟩
end Go.Proofs.YtpochbhajmbfdaaGreat
namespace Go.Proofs.YtpochbhajmbfdaaGreat
open Go.RowKit
section
variable {P : Program} {s : aE} {ops : Array Oper} {K : aE → Prop} {rest : List Oper} {ty : Nat} {pos : String} {after : Array Edge} {guard : Option (Nat × Bool)} {d : Nat}
theorem LG {de : Nat} {x : Operand} {k : IntKind} {a c : Int} (hw : want ops ⟨some d, .unOp .neg de x, ty, pos, after, guard⟩ s = some true) (aa : s.look x = some (aU (.int k a))) (ak : k.wrap (-a) = c) (hd : Nat.blt d s.n = true) (h : bj P ops K rest (s.put (some d) (aU (.int k c)))) : bj P ops K (⟨some d, .unOp .neg de x, ty, pos, after, guard⟩ :: rest) s := by
 refine Vd hw aa (fun W => ?_) rfl hd h;rw [← ak, show -a = 0 - a by omega];cases k <;> rfl
end
abbrev jw (l1 l2 h1 h2 : Int) : ai := .w (.agg [.c (.int .i64 l1), .c (.int .i64 l2), .c (.int .i64 h1), .c (.int .i64 h2)])
def ed (a b c d : Int) : Bool := decide (a = c) && decide (b = d)
theorem sx {a b c d : Int} : ed a b c d = true ↔ a = c ∧ b = d := by unfold ed; rw [eh, cL, cL]
def vN (a b c d a' bR c' d' : Int) : Bool := ed a b a' bR && ed c d c' d'
class Ca (P : Program) (t : TypeId) : Prop where
 g : P.eqGuardType P.depth t = false
 h : ∀ (a b c d : Int) W, (Op.equalIn 10000 t (.agg #[.int .i64 a, .int .i64 b]) (.agg #[.int .i64 c, .int .i64 d])).run P W = .ok (ed a b c d) W
class KQ (P : Program) (t : TypeId) : Prop where
 g : P.eqGuardType P.depth t = false
 h : ∀ (a b c d a' bR c' d' : Int) W, (Op.equalIn 10000 t (.agg #[.int .i64 a, .int .i64 b, .int .i64 c, .int .i64 d]) (.agg #[.int .i64 a', .int .i64 bR, .int .i64 c', .int .i64 d'])).run P W = .ok (vN a b c d a' bR c' d') W
theorem Dg {P : Program} {op : BinOp} {t : TypeId} {x y : Operand} {u v : Array Value} {W : World} (ax : P.eqGuardType P.depth t = false) : (eqGuard op t x y (.agg u) (.agg v)).run P W = .ok () W := by
 unfold eqGuard;cases op <;> first | rfl | simp [Sem.run_bind, program, Sem.run, Result.andThen, ax]
section
variable {P : Program} {s : aE} {ops : Array Oper} {K : aE → Prop} {rest : List Oper} {ty : Nat} {pos : String} {after : Array Edge} {guard : Option (Nat × Bool)} {d : Nat}
theorem xm {t dY : Nat} {x y : Operand} {a b a' bR : Int} [E : Ca P t] (hw : want ops ⟨some d, .binOp .eql t x y dY, ty, pos, after, guard⟩ s = some true) (aa : s.look x = some (bi a b)) (ag : s.look y = some (bi a' bR)) (hd : Nat.blt d s.n = true) (h : bj P ops K rest (s.put (some d) (bG (ed a b a' bR)))) : bj P ops K (⟨some d, .binOp .eql t x y dY, ty, pos, after, guard⟩ :: rest) s :=
 si hw aa ag rfl rfl (fun W => Dg E.g) (fun W => by rw [run_eql_struct, E.h]; rfl) rfl hd h
theorem zg {t dY : Nat} {x y : Operand} {a b a' bR : Int} [E : Ca P t] (hw : want ops ⟨some d, .binOp .neq t x y dY, ty, pos, after, guard⟩ s = some true) (aa : s.look x = some (bi a b)) (ag : s.look y = some (bi a' bR)) (hd : Nat.blt d s.n = true) (h : bj P ops K rest (s.put (some d) (bG (!ed a b a' bR)))) : bj P ops K (⟨some d, .binOp .neq t x y dY, ty, pos, after, guard⟩ :: rest) s :=
 si hw aa ag rfl rfl (fun W => Dg E.g) (fun W => by rw [run_neq_struct, E.h]; rfl) rfl hd h
theorem UL {t dY : Nat} {x y : Operand} {a b c e a' bR c' bu : Int} [E : KQ P t] (hw : want ops ⟨some d, .binOp .eql t x y dY, ty, pos, after, guard⟩ s = some true) (aa : s.look x = some (jw a b c e)) (ag : s.look y = some (jw a' bR c' bu)) (hd : Nat.blt d s.n = true) (h : bj P ops K rest (s.put (some d) (bG (vN a b c e a' bR c' bu)))) : bj P ops K (⟨some d, .binOp .eql t x y dY, ty, pos, after, guard⟩ :: rest) s :=
 si hw aa ag rfl rfl (fun W => Dg E.g) (fun W => by rw [run_eql_struct, E.h]; rfl) rfl hd h
end
theorem Xg (a b c d : Int) (W : World) : (Op.equalIn 10000 59 (.agg #[.int .i64 a, .int .i64 b]) (.agg #[.int .i64 c, .int .i64 d])).run aj W = .ok (ed a b c d) W := by
 unfold ed
 go_simp
 by_cases h1 : a = c <;> by_cases h2 : b = d <;> simp [h1, h2]
instance ajk : Ca aj 59 := ⟨by kernel_rfl, Xg⟩
theorem Xf (a b c d : Int) (W : World) : (Op.equalIn 10000 61 (.agg #[.int .i64 a, .int .i64 b]) (.agg #[.int .i64 c, .int .i64 d])).run aj W = .ok (ed a b c d) W := by
 unfold ed
 go_simp
 by_cases h1 : a = c <;> by_cases h2 : b = d <;> simp [h1, h2]
instance ajl : Ca aj 61 := ⟨by kernel_rfl, Xf⟩
end Go.Proofs.YtpochbhajmbfdaaGreat
