/-
  The steps of a walk over states without addresses. My own text.
-/
import Derived.Test.YtpopeipcjpfbaaaAbsM
import Derived.Tactics
import Derived.IntWalk
namespace Go.Proofs.Ytpopeipcjpfbaaa
open Go.RowKit
set_option linter.unusedVariables false
set_option linter.unusedSimpArgs false
abbrev vC (v : Value) : AV := .w (.one (.c v))
abbrev vI (n : Int) : AV := vC (.int .i64 n)
abbrev vB (b : Bool) : AV := vC (.bool b)
abbrev vO (k off : Nat) : AV := .w (.one (.own k off))
def tyOf (P : Program) (ty : TypeId) : Option (Bool × Nat) :=
  match P.underlying ty, P.info? ty with
  | some (.struct _), some i | some (.array _ _), some i => some (true, i.size)
  | some _, some i => some (false, i.size)
  | _, _ => none
class TyOf (P : Program) (ty : TypeId) (agg : outParam Bool) (n : outParam Nat) : Prop where
  h : tyOf P ty = some (agg, n)
def zeroOf (P : Program) (ty : TypeId) : Option (List Value) := ((P.info? ty).bind (·.zero)).map fun z => z.cells.toList
class ZeroOf (P : Program) (ty : TypeId) (vs : outParam (List Value)) : Prop where
  h : zeroOf P ty = some vs
def fldOf (P : Program) (ty : TypeId) (i : Nat) : Option Nat :=
  match P.underlying ty with
  | some (.struct fs) => (fs[i]?).bind fun f => (P.info? f.type).bind fun t => if t.size = 0 then none else some f.offset
  | _ => none
class FldOf (P : Program) (ty : TypeId) (i : Nat) (off : outParam Nat) : Prop where
  h : fldOf P ty i = some off
def arrOf (P : Program) (ty : TypeId) : Option (Nat × Nat) :=
  match P.underlying ty with
  | some (.array n e) => (P.info? e).map fun t => (n, t.size)
  | _ => none
class ArrOf (P : Program) (ty : TypeId) (n size : outParam Nat) : Prop where
  h : arrOf P ty = some (n, size)
def sliOf (P : Program) (ty : TypeId) : Option Nat :=
  match P.underlying ty with
  | some (.slice e) => (P.info? e).map fun t => t.size
  | _ => none
class SliOf (P : Program) (ty : TypeId) (size : outParam Nat) : Prop where
  h : sliOf P ty = some size
def plcOf (P : Program) (ty : TypeId) : Option (List (Nat × Nat)) :=
  match P.underlying ty with
  | some (.struct fs) => fs.toList.mapM fun f => (P.info? f.type).map fun t => (f.offset, t.size)
  | some (.array n e) => bif Nat.ble n 32 then (P.info? e).map fun t => (List.range n).map fun i => (i * t.size, t.size) else none
  | _ => none
class PlcOf (P : Program) (ty : TypeId) (ps : outParam (List (Nat × Nat))) : Prop where
  h : plcOf P ty = some ps
class IntTy (P : Program) (ty : TypeId) (k : outParam IntKind) : Prop where
  h : P.underlying ty = some (.int k)
class Enters (P : Program) (f : FuncId) : Prop where
  h : enters P f = true
def takeN : List AC → Nat → Nat → Option (List AC)
  | _, 0, 0 => some []
  | [], _, _ => none
  | c :: cs, 0, n + 1 => match takeN cs 0 n with
    | some r => some (c :: r)
    | none => none
  | _ :: cs, off + 1, n => takeN cs off n
def putN : List AC → Nat → List AC → Option (List AC)
  | cs, 0, [] => some cs
  | [], _, _ => none
  | _ :: cs, 0, d :: ds => match putN cs 0 ds with
    | some r => some (d :: r)
    | none => none
  | c :: cs, off + 1, ds => match putN cs off ds with
    | some r => some (c :: r)
    | none => none
theorem takeN_spec : ∀ (cs : List AC) (off n : Nat) (r : List AC), takeN cs off n = some r → off + n ≤ cs.length ∧ (cs.drop off).take n = r
  | cs, 0, 0, r, h => by
    cases cs <;> (simp only [takeN, Option.some.injEq] at h; subst h; simp)
  | [], 0, n + 1, r, h => by simp [takeN] at h
  | [], off + 1, n, r, h => by cases n <;> simp [takeN] at h
  | c :: cs, 0, n + 1, r, h => by
    simp only [takeN] at h
    split at h
    · rename_i r' hr
      cases h
      have := takeN_spec cs 0 n r' hr
      simp at this ⊢
      exact this
    · cases h
  | c :: cs, off + 1, n, r, h => by
    have h' : takeN cs off n = some r := by cases n <;> simpa [takeN] using h
    have := takeN_spec cs off n r h'
    exact ⟨by have := this.1; simp; omega, by simpa using this.2⟩
theorem putN_spec : ∀ (cs : List AC) (off : Nat) (ds : List AC) (r : List AC), putN cs off ds = some r → off + ds.length ≤ cs.length ∧ splice cs off ds = r
  | cs, 0, [], r, h => by
    cases cs <;> (simp only [putN, Option.some.injEq] at h; subst h; simp [splice])
  | [], 0, d :: ds, r, h => by simp [putN] at h
  | [], off + 1, ds, r, h => by cases ds <;> simp [putN] at h
  | c :: cs, 0, d :: ds, r, h => by
    simp only [putN] at h
    split at h
    · rename_i r' hr
      cases h
      have := putN_spec cs 0 ds r' hr
      simp [splice] at this ⊢
      exact this
    · cases h
  | c :: cs, off + 1, ds, r, h => by
    simp only [putN] at h
    split at h
    · rename_i r' hr
      cases h
      have := putN_spec cs off ds r' hr
      simp [splice, Nat.add_right_comm] at this ⊢
      exact this
    · cases h
section
variable {P : Program} {s s' : AS} {o : Oper} {ops : Array Oper} {rest : List Oper} {K : AS → Prop}
theorem al_nil (h : K s) : aList P ops K [] s := h
theorem al_nilS {prs : List (Nat × Nat)} (hs : prs.all (sepB s) = true) (h : K s) : aList P ops (fun s => prs.all (sepB s) = true ∧ K s) [] s := ⟨hs, h⟩
theorem al_step {e : Eff} (hw : want ops o s = some true) (he : AEff P s.n s.look s.mem o true e) (hd : ∀ d, o.dst = some d → d < s.n) (h : aList P ops K rest (e.on o.dst s)) : aList P ops K (o :: rest) s := ⟨true, hw, e, he, hd, h⟩
section
variable {d ty : Nat} {op : Op} {pos : String} {after : Array Edge} {guard : Option (Nat × Bool)}
theorem dst_ok {d : Nat} (hd : Nat.blt d s.n = true) : ∀ d', some d = some d' → d' < s.n := fun d' e => by cases e; simpa [Nat.blt_eq] using hd
theorem al_pass {dst : Option Nat} (hw : want ops ⟨dst, op, ty, pos, after, guard⟩ s = some false) (hd : ∀ d, dst = some d → Nat.blt d s.n = true) (h : aList P ops K rest (s.put dst (.tup []))) : aList P ops K (⟨dst, op, ty, pos, after, guard⟩ :: rest) s :=
  ⟨false, hw, _, .skip, fun d e => by have := hd d e; simpa [Nat.blt_eq] using this, h⟩
theorem al_quiet {av : AV} (hw : want ops ⟨some d, op, ty, pos, after, guard⟩ s = some true) (hq : QuietOK P s.look ⟨some d, op, ty, pos, after, guard⟩ av) (hd : Nat.blt d s.n = true) (h : aList P ops K rest (s.put (some d) av)) : aList P ops K (⟨some d, op, ty, pos, after, guard⟩ :: rest) s :=
  al_step hw (.quiet av hq) (dst_ok hd) h
theorem al_move {x : Operand} {av : AV} (hw : want ops ⟨some d, .move x, ty, pos, after, guard⟩ s = some true) (hx : s.look x = some av) (hd : Nat.blt d s.n = true) (h : aList P ops K rest (s.put (some d) av)) : aList P ops K (⟨some d, .move x, ty, pos, after, guard⟩ :: rest) s := by
  refine al_quiet hw ⟨fun _ _ h => (by cases h), fun y hy => ?_, fun U ρ W env he => ⟨env x, rfl, he x (by simp [Op.operands]) av hx⟩, fun j hj => ⟨x, by simp [Op.operands], av, hx, hj⟩⟩ hd h
  simp [Op.operands] at hy
  subst hy
  exact ⟨av, hx⟩
theorem al_assign {x : Operand} {av : AV} (hw : want ops ⟨some d, .assign x, ty, pos, after, guard⟩ s = some true) (hx : s.look x = some av) (hd : Nat.blt d s.n = true) (h : aList P ops K rest (s.put (some d) av)) : aList P ops K (⟨some d, .assign x, ty, pos, after, guard⟩ :: rest) s := by
  refine al_quiet hw ⟨fun _ _ h => (by cases h), fun y hy => ?_, fun U ρ W env he => ⟨env x, rfl, he x (by simp [Op.operands]) av hx⟩, fun j hj => ⟨x, by simp [Op.operands], av, hx, hj⟩⟩ hd h
  simp [Op.operands] at hy
  subst hy
  exact ⟨av, hx⟩
theorem al_extract {x : Operand} {i : Nat} {xs : List AW} {y : AW} (hw : want ops ⟨some d, .extract x i, ty, pos, after, guard⟩ s = some true) (hx : s.look x = some (.tup xs)) (hi : xs[i]? = some y) (hd : Nat.blt d s.n = true) (h : aList P ops K rest (s.put (some d) (.w y))) : aList P ops K (⟨some d, .extract x i, ty, pos, after, guard⟩ :: rest) s := by
  refine al_quiet (av := .w y) hw ⟨fun _ _ h => (by cases h), fun y hy => ?_, fun U ρ W env he => ?_, fun j hj => ⟨x, by simp [Op.operands], _, hx, ⟨y, List.mem_of_getElem? hi, hj⟩⟩⟩ hd h
  · simp [Op.operands] at hy
    subst hy
    exact ⟨_, hx⟩
  · obtain ⟨vs, e, hl, hv⟩ := he x (by simp [Op.operands]) _ hx
    have hlt : i < vs.length := by rw [← hl]; exact (List.getElem?_eq_some_iff.1 hi).1
    refine ⟨vs[i], ?_, hv i y _ hi (List.getElem?_eq_getElem hlt)⟩
    simp only [execOp, Instr.extract, e]
    simp [hlt]
theorem run_underlying'' {t : TypeId} {D : TypeDesc} {W : World} (h : P.underlying t = some D) : (underlying t).run P W = .ok D W := run_underlying h W
theorem al_fld {x : Operand} {sty i k off fo : Nat} [F : FldOf P sty i fo] (hw : want ops ⟨some d, .fieldAddr sty x i, ty, pos, after, guard⟩ s = some true) (hx : s.look x = some (vO k off)) (hd : Nat.blt d s.n = true) (h : aList P ops K rest (s.put (some d) (vO k (off + fo)))) : aList P ops K (⟨some d, .fieldAddr sty x i, ty, pos, after, guard⟩ :: rest) s := by
  refine al_quiet hw ⟨fun _ _ h => (by cases h), fun y hy => ?_, fun U ρ W env he => ?_, fun j hj => ⟨x, by simp [Op.operands], _, hx, ?_⟩⟩ hd h
  · simp [Op.operands] at hy
    subst hy
    exact ⟨_, hx⟩
  · have hp : env x = .pointer (some ⟨ρ k, off, none⟩) := he x (by simp [Op.operands]) _ hx
    have hF := F.h
    unfold fldOf at hF
    split at hF
    · rename_i fs hu
      cases hf : fs[i]? with
      | none => rw [hf] at hF; cases hF
      | some f =>
        rw [hf] at hF
        simp only [Option.bind_some] at hF
        cases hi : P.info? f.type with
        | none => rw [hi] at hF; cases hF
        | some t =>
          rw [hi] at hF
          simp only [Option.bind_some] at hF
          split at hF
          · cases hF
          · rename_i hne
            cases hF
            refine ⟨.pointer (some ⟨ρ k, off + f.offset, none⟩), ?_, rfl⟩
            have hadd : (⟨ρ k, off, none⟩ : Addr).add f.offset = ⟨ρ k, off + f.offset, none⟩ := by unfold Addr.add; split <;> simp_all
            simp only [execOp, Instr.fieldAt, hp, Instr.sureAddr, Sem.run_bind, Sem.run_pure, Result.andThen_ok, run_underlying hu, hf, fieldPlace, run_sizeOf' hi, if_neg hne, hadd]
    · cases hF
  · obtain ⟨y, hy, hyj⟩ := hj
    exact ⟨.own k off, by simp [AW.cells], by simp [AW.cells] at hy; subst hy; exact hyj⟩
theorem al_idx {x y : Operand} {aty k off n size : Nat} {ik : IntKind} {i : Int} [A : ArrOf P aty n size] (hw : want ops ⟨some d, .indexAddr aty x y, ty, pos, after, guard⟩ s = some true) (hx : s.look x = some (vO k off)) (hy : s.look y = some (vC (.int ik i))) (h0 : 0 ≤ i) (h1 : i < n) (hd : Nat.blt d s.n = true) (h : aList P ops K rest (s.put (some d) (vO k (off + i.toNat * size)))) : aList P ops K (⟨some d, .indexAddr aty x y, ty, pos, after, guard⟩ :: rest) s := by
  refine al_quiet hw ⟨fun _ _ h => (by cases h), fun z hz => ?_, fun U ρ W env he => ?_, fun j hj => ⟨x, by simp [Op.operands], _, hx, ?_⟩⟩ hd h
  · simp [Op.operands] at hz
    rcases hz with rfl | rfl
    · exact ⟨_, hx⟩
    · exact ⟨_, hy⟩
  · have hp : env x = .pointer (some ⟨ρ k, off, none⟩) := he x (by simp [Op.operands]) _ hx
    have hi : env y = .int ik i := (he y (by simp [Op.operands]) _ hy).1
    have hA := A.h
    unfold arrOf at hA
    split at hA
    · rename_i n' e hu
      cases hi' : P.info? e with
      | none => rw [hi'] at hA; cases hA
      | some t =>
        rw [hi'] at hA
        cases hA
        refine ⟨.pointer (some ⟨ρ k, off + i.toNat * t.size, none⟩), ?_, rfl⟩
        have hadd : (⟨ρ k, off, none⟩ : Addr).add (i.toNat * t.size) = ⟨ρ k, off + i.toNat * t.size, none⟩ := by unfold Addr.add; split <;> simp_all
        simp only [execOp, Instr.indexAt, hp, hi, asIntOf, Instr.sureAddr, Sem.run_bind, Sem.run_pure, Result.andThen_ok, run_underlying hu, run_sizeOf' hi', if_pos (And.intro h0 h1), hadd]
    · cases hA
  · obtain ⟨y, hy, hyj⟩ := hj
    exact ⟨.own k off, by simp [AW.cells], by simp [AW.cells] at hy; subst hy; exact hyj⟩
theorem tyOf_one {ty n : Nat} (h : tyOf P ty = some (false, n)) {cs : List AC} {off : Nat} {y : AC} (hc : cs[off]? = some y) : pick P ty cs off = some (.one y) := by
  unfold tyOf at h
  unfold pick
  cases hu : P.underlying ty with
  | none => rw [hu] at h; cases h
  | some D =>
    cases hi : P.info? ty with
    | none => rw [hu, hi] at h; cases D <;> cases h
    | some i =>
      rw [hu, hi] at h
      cases D <;> first | (simp only [hc, Option.map_some]; done) | (exfalso; cases h)
theorem tyOf_agg {ty n : Nat} (h : tyOf P ty = some (true, n)) {cs ys : List AC} {off : Nat} (hc : takeN cs off n = some ys) : pick P ty cs off = some (.agg ys) := by
  obtain ⟨h1, h2⟩ := takeN_spec _ _ _ _ hc
  unfold tyOf at h
  unfold pick
  split at h
  · rename_i i hu hi; cases h; simp only [hu, hi, Option.bind_some, if_pos h1, h2]
  · rename_i i hu hi; cases h; simp only [hu, hi, Option.bind_some, if_pos h1, h2]
  · cases h
  · cases h
theorem tyOf_info {ty n : Nat} {b : Bool} (h : tyOf P ty = some (b, n)) : ∃ i, P.info? ty = some i ∧ i.size = n := by
  unfold tyOf at h
  split at h
  · rename_i i hu hi; cases h; exact ⟨i, hi, rfl⟩
  · rename_i i hu hi; cases h; exact ⟨i, hi, rfl⟩
  · rename_i i _ _ hu hi; cases h; exact ⟨_, hi, rfl⟩
  · cases h
theorem al_load1 {x : Operand} {lt k off n : Nat} {cs : List AC} {y : AC} [T : TyOf P lt false n] (hw : want ops ⟨some d, .load lt x, ty, pos, after, guard⟩ s = some true) (hx : s.look x = some (vO k off)) (hm : s.mem k = some cs) (hc : cs[off]? = some y) (hd : Nat.blt d s.n = true) (h : aList P ops K rest (s.put (some d) (.w (.one y)))) : aList P ops K (⟨some d, .load lt x, ty, pos, after, guard⟩ :: rest) s :=
  al_step hw (.load lt x k off cs _ rfl hx hm (tyOf_one T.h hc)) (dst_ok hd) h
theorem al_loadN {x : Operand} {lt k off n : Nat} {cs ys : List AC} [T : TyOf P lt true n] (hw : want ops ⟨some d, .load lt x, ty, pos, after, guard⟩ s = some true) (hx : s.look x = some (vO k off)) (hm : s.mem k = some cs) (hc : takeN cs off n = some ys) (hd : Nat.blt d s.n = true) (h : aList P ops K rest (s.put (some d) (.w (.agg ys)))) : aList P ops K (⟨some d, .load lt x, ty, pos, after, guard⟩ :: rest) s :=
  al_step hw (.load lt x k off cs _ rfl hx hm (tyOf_agg T.h hc)) (dst_ok hd) h
theorem al_store {x y : Operand} {st k off n : Nat} {b : Bool} {cs ds : List AC} {z : AW} [T : TyOf P st b n] (hw : want ops ⟨none, .store st x y, ty, pos, after, guard⟩ s = some true) (hx : s.look x = some (vO k off)) (hy : s.look y = some (.w z)) (hm : s.mem k = some cs) (hn : Nat.beq n z.cells.length = true) (hp : putN cs off z.cells = some ds) (h : aList P ops K rest (s.setm k ds)) : aList P ops K (⟨none, .store st x y, ty, pos, after, guard⟩ :: rest) s := by
  obtain ⟨i, hi, hs⟩ := tyOf_info T.h
  obtain ⟨h1, h2⟩ := putN_spec _ _ _ _ hp
  refine al_step hw (.store st x y k off cs z i rfl hx hy hm hi (by rw [hs]; exact Nat.eq_of_beq_eq_true hn) h1) (fun d e => by cases e) ?_
  simp only [Eff.on, h2]
  exact h
theorem al_alloc {at' : Nat} {vs : List Value} [Z : ZeroOf P at' vs] (hw : want ops ⟨some d, .alloc at', ty, pos, after, guard⟩ s = some true) (hm : s.mem d = none) (h1 : (vs.all fun v => v.oneCell') = true) (hd : Nat.blt d s.n = true) (h : aList P ops K rest ((s.setm d (vs.map .c)).put (some d) (vO d 0))) : aList P ops K (⟨some d, .alloc at', ty, pos, after, guard⟩ :: rest) s := by
  have hz := Z.h
  unfold zeroOf at hz
  cases hi : P.info? at' with
  | none => rw [hi] at hz; cases hz
  | some i =>
    rw [hi] at hz
    simp only [Option.bind_some] at hz
    cases hzz : i.zero with
    | none => rw [hzz] at hz; cases hz
    | some z =>
      rw [hzz] at hz
      cases hz
      exact al_step hw (.new _ d rfl hm (.alloc at' i z _ rfl hi hzz rfl h1)) (dst_ok hd) h
theorem al_box {bt : Nat} {x : Operand} {z : AW} (hw : want ops ⟨some d, .box bt x, ty, pos, after, guard⟩ s = some true) (hx : s.look x = some (.w z)) (hm : s.mem d = none) (hd : Nat.blt d s.n = true) (h : aList P ops K rest ((s.setm d z.cells).put (some d) (vO d 0))) : aList P ops K (⟨some d, .box bt x, ty, pos, after, guard⟩ :: rest) s :=
  al_step hw (.new _ d rfl hm (.box bt x z rfl hx)) (dst_ok hd) h
/-- exact operands. -/
def exactL : List AC → Option (List Value)
  | [] => some []
  | .c v :: xs => match exactL xs with
    | some r => some (v :: r)
    | none => none
  | _ :: _ => none
def exactW : AW → Option Value
  | .one (.c v) => some v
  | .one _ => none
  | .agg xs => match exactL xs with
    | some r => some (.agg r.toArray)
    | none => none
theorem exactL_sound {U : Nat → Prop} {ρ : Nat → Nat} {W : World} : ∀ (xs : List AC) (vs r : List Value), RpL U ρ W xs vs → exactL xs = some r → vs = r
  | [], vs, r, h, he => by cases he; have := h.1; exact List.eq_nil_of_length_eq_zero this.symm
  | .c v :: xs, vs, r, h, he => by
    simp only [exactL] at he
    split at he
    · rename_i r' hr
      cases he
      cases vs with
      | nil => have := h.1; cases this
      | cons u us =>
        have h0 : u = v := (h.2 0 _ _ rfl rfl).1
        have := exactL_sound xs us r' ⟨by have := h.1; simpa using this, fun i x w hx hw => h.2 (i + 1) x w (by simpa using hx) (by simpa using hw)⟩ hr
        rw [h0, this]
    · cases he
  | .own _ _ :: _, _, _, _, he => by cases he
  | .p _ :: _, _, _, _, he => by cases he
theorem exactW_sound {U : Nat → Prop} {ρ : Nat → Nat} {W : World} {x : AW} {v u : Value} (h : RpW U ρ W x v) (he : exactW x = some u) : v = u := by
  cases x with
  | one y => cases y with
    | c w => cases he; exact h.1
    | own => cases he
    | p => cases he
  | agg xs =>
    simp only [exactW] at he
    split at he
    · rename_i r hr
      cases he
      obtain ⟨vs, rfl, hl⟩ := h
      rw [exactL_sound xs vs r hl hr]
    · cases he
theorem noown (v : Value) (j : Nat) : ¬ (vC v).owns j := fun ⟨y, hy, h⟩ => by simp [AW.cells] at hy; subst hy; cases h
theorem al_bin {bop : BinOp} {xt yt : Nat} {x y : Operand} {a b : AW} {va vb v : Value} (hw : want ops ⟨some d, .binOp bop xt x y yt, ty, pos, after, guard⟩ s = some true) (hx : s.look x = some (.w a)) (hy : s.look y = some (.w b)) (ea : exactW a = some va) (eb : exactW b = some vb)
    (hg : ∀ W, (eqGuard bop xt x y va vb).run P W = .ok () W) (hr : ∀ W, (binOp bop xt va vb).run P W = .ok v W) (h1 : v.oneCell' = true) (hd : Nat.blt d s.n = true) (h : aList P ops K rest (s.put (some d) (vC v))) : aList P ops K (⟨some d, .binOp bop xt x y yt, ty, pos, after, guard⟩ :: rest) s := by
  refine al_quiet (av := vC v) hw ⟨fun _ _ h => (by cases h), fun z hz => ?_, fun U ρ W env he => ⟨v, ?_, ⟨rfl, h1⟩⟩, fun j hj => absurd hj (noown v j)⟩ hd h
  · simp [Op.operands] at hz
    rcases hz with rfl | rfl
    · exact ⟨_, hx⟩
    · exact ⟨_, hy⟩
  · have e1 : env x = va := exactW_sound (he x (by simp [Op.operands]) _ hx) ea
    have e2 : env y = vb := exactW_sound (he y (by simp [Op.operands]) _ hy) eb
    simp only [execOp, e1, e2, Sem.run_bind, hg, Result.andThen_ok, hr, Sem.run_pure]
theorem al_int {bop : BinOp} {xt yt : Nat} {x y : Operand} {k : IntKind} {a b : Int} {v : Value} (hw : want ops ⟨some d, .binOp bop xt x y yt, ty, pos, after, guard⟩ s = some true) (hx : s.look x = some (vC (.int k a))) (hy : s.look y = some (vC (.int k b)))
    (hr : ∀ W, (binOp bop xt (.int k a) (.int k b)).run P W = .ok v W) (h1 : v.oneCell' = true) (hd : Nat.blt d s.n = true) (h : aList P ops K rest (s.put (some d) (vC v))) : aList P ops K (⟨some d, .binOp bop xt x y yt, ty, pos, after, guard⟩ :: rest) s :=
  al_bin hw hx hy rfl rfl (fun W => by unfold eqGuard; cases bop <;> rfl) hr h1 hd h
theorem al_lss {xt yt : Nat} {x y : Operand} {k : IntKind} {a b : Int} (hw : want ops ⟨some d, .binOp .lss xt x y yt, ty, pos, after, guard⟩ s = some true) (hx : s.look x = some (vC (.int k a))) (hy : s.look y = some (vC (.int k b))) (hd : Nat.blt d s.n = true) (h : aList P ops K rest (s.put (some d) (vB (decide (a < b))))) : aList P ops K (⟨some d, .binOp .lss xt x y yt, ty, pos, after, guard⟩ :: rest) s :=
  al_int hw hx hy (fun W => by cases k <;> rfl) rfl hd h
theorem al_leq {xt yt : Nat} {x y : Operand} {k : IntKind} {a b : Int} (hw : want ops ⟨some d, .binOp .leq xt x y yt, ty, pos, after, guard⟩ s = some true) (hx : s.look x = some (vC (.int k a))) (hy : s.look y = some (vC (.int k b))) (hd : Nat.blt d s.n = true) (h : aList P ops K rest (s.put (some d) (vB (decide (a ≤ b))))) : aList P ops K (⟨some d, .binOp .leq xt x y yt, ty, pos, after, guard⟩ :: rest) s :=
  al_int hw hx hy (fun W => by cases k <;> rfl) rfl hd h
theorem al_gtr {xt yt : Nat} {x y : Operand} {k : IntKind} {a b : Int} (hw : want ops ⟨some d, .binOp .gtr xt x y yt, ty, pos, after, guard⟩ s = some true) (hx : s.look x = some (vC (.int k a))) (hy : s.look y = some (vC (.int k b))) (hd : Nat.blt d s.n = true) (h : aList P ops K rest (s.put (some d) (vB (decide (b < a))))) : aList P ops K (⟨some d, .binOp .gtr xt x y yt, ty, pos, after, guard⟩ :: rest) s :=
  al_int hw hx hy (fun W => by cases k <;> rfl) rfl hd h
theorem al_geq {xt yt : Nat} {x y : Operand} {k : IntKind} {a b : Int} (hw : want ops ⟨some d, .binOp .geq xt x y yt, ty, pos, after, guard⟩ s = some true) (hx : s.look x = some (vC (.int k a))) (hy : s.look y = some (vC (.int k b))) (hd : Nat.blt d s.n = true) (h : aList P ops K rest (s.put (some d) (vB (decide (b ≤ a))))) : aList P ops K (⟨some d, .binOp .geq xt x y yt, ty, pos, after, guard⟩ :: rest) s :=
  al_int hw hx hy (fun W => by cases k <;> rfl) rfl hd h
theorem al_eql {xt yt : Nat} {x y : Operand} {k : IntKind} {a b : Int} (hw : want ops ⟨some d, .binOp .eql xt x y yt, ty, pos, after, guard⟩ s = some true) (hx : s.look x = some (vC (.int k a))) (hy : s.look y = some (vC (.int k b))) (hd : Nat.blt d s.n = true) (h : aList P ops K rest (s.put (some d) (vB (decide (a = b))))) : aList P ops K (⟨some d, .binOp .eql xt x y yt, ty, pos, after, guard⟩ :: rest) s :=
  al_int hw hx hy (fun W => by cases k <;> rfl) rfl hd h
theorem al_neq {xt yt : Nat} {x y : Operand} {k : IntKind} {a b : Int} (hw : want ops ⟨some d, .binOp .neq xt x y yt, ty, pos, after, guard⟩ s = some true) (hx : s.look x = some (vC (.int k a))) (hy : s.look y = some (vC (.int k b))) (hd : Nat.blt d s.n = true) (h : aList P ops K rest (s.put (some d) (vB (!decide (a = b))))) : aList P ops K (⟨some d, .binOp .neq xt x y yt, ty, pos, after, guard⟩ :: rest) s :=
  al_int hw hx hy (fun W => by cases k <;> rfl) rfl hd h
theorem al_add {xt yt : Nat} {x y : Operand} {k : IntKind} {a b c : Int} (hw : want ops ⟨some d, .binOp .add xt x y yt, ty, pos, after, guard⟩ s = some true) (hx : s.look x = some (vC (.int k a))) (hy : s.look y = some (vC (.int k b))) (hc : k.wrap (a + b) = c) (hd : Nat.blt d s.n = true) (h : aList P ops K rest (s.put (some d) (vC (.int k c)))) : aList P ops K (⟨some d, .binOp .add xt x y yt, ty, pos, after, guard⟩ :: rest) s :=
  al_int hw hx hy (fun W => by rw [← hc]; cases k <;> rfl) rfl hd h
theorem al_sub {xt yt : Nat} {x y : Operand} {k : IntKind} {a b c : Int} (hw : want ops ⟨some d, .binOp .sub xt x y yt, ty, pos, after, guard⟩ s = some true) (hx : s.look x = some (vC (.int k a))) (hy : s.look y = some (vC (.int k b))) (hc : k.wrap (a - b) = c) (hd : Nat.blt d s.n = true) (h : aList P ops K rest (s.put (some d) (vC (.int k c)))) : aList P ops K (⟨some d, .binOp .sub xt x y yt, ty, pos, after, guard⟩ :: rest) s :=
  al_int hw hx hy (fun W => by rw [← hc]; cases k <;> rfl) rfl hd h
theorem al_mul {xt yt : Nat} {x y : Operand} {k : IntKind} {a b c : Int} (hw : want ops ⟨some d, .binOp .mul xt x y yt, ty, pos, after, guard⟩ s = some true) (hx : s.look x = some (vC (.int k a))) (hy : s.look y = some (vC (.int k b))) (hc : k.wrap (a * b) = c) (hd : Nat.blt d s.n = true) (h : aList P ops K rest (s.put (some d) (vC (.int k c)))) : aList P ops K (⟨some d, .binOp .mul xt x y yt, ty, pos, after, guard⟩ :: rest) s :=
  al_int hw hx hy (fun W => by rw [← hc]; cases k <;> rfl) rfl hd h
theorem i64_wrap {n : Int} (h : -9223372036854775808 ≤ n ∧ n < 9223372036854775808) : IntKind.i64.wrap n = n := IntWalk.i64_in n (by omega)
theorem al_not {xt : Nat} {x : Operand} {b : Bool} (hw : want ops ⟨some d, .unOp .not xt x, ty, pos, after, guard⟩ s = some true) (hx : s.look x = some (vB b)) (hd : Nat.blt d s.n = true) (h : aList P ops K rest (s.put (some d) (vB (!b)))) : aList P ops K (⟨some d, .unOp .not xt x, ty, pos, after, guard⟩ :: rest) s := by
  refine al_quiet (av := vB (!b)) hw ⟨fun _ _ h => (by cases h), fun z hz => ?_, fun U ρ W env he => ⟨.bool (!b), ?_, ⟨rfl, rfl⟩⟩, fun j hj => absurd hj (noown _ j)⟩ hd h
  · simp [Op.operands] at hz; subst hz; exact ⟨_, hx⟩
  · have e1 : env x = .bool b := (he x (by simp [Op.operands]) _ hx).1
    simp only [execOp, e1, Sem.run_bind, Op.unary]
    rfl
theorem al_un {uop : UnOp} {xt : Nat} {x : Operand} {va v : Value} (hw : want ops ⟨some d, .unOp uop xt x, ty, pos, after, guard⟩ s = some true) (hx : s.look x = some (vC va)) (hr : ∀ W, (Op.unary uop va).run P W = .ok v W) (h1 : v.oneCell' = true) (hd : Nat.blt d s.n = true) (h : aList P ops K rest (s.put (some d) (vC v))) : aList P ops K (⟨some d, .unOp uop xt x, ty, pos, after, guard⟩ :: rest) s := by
  refine al_quiet (av := vC v) hw ⟨fun _ _ h => (by cases h), fun z hz => ?_, fun U ρ W env he => ⟨v, ?_, ⟨rfl, h1⟩⟩, fun j hj => absurd hj (noown v j)⟩ hd h
  · simp [Op.operands] at hz; subst hz; exact ⟨_, hx⟩
  · have e1 : env x = va := (he x (by simp [Op.operands]) _ hx).1
    simp only [execOp, e1, Sem.run_bind, hr, Result.andThen_ok, Sem.run_pure]
theorem al_conv {src dst : Nat} {x : Operand} {va v : Value} (hw : want ops ⟨some d, .convert src dst x, ty, pos, after, guard⟩ s = some true) (hx : s.look x = some (vC va)) (hr : ∀ W, (convert src dst va).run P W = .ok v W) (h1 : v.oneCell' = true) (hd : Nat.blt d s.n = true) (h : aList P ops K rest (s.put (some d) (vC v))) : aList P ops K (⟨some d, .convert src dst x, ty, pos, after, guard⟩ :: rest) s := by
  refine al_quiet (av := vC v) hw ⟨fun _ _ h => (by cases h), fun z hz => ?_, fun U ρ W env he => ⟨v, ?_, ⟨rfl, h1⟩⟩, fun j hj => absurd hj (noown v j)⟩ hd h
  · simp [Op.operands] at hz; subst hz; exact ⟨_, hx⟩
  · have e1 : env x = va := (he x (by simp [Op.operands]) _ hx).1
    simp only [execOp, e1, Sem.run_bind, hr, Result.andThen_ok, Sem.run_pure]
theorem al_convI {src dst n : Nat} {b : Bool} {k k' : IntKind} {x : Operand} {a c : Int} [S : TyOf P src b n] [I : IntTy P dst k'] (hw : want ops ⟨some d, .convert src dst x, ty, pos, after, guard⟩ s = some true) (hx : s.look x = some (vC (.int k a))) (hc : k'.wrap a = c) (hd : Nat.blt d s.n = true) (h : aList P ops K rest (s.put (some d) (vC (.int k' c)))) : aList P ops K (⟨some d, .convert src dst x, ty, pos, after, guard⟩ :: rest) s := by
  refine al_conv hw hx (fun W => ?_) rfl hd h
  have hs : ∃ D, P.underlying src = some D := by
    have := S.h
    unfold tyOf at this
    cases hu : P.underlying src with
    | none => rw [hu] at this; cases this
    | some D => exact ⟨D, rfl⟩
  obtain ⟨D, hs⟩ := hs
  unfold convert
  simp only [Sem.run_bind, run_underlying hs, run_underlying I.h, Result.andThen_ok]
  rw [← hc]
  cases D <;> rfl
theorem al_pick_t {c x y : Operand} {av : AV} (hw : want ops ⟨some d, .pick c x y, ty, pos, after, guard⟩ s = some true) (hc : s.look c = some (vB true)) (hx : s.look x = some av) {bv : AV} (hy : s.look y = some bv) (hd : Nat.blt d s.n = true) (h : aList P ops K rest (s.put (some d) av)) : aList P ops K (⟨some d, .pick c x y, ty, pos, after, guard⟩ :: rest) s := by
  refine al_quiet hw ⟨fun _ _ h => (by cases h), fun z hz => ?_, fun U ρ W env he => ⟨env x, ?_, he x (by simp [Op.operands]) av hx⟩, fun j hj => ⟨x, by simp [Op.operands], av, hx, hj⟩⟩ hd h
  · simp [Op.operands] at hz
    rcases hz with rfl | rfl | rfl
    · exact ⟨_, hc⟩
    · exact ⟨_, hx⟩
    · exact ⟨_, hy⟩
  · have e1 : env c = .bool true := (he c (by simp [Op.operands]) _ hc).1
    simp [execOp, e1, asBool]
theorem al_pick_f {c x y : Operand} {av : AV} (hw : want ops ⟨some d, .pick c x y, ty, pos, after, guard⟩ s = some true) (hc : s.look c = some (vB false)) (hx : s.look y = some av) {bv : AV} (hy : s.look x = some bv) (hd : Nat.blt d s.n = true) (h : aList P ops K rest (s.put (some d) av)) : aList P ops K (⟨some d, .pick c x y, ty, pos, after, guard⟩ :: rest) s := by
  refine al_quiet hw ⟨fun _ _ h => (by cases h), fun z hz => ?_, fun U ρ W env he => ⟨env y, ?_, he y (by simp [Op.operands]) av hx⟩, fun j hj => ⟨y, by simp [Op.operands], av, hx, hj⟩⟩ hd h
  · simp [Op.operands] at hz
    rcases hz with rfl | rfl | rfl
    · exact ⟨_, hc⟩
    · exact ⟨_, hy⟩
    · exact ⟨_, hx⟩
  · have e1 : env c = .bool false := (he c (by simp [Op.operands]) _ hc).1
    simp [execOp, e1, asBool]
theorem al_callv {f : FuncId} {g : Operand} {ts : Array TypeId} {l : List Operand} {args : List AV} {r : AV} [E : Enters P f] (hw : want ops ⟨some d, .call ⟨.value g, l.toArray, ts⟩, ty, pos, after, guard⟩ s = some true) (hg : s.look g = some (vC (.func (.func f) #[] #[]))) (ha : l.map s.look = args.map some) (hp : PCall P f args r) (hd : Nat.blt d s.n = true) (h : aList P ops K rest (s.put (some d) r)) :
    aList P ops K (⟨some d, .call ⟨.value g, l.toArray, ts⟩, ty, pos, after, guard⟩ :: rest) s :=
  al_step hw (.call f args r ⟨⟨_, g, rfl, rfl, .inl ⟨[], hg, by simpa using ha, rfl⟩⟩, E.h⟩ hp) (dst_ok hd) h
/-- a function that is bound to its first arguments. -/
theorem al_callb {f : FuncId} {g : Operand} {ts : Array TypeId} {l : List Operand} {bs : List Value} {args : List AV} {r : AV} [E : Enters P f] (hw : want ops ⟨some d, .call ⟨.value g, l.toArray, ts⟩, ty, pos, after, guard⟩ s = some true) (hg : s.look g = some (vC (.func (.func f) bs.toArray #[]))) (hb : bs.all bndB = true) (ha : l.map s.look = args.map some) (hp : PCall P f (bs.map ofV ++ args) r) (hd : Nat.blt d s.n = true) (h : aList P ops K rest (s.put (some d) r)) :
    aList P ops K (⟨some d, .call ⟨.value g, l.toArray, ts⟩, ty, pos, after, guard⟩ :: rest) s :=
  al_step hw (.call f _ r ⟨⟨_, g, rfl, rfl, .inl ⟨bs, hg, by rw [List.toList_toArray, ha, List.map_append, List.map_map]; rfl, hb⟩⟩, E.h⟩ hp) (dst_ok hd) h
/-- a function that has taken hold of something. -/
theorem al_callF {f : FuncId} {g : Operand} {ts : Array TypeId} {l : List Operand} {cs : List AC} {args : List AV} {r : AV} [E : Enters P f] (hw : want ops ⟨some d, .call ⟨.value g, l.toArray, ts⟩, ty, pos, after, guard⟩ s = some true) (hg : s.look g = some (.w (.one (.p (FunP (.func f) cs))))) (ha : l.map s.look = args.map some) (hp : PCall P f (args ++ cs.map fun x => .w (.one x)) r) (hd : Nat.blt d s.n = true) (h : aList P ops K rest (s.put (some d) r)) :
    aList P ops K (⟨some d, .call ⟨.value g, l.toArray, ts⟩, ty, pos, after, guard⟩ :: rest) s :=
  al_step hw (.call f _ r ⟨⟨_, g, rfl, rfl, .inr ⟨cs, hg, by rw [List.toList_toArray, ha, List.map_append, List.map_map]; rfl⟩⟩, E.h⟩ hp) (dst_ok hd) h
/-- a function is bound to a value. -/
theorem al_mkfnb {fn : Fn} {x : Operand} {a : AW} {va : Value} (hw : want ops ⟨some d, .makeFunc fn #[x] #[], ty, pos, after, guard⟩ s = some true) (hx : s.look x = some (.w a)) (ea : exactW a = some va) (hd : Nat.blt d s.n = true) (h : aList P ops K rest (s.put (some d) (vC (.func fn #[va] #[])))) : aList P ops K (⟨some d, .makeFunc fn #[x] #[], ty, pos, after, guard⟩ :: rest) s := by
  refine al_quiet (av := vC (.func fn #[va] #[])) hw ⟨fun _ _ h => (by cases h), fun z hz => ?_, fun U ρ W env he => ⟨.func fn #[va] #[], ?_, ⟨rfl, rfl⟩⟩, fun j hj => absurd hj (noown _ j)⟩ hd h
  · simp [Op.operands] at hz; subst hz; exact ⟨_, hx⟩
  · have e1 : env x = va := exactW_sound (he x (by simp [Op.operands]) _ hx) ea
    have em : (#[x] : Array Operand).map env = #[va] := by simp [e1]
    simp only [execOp, em, Array.map_empty, Instr.makeFunc, Sem.run_bind, Sem.run_pure, Result.andThen_ok]
theorem al_mkfn {fn : Fn} (hw : want ops ⟨some d, .makeFunc fn #[] #[], ty, pos, after, guard⟩ s = some true) (hr : ∀ W, (Instr.makeFunc fn #[] #[]).run P W = .ok (.func fn #[] #[]) W) (hd : Nat.blt d s.n = true) (h : aList P ops K rest (s.put (some d) (vC (.func fn #[] #[])))) : aList P ops K (⟨some d, .makeFunc fn #[] #[], ty, pos, after, guard⟩ :: rest) s := by
  refine al_quiet (av := vC (.func fn #[] #[])) hw ⟨fun _ _ h => (by cases h), fun z hz => ?_, fun U ρ W env he => ⟨.func fn #[] #[], ?_, ⟨rfl, rfl⟩⟩, fun j hj => absurd hj (noown _ j)⟩ hd h
  · simp [Op.operands] at hz
  · simp only [execOp, Array.map_empty, Sem.run_bind, hr, Result.andThen_ok, Sem.run_pure]
theorem al_call0 {f : FuncId} {g : Operand} {ts : Array TypeId} {r : AV} [E : Enters P f] (hw : want ops ⟨some d, .call ⟨.value g, #[], ts⟩, ty, pos, after, guard⟩ s = some true) (hg : s.look g = some (vC (.func (.func f) #[] #[]))) (hp : PCall P f [] r) (hd : Nat.blt d s.n = true) (h : aList P ops K rest (s.put (some d) r)) : aList P ops K (⟨some d, .call ⟨.value g, #[], ts⟩, ty, pos, after, guard⟩ :: rest) s :=
  al_callv (l := []) hw hg rfl hp hd h
theorem al_call1 {f : FuncId} {g : Operand} {ts : Array TypeId} {x1 : Operand} {a1 : AV} {r : AV} [E : Enters P f] (hw : want ops ⟨some d, .call ⟨.value g, #[x1], ts⟩, ty, pos, after, guard⟩ s = some true) (hg : s.look g = some (vC (.func (.func f) #[] #[]))) (h1 : s.look x1 = some a1) (hp : PCall P f [a1] r) (hd : Nat.blt d s.n = true) (h : aList P ops K rest (s.put (some d) r)) : aList P ops K (⟨some d, .call ⟨.value g, #[x1], ts⟩, ty, pos, after, guard⟩ :: rest) s :=
  al_callv (l := [x1]) hw hg (by simp [h1]) hp hd h
theorem al_call2 {f : FuncId} {g : Operand} {ts : Array TypeId} {x1 x2 : Operand} {a1 a2 : AV} {r : AV} [E : Enters P f] (hw : want ops ⟨some d, .call ⟨.value g, #[x1, x2], ts⟩, ty, pos, after, guard⟩ s = some true) (hg : s.look g = some (vC (.func (.func f) #[] #[]))) (h1 : s.look x1 = some a1) (h2 : s.look x2 = some a2) (hp : PCall P f [a1, a2] r) (hd : Nat.blt d s.n = true) (h : aList P ops K rest (s.put (some d) r)) : aList P ops K (⟨some d, .call ⟨.value g, #[x1, x2], ts⟩, ty, pos, after, guard⟩ :: rest) s :=
  al_callv (l := [x1, x2]) hw hg (by simp [h1, h2]) hp hd h
theorem al_call3 {f : FuncId} {g : Operand} {ts : Array TypeId} {x1 x2 x3 : Operand} {a1 a2 a3 : AV} {r : AV} [E : Enters P f] (hw : want ops ⟨some d, .call ⟨.value g, #[x1, x2, x3], ts⟩, ty, pos, after, guard⟩ s = some true) (hg : s.look g = some (vC (.func (.func f) #[] #[]))) (h1 : s.look x1 = some a1) (h2 : s.look x2 = some a2) (h3 : s.look x3 = some a3) (hp : PCall P f [a1, a2, a3] r) (hd : Nat.blt d s.n = true) (h : aList P ops K rest (s.put (some d) r)) : aList P ops K (⟨some d, .call ⟨.value g, #[x1, x2, x3], ts⟩, ty, pos, after, guard⟩ :: rest) s :=
  al_callv (l := [x1, x2, x3]) hw hg (by simp [h1, h2, h3]) hp hd h
theorem al_call4 {f : FuncId} {g : Operand} {ts : Array TypeId} {x1 x2 x3 x4 : Operand} {a1 a2 a3 a4 : AV} {r : AV} [E : Enters P f] (hw : want ops ⟨some d, .call ⟨.value g, #[x1, x2, x3, x4], ts⟩, ty, pos, after, guard⟩ s = some true) (hg : s.look g = some (vC (.func (.func f) #[] #[]))) (h1 : s.look x1 = some a1) (h2 : s.look x2 = some a2) (h3 : s.look x3 = some a3) (h4 : s.look x4 = some a4) (hp : PCall P f [a1, a2, a3, a4] r) (hd : Nat.blt d s.n = true) (h : aList P ops K rest (s.put (some d) r)) : aList P ops K (⟨some d, .call ⟨.value g, #[x1, x2, x3, x4], ts⟩, ty, pos, after, guard⟩ :: rest) s :=
  al_callv (l := [x1, x2, x3, x4]) hw hg (by simp [h1, h2, h3, h4]) hp hd h
theorem al_call5 {f : FuncId} {g : Operand} {ts : Array TypeId} {x1 x2 x3 x4 x5 : Operand} {a1 a2 a3 a4 a5 : AV} {r : AV} [E : Enters P f] (hw : want ops ⟨some d, .call ⟨.value g, #[x1, x2, x3, x4, x5], ts⟩, ty, pos, after, guard⟩ s = some true) (hg : s.look g = some (vC (.func (.func f) #[] #[]))) (h1 : s.look x1 = some a1) (h2 : s.look x2 = some a2) (h3 : s.look x3 = some a3) (h4 : s.look x4 = some a4) (h5 : s.look x5 = some a5) (hp : PCall P f [a1, a2, a3, a4, a5] r) (hd : Nat.blt d s.n = true) (h : aList P ops K rest (s.put (some d) r)) : aList P ops K (⟨some d, .call ⟨.value g, #[x1, x2, x3, x4, x5], ts⟩, ty, pos, after, guard⟩ :: rest) s :=
  al_callv (l := [x1, x2, x3, x4, x5]) hw hg (by simp [h1, h2, h3, h4, h5]) hp hd h
def buildN (ps : List (Nat × Nat)) : List AC → List (Nat × AW) → Option (List AC)
  | cs, [] => some cs
  | cs, (i, z) :: rest => match ps[i]? with
    | some (off, size) => bif Nat.beq size z.cells.length then match putN cs off z.cells with
        | some r => buildN ps r rest
        | none => none
      else none
    | none => none
def lookP (look : Operand → Option AV) : List (Nat × Operand) → Option (List (Nat × AW))
  | [] => some []
  | (i, x) :: rest => match look x, lookP look rest with
    | some (.w z), some r => some ((i, z) :: r)
    | _, _ => none
theorem fold_set (off : Nat) : ∀ (zs : List Value) (k : Nat) (arr : Array Value), off + k + zs.length ≤ arr.size → ((zs.zipIdx k).foldl (fun cs (c, j) => cs.setIfInBounds (off + j) c) arr).toList = arr.toList.take (off + k) ++ zs ++ arr.toList.drop (off + k + zs.length)
  | [], k, arr, _ => by simp
  | z :: zs, k, arr, h => by
    simp only [List.zipIdx_cons, List.foldl_cons]
    rw [fold_set off zs (k + 1) _ (by simp at h ⊢; omega)]
    have e := list_seg_step arr.toList (off + k) z zs (by simp at h ⊢; omega)
    simpa [Array.toList_setIfInBounds, Nat.add_assoc] using e
theorem fill_sound {U : Nat → Prop} {ρ : Nat → Nat} {W : World} {ps : List (Nat × Nat)} {place : Nat → Option (Nat × Nat)} (hp : ∀ i q, ps[i]? = some q → place i = some q) {look : Operand → Option AV} {env : Operand → Value} : ∀ (parts : List (Nat × Operand)) (cs : List AC) (vs : List Value) (zs : List (Nat × AW)) (r : List AC), RpL U ρ W cs vs → lookP look parts = some zs → (∀ p ∈ parts, ∀ a, look p.2 = some a → RpV U ρ W a (env p.2)) → buildN ps cs zs = some r →
    ∃ us : List Value, Instr.fill place vs.toArray (parts.map fun p => (p.1, env p.2)) = some us.toArray ∧ RpL U ρ W r us
  | [], cs, vs, zs, r, hl, hz, _, hb => by cases hz; cases hb; exact ⟨vs, rfl, hl⟩
  | (i, x) :: parts, cs, vs, zs, r, hl, hz, he, hb => by
    simp only [lookP] at hz
    split at hz
    · rename_i z zr hx hr
      cases hz
      simp only [buildN] at hb
      split at hb
      · rename_i off size hps
        cases hbeq : Nat.beq size z.cells.length with
        | false => rw [hbeq] at hb; cases hb
        | true =>
          rw [hbeq] at hb
          simp only [cond_true] at hb
          split at hb
          · rename_i cs' hput
            have hz : RpW U ρ W z (env x) := he (i, x) (by simp) _ hx
            have hzc := hz.cells
            obtain ⟨q1, q2⟩ := putN_spec _ _ _ _ hput
            have hs := Nat.eq_of_beq_eq_true hbeq
            have hlz : (env x).cells.size = z.cells.length := by have := hzc.1; simp at this; exact this.symm
            have hlv := hl.1
            have hsp := hl.splice hzc off q1
            rw [q2] at hsp
            obtain ⟨us, g1, g2⟩ := fill_sound hp parts cs' _ zr r hsp hr (fun p hp' => he p (by simp [hp'])) hb
            refine ⟨us, ?_, g2⟩
            simp only [List.map_cons, Instr.fill, hp i _ hps]
            rw [if_neg (by simp [hlz, hs]; omega)]
            rw [← g1]
            congr 1
            apply Array.ext'
            have := fold_set off (env x).cells.toList 0 vs.toArray (by simp [hlz]; omega)
            rw [← Array.foldl_toList, Array.toList_zipIdx]
            simpa using this
          · cases hb
      · cases hb
    · cases hz
theorem lookP_mem {look : Operand → Option AV} : ∀ (parts : List (Nat × Operand)) (zs : List (Nat × AW)), lookP look parts = some zs → ∀ p ∈ parts, ∃ z, look p.2 = some (.w z) ∧ (p.1, z) ∈ zs
  | [], _, _, p, hp => by cases hp
  | (i, x) :: parts, zs, h, p, hp => by
    simp only [lookP] at h
    split at h
    · rename_i z zr hx hr
      cases h
      rcases List.mem_cons.1 hp with rfl | hp
      · exact ⟨z, hx, by simp⟩
      · obtain ⟨z', h1, h2⟩ := lookP_mem parts zr hr p hp
        exact ⟨z', h1, by simp [h2]⟩
    · cases h
theorem lookP_back {look : Operand → Option AV} : ∀ (parts : List (Nat × Operand)) (zs : List (Nat × AW)), lookP look parts = some zs → ∀ q ∈ zs, ∃ p ∈ parts, look p.2 = some (.w q.2)
  | [], _, h, q, hq => by cases h; cases hq
  | (i, x) :: parts, zs, h, q, hq => by
    simp only [lookP] at h
    split at h
    · rename_i z zr hx hr
      cases h
      rcases List.mem_cons.1 hq with rfl | hq
      · exact ⟨(i, x), by simp, hx⟩
      · obtain ⟨p, h1, h2⟩ := lookP_back parts zr hr q hq
        exact ⟨p, by simp [h1], h2⟩
    · cases h
theorem putN_mem {cs ds r : List AC} {off : Nat} (h : putN cs off ds = some r) : ∀ x ∈ r, x ∈ cs ∨ x ∈ ds := by
  obtain ⟨_, rfl⟩ := putN_spec _ _ _ _ h
  intro x hx
  unfold splice at hx
  simp only [List.mem_append] at hx
  rcases hx with (h1 | h1) | h1
  · exact .inl (List.mem_of_mem_take h1)
  · exact .inr h1
  · exact .inl (List.mem_of_mem_drop h1)
theorem buildN_mem {ps : List (Nat × Nat)} : ∀ (zs : List (Nat × AW)) (cs r : List AC), buildN ps cs zs = some r → ∀ x ∈ r, x ∈ cs ∨ ∃ q ∈ zs, x ∈ q.2.cells
  | [], cs, r, h, x, hx => by cases h; exact .inl hx
  | (i, z) :: zs, cs, r, h, x, hx => by
    simp only [buildN] at h
    split at h
    · rename_i off size hps
      cases hbeq : Nat.beq size z.cells.length with
      | false => rw [hbeq] at h; cases h
      | true =>
        rw [hbeq] at h
        simp only [cond_true] at h
        split at h
        · rename_i cs' hput
          rcases buildN_mem zs cs' r h x hx with h1 | ⟨q, h1, h2⟩
          · rcases putN_mem hput x h1 with h2 | h2
            · exact .inl h2
            · exact .inr ⟨(i, z), by simp, h2⟩
          · exact .inr ⟨q, by simp [h1], h2⟩
        · cases h
    · cases h
theorem run_mapM_arr {α β : Type} {f : α → Sem β} {W : World} : ∀ (l : List α) (vs : List β), l.length = vs.length → (∀ (i : Nat) x v, l[i]? = some x → vs[i]? = some v → (f x).run P W = .ok v W) → (l.mapM f).run P W = .ok vs W
  | [], [], _, _ => rfl
  | [], _ :: _, h, _ => by cases h
  | _ :: _, [], h, _ => by cases h
  | x :: l, v :: vs, hl, h => by
    have h0 := h 0 x v rfl rfl
    have ih := run_mapM_arr l vs (by simpa using hl) (fun i x v hx hv => h (i + 1) x v (by simpa using hx) (by simpa using hv))
    rw [List.mapM_cons]
    simp only [Sem.run_bind, h0, Result.andThen_ok, ih]
    rfl
theorem mapM_opt {α β : Type} {f : α → Option β} : ∀ (l : List α) (vs : List β), l.mapM f = some vs → l.length = vs.length ∧ ∀ (i : Nat) x v, l[i]? = some x → vs[i]? = some v → f x = some v
  | [], vs, h => by cases h; exact ⟨rfl, fun i x v hx => by simp at hx⟩
  | a :: l, vs, h => by
    rw [List.mapM_cons] at h
    cases ha : f a with
    | none => rw [ha] at h; cases h
    | some b =>
      rw [ha] at h
      cases hl : l.mapM f with
      | none => rw [hl] at h; cases h
      | some bs =>
        rw [hl] at h
        cases h
        obtain ⟨h1, h2⟩ := mapM_opt l bs hl
        refine ⟨by simp [h1], fun i x v hx hv => ?_⟩
        cases i with
        | zero => simp at hx hv; subst hx; subst hv; exact ha
        | succ i => exact h2 i x v (by simpa using hx) (by simpa using hv)
theorem al_build {t : Nat} {parts : List (Nat × Operand)} {vs : List Value} {ps : List (Nat × Nat)} {zs : List (Nat × AW)} {r : List AC} [Z : ZeroOf P t vs] [L : PlcOf P t ps] (hw : want ops ⟨some d, .build t parts.toArray, ty, pos, after, guard⟩ s = some true) (hz : lookP s.look parts = some zs) (hb : buildN ps (vs.map .c) zs = some r) (h1 : (vs.all fun v => v.oneCell') = true) (hd : Nat.blt d s.n = true) (h : aList P ops K rest (s.put (some d) (.w (.agg r)))) : aList P ops K (⟨some d, .build t parts.toArray, ty, pos, after, guard⟩ :: rest) s := by
  refine al_quiet (av := .w (.agg r)) hw ⟨fun _ _ h => (by cases h), fun z hz' => ?_, fun U ρ W env he => ?_, fun j hj => ?_⟩ hd h
  · simp only [Op.operands, List.mem_toArray, List.mem_map] at hz'
    obtain ⟨p, hp, rfl⟩ := hz'
    obtain ⟨z, h1, _⟩ := lookP_mem parts zs hz p hp
    exact ⟨_, h1⟩
  · have hZ := Z.h
    have hL := L.h
    unfold zeroOf at hZ
    unfold plcOf at hL
    cases hi : P.info? t with
    | none => rw [hi] at hZ; cases hZ
    | some i =>
      rw [hi] at hZ
      simp only [Option.bind_some] at hZ
      cases hzz : i.zero with
      | none => rw [hzz] at hZ; cases hZ
      | some z =>
        rw [hzz] at hZ
        cases hZ
        split at hL
        · rename_i fs hu
          obtain ⟨m1, m2⟩ := mapM_opt _ _ hL
          have hzv : (zeroValue t).run P W = .ok z W := by simp [zeroValue, typeInfo, program, Sem.run_bind, Sem.run, hi, Result.andThen, hzz]
          have hpl : (fs.mapM fun f => (do pure (f.offset, ← sizeOf f.type) : Sem (Nat × Nat))).run P W = .ok ps.toArray W := by
            rw [Array.mapM_eq_mapM_toList]
            have := run_mapM_arr (P := P) (W := W) (f := fun f : Field => (do pure (f.offset, ← sizeOf f.type) : Sem (Nat × Nat))) fs.toList ps m1 (fun j x v hx hv => by
              have := m2 j x v hx hv
              cases hif : P.info? x.type with
              | none => rw [hif] at this; cases this
              | some ti =>
                rw [hif] at this
                cases this
                simp only [Sem.run_bind, run_sizeOf' hif, Result.andThen_ok, Sem.run_pure])
            simp only [map_eq_pure_bind, Sem.run_bind, this, Result.andThen_ok, Sem.run_pure]
          have hrl : RpL U ρ W (z.cells.toList.map .c) z.cells.toList := ⟨by simp, fun j x v hx hv => by
            rw [List.getElem?_map, hv] at hx
            cases hx
            exact ⟨rfl, List.all_eq_true.1 h1 v (List.mem_of_getElem? hv)⟩⟩
          obtain ⟨us, g1, g2⟩ := fill_sound (U := U) (ρ := ρ) (W := W) (ps := ps) (place := fun i => ps.toArray[i]?) (fun i q h => by simpa using h) (look := s.look) (env := env) parts _ _ zs r hrl hz (fun p hp a ha => he p.2 (by simp only [Op.operands, List.mem_toArray, List.mem_map]; exact ⟨p, hp, rfl⟩) a ha) hb
          refine ⟨.agg us.toArray, ?_, us, rfl, g2⟩
          have hparts : (parts.toArray.map fun (i, x) => (i, env x)).toList = parts.map fun p => (p.1, env p.2) := by simp
          have hz2 : z.cells.toList.toArray = z.cells := by simp
          rw [hz2] at g1
          simp only [execOp, Instr.build, Sem.run_bind, hzv, Result.andThen_ok, run_underlying hu, hpl, hparts, g1, Sem.run_pure]
        · rename_i n el hu
          have hzv : (zeroValue t).run P W = .ok z W := by simp [zeroValue, typeInfo, program, Sem.run_bind, Sem.run, hi, Result.andThen, hzz]
          have hrl : RpL U ρ W (z.cells.toList.map .c) z.cells.toList := ⟨by simp, fun j x v hx hv => by
            rw [List.getElem?_map, hv] at hx
            cases hx
            exact ⟨rfl, List.all_eq_true.1 h1 v (List.mem_of_getElem? hv)⟩⟩
          cases hn : Nat.ble n 32 with
          | false => rw [hn] at hL; cases hL
          | true =>
            rw [hn] at hL
            simp only [cond_true] at hL
            cases hie : P.info? el with
            | none => rw [hie] at hL; cases hL
            | some ti =>
              rw [hie] at hL
              simp only [Option.map_some, Option.some.injEq] at hL
              obtain ⟨us, g1, g2⟩ := fill_sound (U := U) (ρ := ρ) (W := W) (ps := ps) (place := fun i => some (i * ti.size, ti.size)) (fun i q h => by
                rw [← hL, List.getElem?_map] at h
                rcases Nat.lt_or_ge i n with hlt | hge
                · rw [List.getElem?_eq_getElem (by simpa using hlt)] at h
                  simpa using h
                · rw [List.getElem?_eq_none (by simpa using hge)] at h
                  cases h) (look := s.look) (env := env) parts _ _ zs r hrl hz (fun p hp a ha => he p.2 (by simp only [Op.operands, List.mem_toArray, List.mem_map]; exact ⟨p, hp, rfl⟩) a ha) hb
              refine ⟨.agg us.toArray, ?_, us, rfl, g2⟩
              have hparts : (parts.toArray.map fun (i, x) => (i, env x)).toList = parts.map fun p => (p.1, env p.2) := by simp
              have hz2 : z.cells.toList.toArray = z.cells := by simp
              rw [hz2] at g1
              simp only [execOp, Instr.build, Sem.run_bind, hzv, Result.andThen_ok, run_underlying hu, run_sizeOf' hie, hparts, g1, Sem.run_pure]
        · cases hL
  · obtain ⟨y, hy, hyj⟩ := hj
    rcases buildN_mem zs _ r hb y hy with h2 | ⟨q, h2, h3⟩
    · obtain ⟨v, _, rfl⟩ := List.mem_map.1 h2; cases hyj
    · obtain ⟨p, hp, hl⟩ := lookP_back parts zs hz q h2
      exact ⟨p.2, by simp only [Op.operands, List.mem_toArray, List.mem_map]; exact ⟨p, hp, rfl⟩, _, hl, ⟨y, h3, hyj⟩⟩
/-- min and max. -/
theorem al_blt2 {bi : Builtin} {ts : Array TypeId} {x y : Operand} {va vb v : Value} (hw : want ops ⟨some d, .call ⟨.builtin bi, #[x, y], ts⟩, ty, pos, after, guard⟩ s = some true) (hx : s.look x = some (vC va)) (hy : s.look y = some (vC vb)) (hr : ∀ cs W, (builtin bi ts ty cs #[va, vb]).run P W = .ok (.value v) W) (h1 : v.oneCell' = true) (hd : Nat.blt d s.n = true) (h : aList P ops K rest (s.put (some d) (vC v))) : aList P ops K (⟨some d, .call ⟨.builtin bi, #[x, y], ts⟩, ty, pos, after, guard⟩ :: rest) s := by
  refine al_quiet (av := vC v) hw ⟨fun _ _ h => (by cases h), fun z hz => ?_, fun U ρ W env he => ⟨v, ?_, ⟨rfl, h1⟩⟩, fun j hj => absurd hj (noown v j)⟩ hd h
  · simp [Op.operands, Call.operands] at hz
    rcases hz with rfl | rfl
    · exact ⟨_, hx⟩
    · exact ⟨_, hy⟩
  · have e1 : env x = va := (he x (by simp [Op.operands, Call.operands]) _ hx).1
    have e2 : env y = vb := (he y (by simp [Op.operands, Call.operands]) _ hy).1
    have em : (#[x, y] : Array Operand).map env = #[va, vb] := by simp [e1, e2]
    simp only [execOp, resolve, em, Sem.run_bind, Sem.run_pure, Result.andThen_ok, invoke, hr]
theorem al_min {ts : Array TypeId} {x y : Operand} {k : IntKind} {a b : Int} (hw : want ops ⟨some d, .call ⟨.builtin .min, #[x, y], ts⟩, ty, pos, after, guard⟩ s = some true) (hx : s.look x = some (vC (.int k a))) (hy : s.look y = some (vC (.int k b))) (hd : Nat.blt d s.n = true) (h : aList P ops K rest (s.put (some d) (vC (.int k (if b < a then b else a))))) : aList P ops K (⟨some d, .call ⟨.builtin .min, #[x, y], ts⟩, ty, pos, after, guard⟩ :: rest) s :=
  al_blt2 hw hx hy (fun cs W => by go_simp) rfl hd h
theorem al_max {ts : Array TypeId} {x y : Operand} {k : IntKind} {a b : Int} (hw : want ops ⟨some d, .call ⟨.builtin .max, #[x, y], ts⟩, ty, pos, after, guard⟩ s = some true) (hx : s.look x = some (vC (.int k a))) (hy : s.look y = some (vC (.int k b))) (hd : Nat.blt d s.n = true) (h : aList P ops K rest (s.put (some d) (vC (.int k (if b > a then b else a))))) : aList P ops K (⟨some d, .call ⟨.builtin .max, #[x, y], ts⟩, ty, pos, after, guard⟩ :: rest) s :=
  al_blt2 hw hx hy (fun cs W => by go_simp) rfl hd h
/-- a test parts the ways: where a guard hangs on it. -/
theorem al_case {t : Nat} {b : Bool} {l : List Oper} (hs : s.tmps t = some (vB b)) (h1 : b = true → aList P ops K l (s.put (some t) (vB true))) (h0 : b = false → aList P ops K l (s.put (some t) (vB false))) : aList P ops K l s := by
  have same : ∀ c, b = c → s.put (some t) (vB c) = s := fun c e => by
    subst e
    simp only [AS.put]
    congr 1
    funext j
    by_cases hj : j = t
    · subst hj; rw [upd_same, hs]
    · rw [upd_ne _ _ hj]
  cases b with
  | true => rw [← same true rfl]; exact h1 rfl
  | false => rw [← same false rfl]; exact h0 rfl
end
theorem resl_nil : ([] : List ResultVar).map (resOf P s) = ([] : List AW).map some := rfl
theorem resl_tmp {t : Nat} {x : AW} {l : List ResultVar} {xs : List AW} (h : s.tmps t = some (.w x)) (hl : l.map (resOf P s) = xs.map some) : (ResultVar.tmp t :: l).map (resOf P s) = (x :: xs).map some := by
  simp only [List.map_cons, hl]; rw [show resOf P s (.tmp t) = some x by simp only [resOf, h]]
theorem resl_one {a ty k off n : Nat} [T : TyOf P ty false n] {cs : List AC} {y : AC} {l : List ResultVar} {xs : List AW} (h : s.tmps a = some (vO k off)) (hm : s.mem k = some cs) (hc : cs[off]? = some y) (hl : l.map (resOf P s) = xs.map some) : (ResultVar.cell a ty :: l).map (resOf P s) = (.one y :: xs).map some := by
  simp only [List.map_cons, hl]; rw [show resOf P s (.cell a ty) = some (.one y) by simp only [resOf, h, hm, Option.bind_some, tyOf_one T.h hc]]
theorem resl_agg {a ty k off n : Nat} [T : TyOf P ty true n] {cs ys : List AC} {l : List ResultVar} {xs : List AW} (h : s.tmps a = some (vO k off)) (hm : s.mem k = some cs) (hc : takeN cs off n = some ys) (hl : l.map (resOf P s) = xs.map some) : (ResultVar.cell a ty :: l).map (resOf P s) = (.agg ys :: xs).map some := by
  simp only [List.map_cons, hl]; rw [show resOf P s (.cell a ty) = some (.agg ys) by simp only [resOf, h, hm, Option.bind_some, tyOf_agg T.h hc]]
theorem apost_ret {fn : Func} {l : List ResultVar} {xs : List AW} {r : AV} (hr : fn.results = l.toArray) (h : l.map (resOf P s) = xs.map some) (hle : (packed xs).Le r) : apost P fn r .ret s := ⟨xs, by rw [hr]; exact h, hle⟩
theorem apost_end {fn : Func} {l : List ResultVar} {xs : List AW} {r : AV} (hr : fn.results = l.toArray) (h : l.map (resOf P s) = xs.map some) (hle : (packed xs).Le r) : apost P fn r .normal s := ⟨xs, by rw [hr]; exact h, hle⟩
/-- a call of which all is known by values. -/
theorem pcall_exact {f : FuncId} {args : List AV} {r : AV} {vals : List Value} (he : args.map (fun x => match x with | .w y => exactW y | _ => none) = vals.map some) (ca : ∀ x ∈ args, x.closed) (cr : r.closed)
    (h : ∀ W, Calls P f vals.toArray W fun e W' => ∃ v, e = .returned v ∧ (∀ U, (∀ b, W.heap.size ≤ b → U b) → RpV U id W' r v) ∧ Below W.heap.size W W') : PCall P f args r := by
  refine ⟨ca, cr, fun U W vs hvs => ?_⟩
  have e : vs = vals := by
    apply List.ext_getElem?
    intro i
    have hl := hvs.1
    have hl2 : args.length = vals.length := by have := congrArg List.length he; simpa using this
    rcases Nat.lt_or_ge i args.length with hi | hi
    · have h1 : (args.map (fun x => match x with | .w y => exactW y | _ => none))[i]? = (vals.map some)[i]? := by rw [he]
      rw [List.getElem?_map, List.getElem?_map, List.getElem?_eq_getElem hi, List.getElem?_eq_getElem (by omega : i < vals.length)] at h1
      simp only [Option.map_some, Option.some.injEq] at h1
      rw [List.getElem?_eq_getElem (by omega : i < vs.length), List.getElem?_eq_getElem (by omega : i < vals.length)]
      have h2 := hvs.2 i args[i] vs[i] (List.getElem?_eq_getElem hi) (List.getElem?_eq_getElem (by omega))
      cases hx : args[i] with
      | w y =>
        rw [hx] at h1 h2
        rw [exactW_sound h2 h1]
      | tup xs => rw [hx] at h1; cases h1
    · rw [List.getElem?_eq_none (by omega), List.getElem?_eq_none (by omega)]
  subst e
  refine (h W).mono ?_
  rintro e W' ⟨v, h1, h2, h3⟩
  exact ⟨v, h1, h2 _ fun b hb => .inr hb, h3⟩
def AC.closedB : AC → Bool
  | .own _ _ => false
  | _ => true
def AW.closedB : AW → Bool
  | .one x => x.closedB
  | .agg xs => xs.all AC.closedB
def AV.closedB : AV → Bool
  | .w x => x.closedB
  | .tup xs => xs.all AW.closedB
theorem AC.closed_of {x : AC} (h : x.closedB = true) (j : Nat) : ¬ x.owns j := by cases x <;> simp_all [AC.closedB, AC.owns]
theorem AW.closed_of {x : AW} (h : x.closedB = true) (j : Nat) : ¬ x.owns j := by
  rintro ⟨y, hy, hj⟩
  cases x with
  | one z => simp [AW.cells] at hy; subst hy; exact AC.closed_of h j hj
  | agg xs => exact AC.closed_of (List.all_eq_true.1 h y hy) j hj
theorem AV.closed_of {x : AV} (h : x.closedB = true) : x.closed := fun j => by
  cases x with
  | w y => exact AW.closed_of h j
  | tup xs => rintro ⟨y, hy, hj⟩; exact AW.closed_of (List.all_eq_true.1 h y hy) j hj
theorem pcall_body {f : FuncId} {fn : Func} {c : Code} {args : List AV} {r : AV} (hf : P.funcs[f]? = some fn) (hb : fn.body = some c) (hn : Nat.ble args.length fn.ntmps = true) (ca : args.all AV.closedB = true) (cr : r.closedB = true)
    (h : AWp P c (apost P fn r) (start fn.ntmps args)) : PCall P f args r :=
  pcall_of_body hf hb (by simpa [Nat.ble_eq] using hn) (fun x hx => AV.closed_of (List.all_eq_true.1 ca x hx)) (AV.closed_of cr) h
theorem pcall_bodyT {f : FuncId} {fn : Func} {c : Code} {args : List AV} {r : AV} (hf : P.funcs[f]? = some fn) (hb : fn.body = some c) (hn : Nat.ble args.length fn.ntmps = true) (ca : args.all AV.closedB = true) (cr : r.closedB = true)
    (h : AWt P c (apost P fn r) (start fn.ntmps args)) : PCall P f args r :=
  pcall_of_bodyT hf hb (by simpa [Nat.ble_eq] using hn) (fun x hx => AV.closed_of (List.all_eq_true.1 ca x hx)) (AV.closed_of cr) h
theorem pcall_vals {f : FuncId} {args : List AV} {r : AV} (vals : List Value) (he : args.map (fun x => match x with | .w y => exactW y | _ => none) = vals.map some) (ca : args.all AV.closedB = true) (cr : r.closedB = true)
    (h : ∀ W, Calls P f vals.toArray W fun e W' => ∃ v, e = .returned v ∧ (∀ U, (∀ b, W.heap.size ≤ b → U b) → RpV U id W' r v) ∧ Below W.heap.size W W') : PCall P f args r :=
  pcall_exact he (fun x hx => AV.closed_of (List.all_eq_true.1 ca x hx)) (AV.closed_of cr) h
theorem athen_normal {next : AS → Prop} {Q : Exit → AS → Prop} (h : next s) : athen next Q .normal s := h
theorem athen_exit {next : AS → Prop} {Q : Exit → AS → Prop} {id : Nat} (h : Q (.exit id) s) : athen next Q (.exit id) s := h
theorem athen_ret {next : AS → Prop} {Q : Exit → AS → Prop} (h : Q .ret s) : athen next Q .ret s := h
theorem ablock_normal {Q : Exit → AS → Prop} {id : Nat} (h : Q .normal s) : ablock id Q .normal s := h
theorem ablock_ret {Q : Exit → AS → Prop} {id : Nat} (h : Q .ret s) : ablock id Q .ret s := h
theorem ablock_same {Q : Exit → AS → Prop} {id : Nat} (h : Q .normal s) : ablock id Q (.exit id) s := by simp only [ablock, Nat.beq_refl, cond_true]; exact h
theorem ablock_ne {Q : Exit → AS → Prop} {id id' : Nat} (hne : Nat.beq id' id = false) (h : Q (.exit id') s) : ablock id Q (.exit id') s := by simp only [ablock, hne, cond_false]; exact h
theorem al_guard {dst : Option Nat} {op : Op} {ty : Nat} {pos : String} {after : Array Edge} {g t : Nat} {b bb : Bool} (hd : (ops[g]?).bind (·.dst) = some t) (hs : s.tmps t = some (vB bb))
    (h1 : bb = true → aList P ops K (⟨dst, op, ty, pos, after, some (g, b)⟩ :: rest) (s.put (some t) (vB true))) (h0 : bb = false → aList P ops K (⟨dst, op, ty, pos, after, some (g, b)⟩ :: rest) (s.put (some t) (vB false))) : aList P ops K (⟨dst, op, ty, pos, after, some (g, b)⟩ :: rest) s := al_case hs h1 h0
theorem al_guard_b {dst : Option Nat} {op : Op} {ty : Nat} {pos : String} {after : Array Edge} {g t : Nat} {b bb c : Bool} (hd : (ops[g]?).bind (·.dst) = some t) (hs : s.tmps t = some (vB bb)) (hb : bb = c)
    (h1 : aList P ops K (⟨dst, op, ty, pos, after, some (g, b)⟩ :: rest) (s.put (some t) (vB c))) : aList P ops K (⟨dst, op, ty, pos, after, some (g, b)⟩ :: rest) s := by
  subst hb
  exact al_case hs (fun e => by subst e; exact h1) (fun e => by subst e; exact h1)
theorem awp_cond_b {c : Operand} {t u : Bool} {x y : Code} {Q : Exit → AS → Prop} (hc : s.look c = some (vB t)) (ht : t = u) (h : AWp P (bif u then x else y) Q s) : AWp P (.cond c x y) Q s := by
  subst ht
  cases t with
  | true => exact awp_cond_t hc h
  | false => exact awp_cond_f hc h
theorem awp_cond_1 {c : Operand} {t : Bool} {x y : Code} {Q : Exit → AS → Prop} (hc : s.look c = some (vB t)) (ht : t = true) (h : AWp P x Q s) : AWp P (.cond c x y) Q s := awp_cond_b hc ht h
theorem awp_cond_0 {c : Operand} {t : Bool} {x y : Code} {Q : Exit → AS → Prop} (hc : s.look c = some (vB t)) (ht : t = false) (h : AWp P y Q s) : AWp P (.cond c x y) Q s := awp_cond_b hc ht h
end
end Go.Proofs.Ytpopeipcjpfbaaa
