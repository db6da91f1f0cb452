/-
  One operation, over states without addresses; that a frame and a world go along with it. My own text.
-/
import Derived.Test.YtinjgiigmlikpaaAbsA
namespace Go.Proofs.Ytinjgiigmlikpaa
open Go.RowKit
set_option linter.unusedVariables false

def AV.closed (x : AV) : Prop := ∀ j, ¬ x.owns j
def RpVs (U : Nat → Prop) (ρ : Nat → Nat) (W : World) (xs : List AV) (vs : List Value) : Prop :=
  xs.length = vs.length ∧ ∀ (i : Nat) (x : AV) (v : Value), xs[i]? = some x → vs[i]? = some v → RpV U ρ W x v
/-- f, called with what these values tell, hands back what r tells; elder memory stays as it was. -/
structure PCall (P : Program) (f : FuncId) (args : List AV) (r : AV) : Prop where
  ca : ∀ x ∈ args, x.closed
  cr : r.closed
  call : ∀ (U : Nat → Prop) (W : World) (vs : List Value), RpVs U id W args vs →
    Calls P f vs.toArray W fun e W' => ∃ v, e = .returned v ∧ RpV (fun b => U b ∨ W.heap.size ≤ b) id W' r v ∧ Below W.heap.size W W'
/-- an operation that leaves the world alone, and whose value hangs on its operands alone. -/
structure QuietOK (P : Program) (look : Operand → Option AV) (o : Oper) (av : AV) : Prop where
  sel : ∀ cs b, o.op ≠ .select cs b
  ops : ∀ x ∈ o.op.operands, ∃ a, look x = some a
  run : ∀ (U : Nat → Prop) (ρ : Nat → Nat) (W : World) (env : Operand → Value), (∀ x ∈ o.op.operands, ∀ a, look x = some a → RpV U ρ W a (env x)) →
    ∃ v, (execOp env o).run P W = .ok (.value v) W ∧ RpV U ρ W av v
  own : ∀ j, av.owns j → ∃ x ∈ o.op.operands, ∃ a, look x = some a ∧ a.owns j
def pick (P : Program) (ty : TypeId) (cs : List AC) (off : Nat) : Option AW :=
  match P.underlying ty with
  | some (.struct _) | some (.array _ _) => (P.info? ty).bind fun i => if off + i.size ≤ cs.length then some (.agg ((cs.drop off).take i.size)) else none
  | some _ => (cs[off]?).map .one
  | none => none
def splice (cs : List AC) (off : Nat) (ds : List AC) : List AC := cs.take off ++ ds ++ cs.drop (off + ds.length)
inductive NewOK (P : Program) (look : Operand → Option AV) (o : Oper) : List AC → Prop
  | alloc (ty : TypeId) (i : TypeInfo) (z : Value) (cs : List AC) (ho : o.op = .alloc ty) (hi : P.info? ty = some i) (hz : i.zero = some z) (hc : cs = z.cells.toList.map .c) (h1 : (z.cells.toList.all fun v => v.oneCell') = true) : NewOK P look o cs
  | box (ty : TypeId) (x : Operand) (z : AW) (ho : o.op = .box ty x) (hx : look x = some (.w z)) : NewOK P look o z.cells
def enters (P : Program) (f : FuncId) : Bool := match P.funcs[f]? with
  | some fn => fn.body.isSome && fn.name != "runtime.NumGoroutine"
  | none => false
structure CallOK (P : Program) (look : Operand → Option AV) (o : Oper) (f : FuncId) (args : List AV) : Prop where
  ex : ∃ c g, o.op = .call c ∧ c.callee = .value g ∧ look g = some (.w (.one (.c (.func (.func f) #[] #[])))) ∧ c.args.toList.map look = args.map some
  enters : enters P f = true
inductive AStep (P : Program) (s : AS) (o : Oper) : AS → Prop
  | quiet (av : AV) (hq : QuietOK P s.look o av) (hd : ∀ d, o.dst = some d → d < s.n) : AStep P s o (s.put o.dst av)
  | load (ty : TypeId) (x : Operand) (k off : Nat) (cs : List AC) (av : AW) (ho : o.op = .load ty x) (hx : s.look x = some (.w (.one (.own k off)))) (hm : s.mem k = some cs) (hv : pick P ty cs off = some av) (hd : ∀ d, o.dst = some d → d < s.n) : AStep P s o (s.put o.dst (.w av))
  | store (ty : TypeId) (x y : Operand) (k off : Nat) (cs : List AC) (z : AW) (i : TypeInfo) (ho : o.op = .store ty x y) (hx : s.look x = some (.w (.one (.own k off)))) (hy : s.look y = some (.w z)) (hm : s.mem k = some cs) (hi : P.info? ty = some i) (hs : i.size = z.cells.length) (hb : off + z.cells.length ≤ cs.length) (hd : ∀ d, o.dst = some d → d < s.n) : AStep P s o ((s.put o.dst (.tup [])).setm k (splice cs off z.cells))
  | new (cs : List AC) (d : Nat) (hdst : o.dst = some d) (hm : s.mem d = none) (hn : NewOK P s.look o cs) (hd : d < s.n) : AStep P s o ((s.setm d cs).put (some d) (.w (.one (.own d 0))))
  | call (f : FuncId) (args : List AV) (r : AV) (hc : CallOK P s.look o f args) (hp : PCall P f args r) (hd : ∀ d, o.dst = some d → d < s.n) : AStep P s o (s.put o.dst r)
section
variable {P : Program} {B : World} {A : Nat → Prop} {s s' : AS} {ρ : Nat → Nat} {a : Act} {w : World} {o : Oper} {Q : Exit → Act → World → Prop}
theorem RpV.undef (U : Nat → Prop) : RpV U ρ w (.tup []) undef := ⟨[], rfl, rfl, fun i x v h => by simp at h⟩
theorem Rel.look {x : Operand} {av : AV} (h : Rel B A s ρ a w) (hx : s.look x = some av) : RpV (s.free A ρ) ρ w av (a.eval x) := by
  cases x with
  | tmp t =>
    obtain ⟨v, h1, h2⟩ := h.tm t av hx
    have : a.eval (.tmp t) = v := by simp [Act.eval, Array.getD_eq_getD_getElem?, h1]
    rw [this]; exact h2
  | const v =>
    simp only [AS.look] at hx
    split at hx
    · rename_i h1; cases hx; exact ⟨rfl, h1⟩
    · cases hx
  | global g => cases hx; exact ⟨rfl, rfl⟩
  | func f => cases hx; exact ⟨rfl, rfl⟩
theorem RpL.cellAt {U : Nat → Prop} {W : World} {xs : List AC} {vs : List Value} {g : Nat} {ty : TypeId} (h : RpL U ρ W xs vs) (hg : W.heap[g]? = some (.cells vs.toArray ty (0, 0))) {i : Nat} {x : AC} (hi : xs[i]? = some x) :
    ∃ v, vs[i]? = some v ∧ W.cell? ⟨g, i, none⟩ = some v ∧ RpC U ρ W x v := by
  have hlt : i < vs.length := by
    rw [← h.1]
    rcases Nat.lt_or_ge i xs.length with q | q
    · exact q
    · rw [List.getElem?_eq_none q] at hi; cases hi
  refine ⟨vs[i], List.getElem?_eq_getElem hlt, ?_, h.2 i x _ hi (List.getElem?_eq_getElem hlt)⟩
  simp [World.cell?, hg, hlt]
theorem RpL.sub {U : Nat → Prop} {W : World} {xs : List AC} {vs : List Value} (h : RpL U ρ W xs vs) (off n : Nat) : RpL U ρ W ((xs.drop off).take n) ((vs.drop off).take n) := by
  refine ⟨by simp [h.1], fun i x v hx hv => ?_⟩
  rw [List.getElem?_take] at hx hv
  split at hx
  · rename_i hlt
    rw [if_pos hlt] at hv
    rw [List.getElem?_drop] at hx hv
    exact h.2 _ x v hx hv
  · cases hx
theorem RpL.splice {U : Nat → Prop} {W : World} {xs ds : List AC} {vs us : List Value} (h : RpL U ρ W xs vs) (hd : RpL U ρ W ds us) (off : Nat) (hb : off + ds.length ≤ xs.length) : RpL U ρ W (splice xs off ds) (vs.take off ++ us ++ vs.drop (off + us.length)) := by
  have e1 := h.1
  have e2 := hd.1
  refine ⟨by simp [Proofs.Ytinjgiigmlikpaa.splice, e1, e2], fun i x v hx hv => ?_⟩
  unfold Proofs.Ytinjgiigmlikpaa.splice at hx
  have lx : (xs.take off).length = off := by simp; omega
  have lv : (vs.take off).length = off := by simp; omega
  by_cases h1 : i < off
  · rw [List.append_assoc, List.getElem?_append_left (by omega), List.getElem?_take_of_lt h1] at hx
    rw [List.append_assoc, List.getElem?_append_left (by omega), List.getElem?_take_of_lt h1] at hv
    exact h.2 i x v hx hv
  · by_cases h2 : i < off + ds.length
    · rw [List.append_assoc, List.getElem?_append_right (by omega), List.getElem?_append_left (by omega), lx] at hx
      rw [List.append_assoc, List.getElem?_append_right (by omega), List.getElem?_append_left (by omega), lv] at hv
      exact hd.2 _ x v hx hv
    · rw [List.getElem?_append_right (by simp; omega), List.getElem?_drop] at hx hv
      simp only [List.length_append, lx, lv] at hx hv
      rw [← e2] at hv
      have e : off + ds.length + (i - (off + ds.length)) = i := by omega
      rw [e] at hx hv
      exact h.2 i x v hx hv
theorem run_loadVar_one {ty : TypeId} {A : Addr} {v : Value} {d : TypeDesc} (hu : P.underlying ty = some d) (hs : ∀ fs, d ≠ .struct fs) (ha : ∀ n e, d ≠ .array n e) (hc : w.cell? A = some v) : (loadVar ty A).run P w = .ok v w := by
  have h1 : (isAgg ty).run P w = .ok false w := by
    unfold isAgg
    simp only [Sem.run_bind, run_underlying hu, Result.andThen_ok]
    cases d <;> first | rfl | (exact absurd rfl (hs _)) | (exact absurd rfl (ha _ _))
  unfold loadVar
  simp only [Sem.run_bind, h1, Result.andThen_ok, Bool.false_eq_true, if_false]
  simp [load, Sem.run, hc]
theorem run_sizeOf' {ty : TypeId} {i : TypeInfo} (hi : P.info? ty = some i) : (sizeOf ty).run P w = .ok i.size w := by
  simp [sizeOf, typeInfo, program, Sem.run_bind, Sem.run, hi, Result.andThen]
theorem run_loadVar_agg {ty : TypeId} {A : Addr} {vs : List Value} {i : TypeInfo} {d : TypeDesc} (hu : P.underlying ty = some d) (hd : (∃ fs, d = .struct fs) ∨ ∃ n e, d = .array n e) (hi : P.info? ty = some i) (hl : vs.length = i.size) (hc : ∀ j v, vs[j]? = some v → w.cell? (A.add j) = some v) :
    (loadVar ty A).run P w = .ok (.agg vs.toArray) w := by
  have h1 : (isAgg ty).run P w = .ok true w := by
    unfold isAgg
    simp only [Sem.run_bind, run_underlying hu, Result.andThen_ok]
    rcases hd with ⟨fs, rfl⟩ | ⟨n, e, rfl⟩ <;> rfl
  unfold loadVar
  simp only [Sem.run_bind, h1, Result.andThen_ok, if_true, run_sizeOf' hi, ← hl, run_loadCells_list w A vs hc]
  rfl
end
end Go.Proofs.Ytinjgiigmlikpaa
