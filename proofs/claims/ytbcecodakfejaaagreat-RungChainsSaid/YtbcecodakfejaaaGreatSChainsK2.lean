/-
  My own texts, without what this claim does not need. My own text.
-/
import Derived.Below
import Derived.Still
import Derived.OrdersIn
import Derived.Laws.CopyRow
import Derived.Laws.Cells
import Derived.Test.YtbcecodakfejaaaGreatSChainsK1
set_option maxRecDepth 100000
set_option maxHeartbeats 64000000
set_option linter.unusedVariables false
set_option linter.unusedSimpArgs false
set_option linter.unusedSectionVars false
namespace Go.Proofs.YtbcecodakfejaaaGreat
open Go.RowKit
structure e0 where
  holds : World → Value → Prop
  kW : World → Value → Nat → Prop
  frame : ∀ w w' v, holds w v → (∀ b, kW w v b → w'.heap[b]? = w.heap[b]?) → holds w' v ∧ ∀ b, kW w' v b → kW w v b
  ik : ∀ w v b, holds w v → kW w v b → b < w.heap.size
  cell : ∀ w v, holds w v → v.oneCell' = true
inductive AC where
  | c (v : Value)
  | own (k off : Nat)
  | p (R : e0)
inductive bx where
  | one (x : AC)
  | agg (xs : List AC)
inductive ah where
  | w (x : bx)
  | cn (xs : List bx)
def bx.cells : bx → List AC
  | .one x => [x]
  | .agg xs => xs
def gE (U : Nat → Prop) (ad : Nat → Nat) (W : World) : AC → Value → Prop
  | .c v, x => x = v ∧ v.oneCell' = true
  | .own k off, x => x = .pointer (some ⟨ad k, off, none⟩)
  | .p R, x => R.holds W x ∧ ∀ b, R.kW W x b → U b
def bL (U : Nat → Prop) (ad : Nat → Nat) (W : World) (xs : List AC) (vs : List Value) : Prop :=
  xs.length = vs.length ∧ ∀ (i : Nat) (x : AC) (v : Value), xs[i]? = some x → vs[i]? = some v → gE U ad W x v
def fR (U : Nat → Prop) (ad : Nat → Nat) (W : World) : bx → Value → Prop
  | .one x, v => gE U ad W x v
  | .agg xs, v => ∃ vs : List Value, v = .agg vs.toArray ∧ bL U ad W xs vs
def cX (U : Nat → Prop) (ad : Nat → Nat) (W : World) : ah → Value → Prop
  | .w x, v => fR U ad W x v
  | .cn xs, v => ∃ vs : List Value, v = .tuple vs.toArray ∧ xs.length = vs.length ∧ ∀ (i : Nat) (x : bx) (v : Value), xs[i]? = some x → vs[i]? = some v → fR U ad W x v
def AC.owns : AC → Nat → Prop
  | .own k _, j => j = k
  | _, _ => False
def bx.owns (x : bx) (j : Nat) : Prop := ∃ y ∈ x.cells, y.owns j
def ah.owns : ah → Nat → Prop
  | .w x, j => x.owns j
  | .cn xs, j => ∃ x ∈ xs, x.owns j
section
variable {U cw : Nat → Prop} {ad a7 : Nat → Nat} {W bf : World}
theorem gE.cell {x : AC} {v : Value} (h : gE U ad W x v) : v.oneCell' = true := by
  cases x with
  | c u => obtain ⟨rfl, h⟩ := h; exact h
  | own k off => cases h; rfl
  | p R => exact R.cell _ _ h.1
theorem gE.map {x : AC} {v : Value} (h : gE U ad W x v) (di : ∀ b, U b → b < W.heap.size → cw b ∧ bf.heap[b]? = W.heap[b]?) (jr : ∀ j, x.owns j → a7 j = ad j) : gE cw a7 bf x v := by
  cases x with
  | c u => exact h
  | own k off => simp only [gE] at h ⊢; rw [h, jr k rfl]
  | p R =>
    obtain ⟨h1, h2⟩ := h;have ao := R.frame W bf v h1 (fun b ab => (di b (h2 b ab) (R.ik _ _ _ h1 ab)).2);exact ⟨ao.1, fun b ab => (di b (h2 b (ao.2 b ab)) (R.ik _ _ _ h1 (ao.2 b ab))).1⟩
theorem bL.map {xs : List AC} {vs : List Value} (h : bL U ad W xs vs) (di : ∀ b, U b → b < W.heap.size → cw b ∧ bf.heap[b]? = W.heap[b]?) (jr : ∀ j x, x ∈ xs → x.owns j → a7 j = ad j) : bL cw a7 bf xs vs :=
  ⟨h.1, fun i x v aa hv => (h.2 i x v aa hv).map di fun j ae => jr j x (cV aa) ae⟩
theorem fR.map {x : bx} {v : Value} (h : fR U ad W x v) (di : ∀ b, U b → b < W.heap.size → cw b ∧ bf.heap[b]? = W.heap[b]?) (jr : ∀ j, x.owns j → a7 j = ad j) : fR cw a7 bf x v := by
  cases x with
  | one x => exact gE.map h di fun j ae => jr j ⟨x, by simp [bx.cells], ae⟩
  | agg xs =>
    obtain ⟨vs, e, h⟩ := h;exact ⟨vs, e, h.map di fun j x aa ae => jr j ⟨x, aa, ae⟩⟩
theorem cX.map {x : ah} {v : Value} (h : cX U ad W x v) (di : ∀ b, U b → b < W.heap.size → cw b ∧ bf.heap[b]? = W.heap[b]?) (jr : ∀ j, x.owns j → a7 j = ad j) : cX cw a7 bf x v := by
  cases x with
  | w x => exact fR.map h di jr
  | cn xs =>
    obtain ⟨vs, e, ak, h⟩ := h;exact ⟨vs, e, ak, fun i x v aa hv => (h i x v aa hv).map di fun j ae => jr j ⟨x, cV aa, ae⟩⟩
theorem fR.cells {x : bx} {v : Value} (h : fR U ad W x v) : bL U ad W x.cells v.cells.toList := by
  cases x with
  | one x =>
    have al : v.cells = #[v] := by
      have := gE.cell h;cases v <;> simp_all [Value.cells, Value.oneCell']
    rw [al];refine ⟨rfl, fun i y u ai hu => ?_⟩;simp only [bx.cells] at ai;cases i with
    | zero => simp at ai hu; subst ai; subst hu; exact h
    | succ i => simp at ai
  | agg xs =>
    obtain ⟨vs, rfl, h⟩ := h;exact h
end
def bG {α : Type} (f : Nat → Option α) (k : Nat) (v : α) : Nat → Option α := fun j => bif Nat.beq j k then some v else f j
theorem cl {α : Type} (f : Nat → Option α) (k : Nat) (v : α) : bG f k v k = some v := by simp [bG]
theorem b9 {α : Type} (f : Nat → Option α) {k j : Nat} (v : α) (h : j ≠ k) : bG f k v j = f j := by
  have : Nat.beq j k = false := by
    cases ab : Nat.beq j k with
    | false => rfl
    | true => exact absurd (hr ab) h
  simp [bG, this]
theorem Sr {α : Type} (f : Nat → Option α) {k j : Nat} (v u : α) (h : j ≠ k) : bG (bG f k v) j u = bG (bG f j u) k v := by
  funext i
  by_cases h1 : i = j
  · subst h1; rw [cl, b9 _ _ h, cl]
  · by_cases h2 : i = k
    · subst h2; rw [b9 _ _ h1, cl, cl]
    · rw [b9 _ _ h1, b9 _ _ h2, b9 _ _ h2, b9 _ _ h1]
structure aC where
  n : Nat
  tmps : Nat → Option ah
  mem : Nat → Option (List AC)
def aC.put (s : aC) (dst : Option Nat) (v : ah) : aC :=
  match dst with
  | some d => { s with tmps := bG s.tmps d v }
  | none => s
def aC.ed (s : aC) (k : Nat) (cs : List AC) : aC := { s with mem := bG s.mem k cs }
def PW : Value → bx
  | .agg cs => .agg (cs.toList.map .c)
  | v => .one (.c v)
def xh : Value → ah
  | .tuple vs => .cn (vs.toList.map PW)
  | v => .w (PW v)
def aC.look (s : aC) : Operand → Option ah
  | .tmp t => s.tmps t
  | .const v => if v.oneCell' then some (.w (.one (.c v))) else none
  | .global g => some (.w (.one (.c (.pointer (some ⟨g, 0, none⟩)))))
  | .func f => some (.w (.one (.c (.func (.func f) #[] #[]))))
def aC.free (s : aC) (A : Nat → Prop) (ad : Nat → Nat) (b : Nat) : Prop := A b ∧ ∀ k cs, s.mem k = some cs → ad k ≠ b
structure aC.cN (s : aC) : Prop where
  hc : ∀ t av j, s.tmps t = some av → av.owns j → ∃ cs, s.mem j = some cs
  dC : ∀ k cs x j, s.mem k = some cs → x ∈ cs → x.owns j → ∃ ar, s.mem j = some ar
structure eZ where
  W : World
  F : Nat → Prop
  lt : ∀ b, F b → b < W.heap.size
  N : Nat → Option Nat
  marks : List Deferred := []
def eZ.all (W : World) : eZ := ⟨W, fun b => b < W.heap.size, fun _ h => h, fun _ => none, []⟩
def ui (B : eZ) (s : aC) (ad : Nat → Nat) : Prop := ∀ k b, B.N k = some b → s.n ≤ k ∧ ad k = b
structure j3 (B : eZ) (w : World) : Prop where
  os : w.os = B.W.os
  tape : w.tape = B.W.tape
  output : w.output = B.W.output
  size : B.W.heap.size ≤ w.heap.size
  block : ∀ b, B.F b → w.heap[b]? = B.W.heap[b]?
theorem j3.then {B : eZ} {w w' : World} (h : j3 B w) (ab : Below w.heap.size w w') : j3 B w' :=
  ⟨ab.os.trans h.os, ab.tape.trans h.tape, ab.output.trans h.output, il h.size ab.size, fun b au => (ab.block b (sn (B.lt b au) h.size)).trans (h.block b au)⟩
theorem j3.refl (B : eZ) : j3 B B.W := ⟨rfl, rfl, rfl, dE _, fun _ _ => rfl⟩
theorem j3.all {W w : World} (h : j3 (eZ.all W) w) : Below W.heap.size W w := ⟨h.os, h.tape, h.output, h.size, fun k af => h.block k af⟩
structure Rel (B : eZ) (A : Nat → Prop) (s : aC) (ad : Nat → Nat) (a : Act) (w : World) : Prop where
  pY : a.defers = B.marks
  size : a.tmps.size = s.n
  hc : ∀ t av, s.tmps t = some av → ∃ v, a.tmps[t]? = some v ∧ cX (s.free A ad) ad w av v
  dC : ∀ k cs, s.mem k = some cs → ∃ (vs : List Value) (ty : TypeId), w.heap[ad k]? = some (.cells vs.toArray ty (0, 0)) ∧ bL (s.free A ad) ad w cs vs ∧ ¬ B.F (ad k)
  inj : ∀ k k' cs ar, s.mem k = some cs → s.mem k' = some ar → ad k = ad k' → k = k'
  below : j3 B w
  up : ∀ b, B.W.heap.size ≤ b → A b
  j7 : ui B s ad
section
variable {B : eZ} {A : Nat → Prop} {s : aC} {ad : Nat → Nat} {a : Act} {w w' : World}
theorem aC.Xi (s : aC) (dst : Option Nat) (v : ah) (A : Nat → Prop) (ad : Nat → Nat) : (s.put dst v).free A ad = s.free A ad := by cases dst <;> rfl
theorem aC.xc (s : aC) (dst : Option Nat) (v : ah) : (s.put dst v).mem = s.mem := by cases dst <;> rfl
theorem aC.sd (s : aC) (dst : Option Nat) (v : ah) : (s.put dst v).n = s.n := by cases dst <;> rfl
theorem Rel.put {dst : Option Nat} {av : ah} {v : Value} (h : Rel B A s ad a w) (hd : ∀ d, dst = some d → d < s.n) (hv : cX (s.free A ad) ad w av v) : Rel B A (s.put dst av) ad (a.put dst v) w := by
  cases dst with
  | none => exact h
  | some d =>
    have bb := hd d rfl;refine ⟨h.pY, by simp [aC.put, Act.put, h.size], fun t bv aB => ?_, h.dC, h.inj, h.below, h.up, h.j7⟩;simp only [aC.put] at aB
    by_cases e : t = d
    · subst e
      rw [cl] at aB;cases aB;exact ⟨v, by simp [Act.put, h.size, bb], hv⟩
    · rw [b9 _ _ e] at aB
      obtain ⟨u, h1, h2⟩ := h.hc t bv aB;exact ⟨u, by simp only [Act.put]; rw [Array.getElem?_setIfInBounds_ne (Ne.symm e)]; exact h1, h2⟩
theorem Rel.lt {k : Nat} {cs : List AC} (h : Rel B A s ad a w) (af : s.mem k = some cs) : ad k < w.heap.size := by
  obtain ⟨vs, ty, h1, _⟩ := h.dC k cs af;exact (jU.1 h1).1
theorem Rel.call (h : Rel B A s ad a w) (ab : Below w.heap.size w w') : Rel B A s ad a w' := by
  have di : ∀ b, s.free A ad b → b < w.heap.size → s.free A ad b ∧ w'.heap[b]? = w.heap[b]? := fun b dc ak => ⟨dc, ab.block b ak⟩;refine ⟨h.pY, h.size, fun t av aB => ?_, fun k cs af => ?_, h.inj, h.below.then ab, h.up, h.j7⟩
  · obtain ⟨v, h1, h2⟩ := h.hc t av aB
    exact ⟨v, h1, h2.map di fun _ _ => rfl⟩
  · obtain ⟨vs, ty, h1, h2, ao⟩ := h.dC k cs af
    exact ⟨vs, ty, by rw [ab.block _ (h.lt af)]; exact h1, h2.map di fun _ _ _ _ => rfl, ao⟩
theorem Rel.new {d : Nat} {cs : List AC} {vs : List Value} {ty : TypeId} (h : Rel B A s ad a w) (ok : s.cN) (fU : d < s.n) (hm : s.mem d = none) (hv : bL (s.free A ad) ad w cs vs) (eu : ∀ x ∈ cs, ∀ j, x.owns j → ∃ ar, s.mem j = some ar) :
    Rel B A (s.ed d cs) (fun k => if k = d then w.heap.size else ad k) a (w.alloc (.cells vs.toArray ty)) := by
  have bU : ∀ k ar, s.mem k = some ar → k ≠ d := fun k ar af e => by subst e; rw [hm] at af; cases af
  have di : ∀ b, s.free A ad b → b < w.heap.size → (s.ed d cs).free A (fun k => if k = d then w.heap.size else ad k) b ∧ (w.alloc (.cells vs.toArray ty)).heap[b]? = w.heap[b]? := by
    intro b ab ak;refine ⟨⟨ab.1, fun k ar af => ?_⟩, Below.heap_alloc _ _ _ ak⟩;simp only [aC.ed] at af
    by_cases e : k = d
    · subst e; simp; omega
    · rw [b9 _ _ e] at af
      simp only [e, if_false];exact ab.2 k ar af
  have cD : ∀ j, (∃ ar, s.mem j = some ar) → (if j = d then w.heap.size else ad j) = ad j := fun j ⟨ar, ae⟩ => by rw [if_neg (bU j ar ae)]
  refine ⟨h.pY, h.size, fun t av aB => ?_, fun k ar af => ?_, fun k k' c1 c2 af eI e => ?_, h.below.then ((Below.refl _ _).alloc (dE _) _), h.up, fun k b af => ?_⟩
  · obtain ⟨v, h1, h2⟩ := h.hc t av aB
    exact ⟨v, h1, h2.map di fun j ae => cD j (ok.hc t av j aB ae)⟩
  · simp only [aC.ed] at af
    by_cases e : k = d
    · subst e
      rw [cl] at af;cases af;refine ⟨vs, ty, ?_, hv.map di fun j x aa ae => cD j (eu x aa j ae), ?_⟩
      · show (w.heap.push _)[if k = k then w.heap.size else ad k]? = _; simp
      · simp only [if_true]; exact fun au => by have := B.lt _ au; have := h.below.size; omega
    · rw [b9 _ _ e] at af
      obtain ⟨us, t, h1, h2, ao⟩ := h.dC k ar af;refine ⟨us, t, ?_, h2.map di fun j x aa ae => cD j (ok.dC k ar x j af aa ae), ?_⟩
      · simp only [e, if_false]; rw [Below.heap_alloc _ _ _ (h.lt af)]; exact h1
      · simp only [e, if_false]; exact ao
  · simp only [aC.ed] at af eI
    by_cases aF : k = d <;> by_cases aP : k' = d
    · rw [aF, aP]
    · rw [b9 _ _ aP] at eI
      have := h.lt eI;simp [aF, aP] at e;omega
    · rw [b9 _ _ aF] at af
      have := h.lt af;simp [aF, aP] at e;omega
    · rw [b9 _ _ aF] at af
      rw [b9 _ _ aP] at eI;simp [aF, aP] at e;exact h.inj k k' _ _ af eI e
  · obtain ⟨h1, h2⟩ := h.j7 k b af
    refine ⟨h1, ?_⟩;rw [if_neg (fun e => by subst e; exact absurd fU (Nat.not_lt.2 h1))];exact h2
theorem Rel.set {k : Nat} {cs ds : List AC} {us : List Value} (h : Rel B A s ad a w) (af : s.mem k = some cs) (hv : bL (s.free A ad) ad w ds us) : Rel B A (s.ed k ds) ad a (w.setRow (ad k) us.toArray) := by
  have jG : (s.ed k ds).free A ad = s.free A ad := by
    funext b;apply propext
    constructor
    · rintro ⟨ec, ab⟩
      refine ⟨ec, fun j ar ae => ?_⟩
      by_cases e : j = k
      · subst e; exact ab j ds (by simp [aC.ed, cl])
      · exact ab j ar (by simp only [aC.ed]; rw [b9 _ _ e]; exact ae)
    · rintro ⟨ec, ab⟩
      refine ⟨ec, fun j ar ae => ?_⟩;simp only [aC.ed] at ae
      by_cases e : j = k
      · subst e; exact ab j cs af
      · rw [b9 _ _ e] at ae; exact ab j ar ae
  obtain ⟨vs, ty, g1, g2, g3⟩ := h.dC k cs af;have ni : (w.setRow (ad k) us.toArray).heap[ad k]? = some (.cells us.toArray ty (0, 0)) := setRow_heap w (ad k) vs.toArray us.toArray ty (0, 0) g1
  have u4 : ∀ b, b ≠ ad k → (w.setRow (ad k) us.toArray).heap[b]? = w.heap[b]? := fun b ab => by
    simp only [World.setRow, tU]; rw [if_neg (Ne.symm ab)]
  have di : ∀ b, s.free A ad b → b < w.heap.size → s.free A ad b ∧ (w.setRow (ad k) us.toArray).heap[b]? = w.heap[b]? := fun b ab _ => ⟨ab, u4 b (Ne.symm (ab.2 k cs af))⟩;refine ⟨h.pY, h.size, fun t av aB => ?_, fun j ar ae => ?_, fun j eR c1 c2 ae jH e => ?_, ?_, h.up, h.j7⟩
  · obtain ⟨v, h1, h2⟩ := h.hc t av aB
    exact ⟨v, h1, by rw [jG]; exact h2.map di fun _ _ => rfl⟩
  · simp only [aC.ed] at ae
    rw [jG]
    by_cases e : j = k
    · subst e
      rw [cl] at ae;cases ae;exact ⟨us, ty, ni, hv.map di fun _ _ _ _ => rfl, g3⟩
    · rw [b9 _ _ e] at ae
      obtain ⟨vI, agY, h1, h2, ao⟩ := h.dC j ar ae;exact ⟨vI, agY, by rw [u4 _ (fun bo => e (h.inj j k _ _ ae af bo))]; exact h1, h2.map di fun _ _ _ _ => rfl, ao⟩
  · have hold : ∀ i c, (s.ed k ds).mem i = some c → ∃ c', s.mem i = some c' := fun i c hi => by
      simp only [aC.ed] at hi
      by_cases e : i = k
      · exact ⟨cs, by rw [e]; exact af⟩
      · rw [b9 _ _ e] at hi; exact ⟨c, hi⟩
    obtain ⟨d1, q1⟩ := hold j c1 ae;obtain ⟨d2, q2⟩ := hold eR c2 jH;exact h.inj j eR _ _ q1 q2 e
  · exact ⟨h.below.os, h.below.tape, h.below.output, by have := h.below.size; simpa [World.setRow] using this, fun b ab => (u4 b (fun e => by subst e; exact g3 ab)).trans (h.below.block b ab)⟩
end
def ah.closed (x : ah) : Prop := ∀ j, ¬ x.owns j
def j6 (U : Nat → Prop) (ad : Nat → Nat) (W : World) (xs : List ah) (vs : List Value) : Prop :=
  xs.length = vs.length ∧ ∀ (i : Nat) (x : ah) (v : Value), xs[i]? = some x → vs[i]? = some v → cX U ad W x v
structure aH (P : Program) (f : FuncId) (args : List ah) (r : ah) : Prop where
  jC : ∀ x ∈ args, x.closed
  b0 : r.closed
  call : ∀ (U : Nat → Prop) (W : World) (vs : List Value), j6 U id W args vs →
    Calls P f vs.toArray W fun e bf => ∃ v, e = .returned v ∧ cX (fun b => U b ∨ W.heap.size ≤ b) id bf r v ∧ Below W.heap.size W bf
structure vR (P : Program) (look : Operand → Option ah) (o : Oper) (av : ah) : Prop where
  afU : ∀ cs b, o.op ≠ .select cs b
  ops : ∀ x ∈ o.op.operands, ∃ a, look x = some a
  run : ∀ (U : Nat → Prop) (ad : Nat → Nat) (W : World) (env : Operand → Value), (∀ x ∈ o.op.operands, ∀ a, look x = some a → cX U ad W a (env x)) →
    ∃ v, (execOp env o).run P W = .ok (.value v) W ∧ cX U ad W av v
  own : ∀ j, av.owns j → ∃ x ∈ o.op.operands, ∃ a, look x = some a ∧ a.owns j
def pick (P : Program) (ty : TypeId) (cs : List AC) (off : Nat) : Option bx :=
  match P.underlying ty with
  | some (.struct _) | some (.array _ _) => (P.info? ty).bind fun i => if off + i.size ≤ cs.length then some (.agg ((cs.drop off).take i.size)) else none
  | some _ => (cs[off]?).map .one
  | none => none
def eD (cs : List AC) (off : Nat) (ds : List AC) : List AC := cs.take off ++ ds ++ cs.drop (off + ds.length)
inductive uy (P : Program) (look : Operand → Option ah) (o : Oper) : List AC → Prop
  | alloc (ty : TypeId) (i : TypeInfo) (z : Value) (cs : List AC) (aA : o.op = .alloc ty) (hi : P.info? ty = some i) (aN : i.zero = some z) (al : cs = z.cells.toList.map .c) (h1 : (z.cells.toList.all fun v => v.oneCell') = true) : uy P look o cs
  | box (ty : TypeId) (x : Operand) (z : bx) (aA : o.op = .box ty x) (aa : look x = some (.w z)) : uy P look o z.cells
def enters (P : Program) (f : FuncId) : Bool := match P.funcs[f]? with
  | some fn => fn.body.isSome && fn.name != "runtime.NumGoroutine"
  | none => false
def Bl : Value → Bool
  | .agg cs => cs.toList.all fun v => v.oneCell'
  | .tuple _ => false
  | _ => true
def Fo (w : World) : AC → Value → Nat → Prop
  | .p R, x, b => R.kW w x b
  | _, _, _ => False
def pg (fn : Fn) (cs : List AC) : e0 where
  holds w v := ∃ vs : List Value, v = .func fn #[] vs.toArray ∧ bL (fun _ => True) id w cs vs ∧ ∀ x ∈ cs, ∀ j, ¬ x.owns j
  kW w v b := ∃ vs : List Value, v = .func fn #[] vs.toArray ∧ ∃ (i : Nat) (x : AC) (u : Value), cs[i]? = some x ∧ vs[i]? = some u ∧ Fo w x u b
  frame w w' v := by
    rintro ⟨vs, rfl, ak, al⟩ au
    have key : ∀ (i : Nat) (x : AC) (u : Value), cs[i]? = some x → vs[i]? = some u → gE (fun _ => True) id w' x u ∧ ∀ b, Fo w' x u b → Fo w x u b := by
      intro i x u aa hu;have h := ak.2 i x u aa hu;cases x with
      | c y => exact ⟨h, fun b ab => ab⟩
      | own k o => exact ⟨h, fun b ab => ab⟩
      | p R =>
        have := R.frame w w' u h.1 fun b ab => au b ⟨vs, rfl, i, _, u, aa, hu, ab⟩;exact ⟨⟨this.1, fun _ _ => trivial⟩, this.2⟩
    refine ⟨⟨vs, rfl, ⟨ak.1, fun i x u aa hu => (key i x u aa hu).1⟩, al⟩, ?_⟩;rintro b ⟨vI, e, i, x, u, aa, hu, ab⟩;have bo : vs = vI := by simpa using e
    subst bo;exact ⟨vs, rfl, i, x, u, aa, hu, (key i x u aa hu).2 b ab⟩
  ik w v b := by
    rintro ⟨vs, rfl, ak, al⟩ ⟨vI, e, i, x, u, aa, hu, ab⟩;have bo : vs = vI := by simpa using e
    subst bo;have h := ak.2 i x u aa hu;cases x with
    | p R => exact R.ik _ _ _ h.1 ab
    | c y => cases ab
    | own k o => cases ab
  cell w v := by rintro ⟨vs, rfl, _⟩; rfl
theorem pg.VM {U : Nat → Prop} {ad : Nat → Nat} {w : World} {v : Value} {fn : Fn} {cs : List AC} (h : gE U ad w (.p (pg fn cs)) v) : ∃ vs : List Value, v = .func fn #[] vs.toArray ∧ bL U id w cs vs := by
  obtain ⟨⟨vs, rfl, ak, al⟩, au⟩ := h;refine ⟨vs, rfl, ak.1, fun i x u aa hu => ?_⟩;have h := ak.2 i x u aa hu;cases x with
  | c y => exact h
  | own k o => exact h
  | p R => exact ⟨h.1, fun b ab => au b ⟨vs, rfl, i, _, u, aa, hu, ab⟩⟩
structure sI (P : Program) (look : Operand → Option ah) (o : Oper) (f : FuncId) (args : List ah) : Prop where
  ex : ∃ c g, o.op = .call c ∧ c.callee = .value g ∧
    ((∃ bs : List Value, look g = some (.w (.one (.c (.func (.func f) bs.toArray #[])))) ∧ bs.map (fun b => some (xh b)) ++ c.args.toList.map look = args.map some ∧ bs.all Bl = true) ∨
     ∃ cs : List AC, look g = some (.w (.one (.p (pg (.func f) cs)))) ∧ c.args.toList.map look ++ cs.map (fun x => some (.w (.one x))) = args.map some)
  enters : enters P f = true
structure vN (P : Program) (look : Operand → Option ah) (o : Oper) (av : ah) : Prop where
  ops : ∀ x ∈ o.op.operands, ∃ a, look x = some a
  pA : av.closed
  run : ∀ (U : Nat → Prop) (ad : Nat → Nat) (W : World) (env : Operand → Value), (∀ x ∈ o.op.operands, ∀ a, look x = some a → cX U ad W a (env x)) →
    ∃ v bf, (execOp env o).run P W = .ok (.value v) bf ∧ cX (fun b => U b ∨ W.heap.size ≤ b) ad bf av v ∧ Below W.heap.size W bf
inductive k9 (P : Program) (s : aC) (o : Oper) : aC → Prop
  | fresh (av : ah) (an : vN P s.look o av) (hd : ∀ d, o.dst = some d → d < s.n) : k9 P s o (s.put o.dst av)
  | quiet (av : ah) (an : vR P s.look o av) (hd : ∀ d, o.dst = some d → d < s.n) : k9 P s o (s.put o.dst av)
  | load (ty : TypeId) (x : Operand) (k off : Nat) (cs : List AC) (av : bx) (aA : o.op = .load ty x) (aa : s.look x = some (.w (.one (.own k off)))) (hm : s.mem k = some cs) (hv : pick P ty cs off = some av) (hd : ∀ d, o.dst = some d → d < s.n) : k9 P s o (s.put o.dst (.w av))
  | store (ty : TypeId) (x y : Operand) (k off : Nat) (cs : List AC) (z : bx) (i : TypeInfo) (aA : o.op = .store ty x y) (aa : s.look x = some (.w (.one (.own k off)))) (ai : s.look y = some (.w z)) (hm : s.mem k = some cs) (hi : P.info? ty = some i) (hs : i.size = z.cells.length) (ab : off + z.cells.length ≤ cs.length) (hd : ∀ d, o.dst = some d → d < s.n) : k9 P s o ((s.put o.dst (.cn [])).ed k (eD cs off z.cells))
  | new (cs : List AC) (d : Nat) (dA : o.dst = some d) (hm : s.mem d = none) (ax : uy P s.look o cs) (hd : d < s.n) : k9 P s o ((s.ed d cs).put (some d) (.w (.one (.own d 0))))
  | call (f : FuncId) (args : List ah) (r : ah) (al : sI P s.look o f args) (hp : aH P f args r) (hd : ∀ d, o.dst = some d → d < s.n) : k9 P s o (s.put o.dst r)
section
variable {P : Program} {B : eZ} {A : Nat → Prop} {s s' : aC} {ad : Nat → Nat} {a : Act} {w : World} {o : Oper} {Q : Exit → Act → World → Prop}
theorem cX.undef (U : Nat → Prop) : cX U ad w (.cn []) undef := ⟨[], rfl, rfl, fun i x v h => by simp at h⟩
theorem Rel.look {x : Operand} {av : ah} (h : Rel B A s ad a w) (aa : s.look x = some av) : cX (s.free A ad) ad w av (a.eval x) := by
  cases x with
  | tmp t =>
    obtain ⟨v, h1, h2⟩ := h.hc t av aa;have : a.eval (.tmp t) = v := by simp [Act.eval, Array.getD_eq_getD_getElem?, h1]
    rw [this]; exact h2
  | const v =>
    simp only [aC.look] at aa
    split at aa
    · rename_i h1; cases aa; exact ⟨rfl, h1⟩
    · cases aa
  | global g => cases aa; exact ⟨rfl, rfl⟩
  | func f => cases aa; exact ⟨rfl, rfl⟩
theorem bL.cellAt {U : Nat → Prop} {W : World} {xs : List AC} {vs : List Value} {g : Nat} {ty : TypeId} (h : bL U ad W xs vs) (aq : W.heap[g]? = some (.cells vs.toArray ty (0, 0))) {i : Nat} {x : AC} (hi : xs[i]? = some x) :
    ∃ v, vs[i]? = some v ∧ W.cell? ⟨g, i, none⟩ = some v ∧ gE U ad W x v := by
  have bb : i < vs.length := by
    rw [← h.1];rcases hZ i xs.length with q | q
    · exact q
    · rw [l7 q] at hi; cases hi
  refine ⟨vs[i], bJ bb, ?_, h.2 i x _ hi (bJ bb)⟩;simp [World.cell?, aq, bb]
theorem bL.sub {U : Nat → Prop} {W : World} {xs : List AC} {vs : List Value} (h : bL U ad W xs vs) (off n : Nat) : bL U ad W ((xs.drop off).take n) ((vs.drop off).take n) := by
  refine ⟨by simp [h.1], fun i x v aa hv => ?_⟩;rw [List.getElem?_take] at aa hv
  split at aa
  · rename_i bb
    rw [if_pos bb] at hv;rw [fP] at aa hv;exact h.2 _ x v aa hv
  · cases aa
theorem bL.eD {U : Nat → Prop} {W : World} {xs ds : List AC} {vs us : List Value} (h : bL U ad W xs vs) (hd : bL U ad W ds us) (off : Nat) (ab : off + ds.length ≤ xs.length) : bL U ad W (eD xs off ds) (vs.take off ++ us ++ vs.drop (off + us.length)) := by
  have aF := h.1;have aP := hd.1;refine ⟨by simp [Proofs.YtbcecodakfejaaaGreat.eD, aF, aP], fun i x v aa hv => ?_⟩;unfold Proofs.YtbcecodakfejaaaGreat.eD at aa;have dv : (xs.take off).length = off := by simp; omega
  have C7 : (vs.take off).length = off := by simp; omega
  by_cases h1 : i < off
  · rw [im, gl (by omega), fw h1] at aa
    rw [im, gl (by omega), fw h1] at hv;exact h.2 i x v aa hv
  · by_cases h2 : i < off + ds.length
    · rw [im, gL (by omega), gl (by omega), dv] at aa
      rw [im, gL (by omega), gl (by omega), C7] at hv;exact hd.2 _ x v aa hv
    · rw [gL (by simp; omega), fP] at aa hv
      simp only [cF, dv, C7] at aa hv;rw [← aP] at hv;have e : off + ds.length + (i - (off + ds.length)) = i := by omega
      rw [e] at aa hv;exact h.2 i x v aa hv
theorem IW {ty : TypeId} {A : Addr} {v : Value} {d : TypeDesc} (hu : P.underlying ty = some d) (hs : ∀ bg, d ≠ .struct bg) (aJ : ∀ n e, d ≠ .array n e) (al : w.cell? A = some v) : (loadVar ty A).run P w = .ok v w := by
  have h1 : (isAgg ty).run P w = .ok false w := by
    unfold isAgg;simp only [Sem.run_bind, run_underlying hu, Result.andThen_ok];cases d <;> first | rfl | (exact absurd rfl (hs _)) | (exact absurd rfl (aJ _ _))
  unfold loadVar;simp only [Sem.run_bind, h1, Result.andThen_ok, nz, if_false];simp [load, Sem.run, al]
theorem hK {ty : TypeId} {i : TypeInfo} (hi : P.info? ty = some i) : (sizeOf ty).run P w = .ok i.size w := by
  simp [sizeOf, typeInfo, program, Sem.run_bind, Sem.run, hi, Result.andThen]
theorem IV {ty : TypeId} {A : Addr} {vs : List Value} {i : TypeInfo} {d : TypeDesc} (hu : P.underlying ty = some d) (hd : (∃ bg, d = .struct bg) ∨ ∃ n e, d = .array n e) (hi : P.info? ty = some i) (ak : vs.length = i.size) (al : ∀ j v, vs[j]? = some v → w.cell? (A.add j) = some v) :
    (loadVar ty A).run P w = .ok (.agg vs.toArray) w := by
  have h1 : (isAgg ty).run P w = .ok true w := by
    unfold isAgg;simp only [Sem.run_bind, run_underlying hu, Result.andThen_ok];rcases hd with ⟨bg, rfl⟩ | ⟨n, e, rfl⟩ <;> rfl
  unfold loadVar;simp only [Sem.run_bind, h1, Result.andThen_ok, if_true, hK hi, ← ak, run_loadCells_list w A vs al];rfl
end
section
variable {P : Program} {B : eZ} {A : Nat → Prop} {s s' : aC} {ad : Nat → Nat} {a : Act} {w : World} {o : Oper} {Q : Exit → Act → World → Prop}
theorem QO {U : Nat → Prop} {ty : TypeId} {cs : List AC} {off g : Nat} {av : bx} {vs : List Value} {t : TypeId} (hv : pick P ty cs off = some av) (aq : w.heap[g]? = some (.cells vs.toArray t (0, 0))) (ak : bL U ad w cs vs) :
    ∃ v, (loadVar ty ⟨g, off, none⟩).run P w = .ok v w ∧ fR U ad w av v := by
  unfold pick at hv
  have key : ∀ d, P.underlying ty = some d → ((∃ bg, d = .struct bg) ∨ ∃ n e, d = .array n e) → ((P.info? ty).bind fun i => if off + i.size ≤ cs.length then some (bx.agg ((cs.drop off).take i.size)) else none) = some av → ∃ v, (loadVar ty ⟨g, off, none⟩).run P w = .ok v w ∧ fR U ad w av v := by
    intro d hu hd h;cases hi : P.info? ty with
    | none => rw [hi] at h; cases h
    | some i =>
      rw [hi] at h;simp only [kh] at h
      split at h
      · rename_i hle
        cases h;have hs := ak.sub off i.size;have hlen : ((vs.drop off).take i.size).length = i.size := by have := ak.1; simp; omega
        refine ⟨_, IV hu hd hi hlen (fun j v ae => ?_), _, rfl, hs⟩;have jH : j < i.size := by rw [← hlen]; exact (bA.1 ae).1
        rw [fw jH, fP] at ae;have ku : (⟨g, off, none⟩ : Addr).add j = ⟨g, off + j, none⟩ := by unfold Addr.add; split <;> simp_all
        rw [ku];simp only [World.cell?, aq];simpa using ae
      · cases h
  have HI : ∀ d, P.underlying ty = some d → (∀ bg, d ≠ .struct bg) → (∀ n e, d ≠ .array n e) → (cs[off]?).map bx.one = some av → ∃ v, (loadVar ty ⟨g, off, none⟩).run P w = .ok v w ∧ fR U ad w av v := by
    intro d hu h1 h2 h;cases aa : cs[off]? with
    | none => rw [aa] at h; cases h
    | some x =>
      rw [aa] at h;cases h;obtain ⟨v, q1, q2, bR⟩ := ak.cellAt aq aa;exact ⟨v, IW hu h1 h2 q2, bR⟩
  cases hu : P.underlying ty with
  | none => rw [hu] at hv; cases hv
  | some d =>
    rw [hu] at hv;cases d <;> first | exact key _ hu (.inl ⟨_, rfl⟩) hv | exact key _ hu (.inr ⟨_, _, rfl⟩) hv | exact HI _ hu (fun _ h => by cases h) (fun _ _ h => by cases h) hv
theorem BG {f : FuncId} {args : Array Value} (h : enters P f = true) : (callFunc f args).run P w = .ok (.enter f args) w := by
  unfold enters at h;cases au : P.funcs[f]? with
  | none => rw [au] at h; cases h
  | some fn =>
    rw [au] at h;simp only [c5, bne_iff_ne, ne_eq] at h;obtain ⟨h1, h2⟩ := h;simp [callFunc, program, Sem.run_bind, Sem.run, au, Result.andThen, h2];intro ao;rw [ao] at h1;cases h1
def mm (ro : Option Nat) : Fence := { Fence.wide with round := ro }
theorem VL {ro : Option Nat} {n : Nat} {P : Program} {f : FuncId} {args : Array Value} {w : World} {R : Ending → World → Prop} (h : Calls P f args w R) : CallsIn (mm ro) n P f args w R := callsIn_wide.2 h
theorem afo {ro : Option Nat} {n : Nat} {P : Program} {row : String} {args : Array Value} {w : World} {R : Value → World → Prop} (h : Rows P row args w R) : RowsIn (mm ro) n P row args w R := fun c cs _ => by
  obtain ⟨v, w', ap, hs⟩ := h c cs;exact ⟨v, w', ap, stepsIn_wide.2 hs⟩
theorem xg {P : Program} {ad : Operand → Value} {o : Oper} {w w' : World} {x : Next} (h : (execOp ad o).run P w = .ok x w') (aa : ∀ d, x ≠ .defer d) : ∀ c, o.op ≠ .defer c := fun c al => by
  simp only [execOp, al, Sem.run_bind] at h;cases ap : (resolve ad c o.type).run P w with
  | ok d w2 => rw [ap] at h; simp only [Result.andThen_ok, Sem.run_pure, Result.ok.injEq] at h; exact aa d h.1.symm
  | halt r w2 => rw [ap] at h; simp [Result.andThen] at h
theorem Oper.SK {ro : Option Nat} {n : Nat} {P : Program} {o : Oper} {a : Act} {w : World} {K : Act → World → Prop} {Q : Exit → Act → World → Prop} (h : o.wp P a w K Q) (hd : ∀ c, o.op ≠ .defer c) : o.wpIn (mm ro) n P a w K Q := by
  refine ⟨fun _ _ => trivial, ?_⟩;rw [Oper.semAt_eq _ _ _ hd];unfold Oper.wp at h;generalize (execOp a.eval o).run P w = r at *;have ax : (mm ro).depth.isSome = true → 1 ≤ n := fun h => by simp [mm, Fence.wide] at h
  cases r with
  | ok x w' => cases x <;> first | exact h | exact ⟨ax, VL h⟩ | exact ⟨ax, afo h⟩ | exact h.elim
  | halt x w' => cases x <;> exact h
def kl (P : Program) (c : Code) (Q : Exit → Act → World → Prop) (a : Act) (w : World) : Prop := ∀ ro, c.wpIn (mm ro) 0 P Q a w
section
variable {P : Program} {Q J1 : Exit → Act → World → Prop} {a : Act} {w : World} {c x y : Code}
theorem kl.top (h : kl P c Q a w) : c.wp P Q a w := wpIn_wide.1 (h none)
theorem sE (h : kl P c Q a w) (an : ∀ e a w, Q e a w → J1 e a w) : kl P c J1 a w := fun ro => wpIn_mono (h ro) an
theorem SE (h : kl P x (Exit.then (kl P y Q) Q) a w) : kl P (.seq x y) Q a w := fun ro => wpIn_seq (wpIn_mono (h ro) fun e a w an => by cases e <;> first | exact an ro | exact an)
theorem SF (h : Q .normal a w) : kl P .skip Q a w := fun ro => wpIn_skip h
theorem Sz {id : Nat} (h : Q (.exit id) a w) : kl P (.exit id) Q a w := fun ro => wpIn_exit h
theorem SD (h : Q .ret a w) : kl P .ret Q a w := fun ro => wpIn_ret h
theorem Sy {c : Operand} {t : Bool} (al : a.eval c = .bool t) (h : kl P (if t then x else y) Q a w) : kl P (.cond c x y) Q a w := fun ro => wpIn_cond al (h ro)
theorem Sx {id : Nat} (h : kl P c (Exit.inBlock id Q) a w) : kl P (.block id c) Q a w := fun ro => wpIn_block (h ro)
theorem SB {id : Nat} {ops : Array Oper} (h : ∀ ro, wpOpsIn (mm ro) 0 P ops Q (List.range ops.size) a w) : kl P (.region id ops false) Q a w := fun ro => wpIn_region (h ro)
theorem SC {id : Nat} {ops : Array Oper} (hm : P.follows .mixedOrders = true) (h : ∀ ro, wpAnyIn (mm ro) 0 P .any ops Q ops.size (Array.replicate ops.size false) a { w with drawn := w.drawn + 1 }) : kl P (.region id ops true) Q a w := fun ro => wpIn_region_any hm (h ro)
end
theorem Oper.vK {v : Value} {w' : World} {next : Act → World → Prop} (h : (execOp a.eval o).run P w = .ok (.value v) w') (ax : next (a.put o.dst v) w') : o.wp P a w next Q := by
  unfold Oper.wp;rw [h];exact ax
theorem Rel.N6 {U : Nat → Prop} {x : ah} {v : Value} (al : x.closed) (h : cX U ad w x v) : cX U id w x v := h.map (fun b ab _ => ⟨ab, rfl⟩) fun j ae => absurd ae (al j)
theorem RJ {U : Nat → Prop} {v : Value} (h : Bl v = true) : cX U ad w (xh v) v := by
  cases v with
  | agg cs =>
    refine ⟨cs.toList, by simp, by simp, fun i x u aa hu => ?_⟩;rw [eh, hu] at aa;cases aa;exact ⟨rfl, b6.1 h u (cV hu)⟩
  | tuple vs => cases h
  | _ => exact ⟨rfl, rfl⟩
theorem k9.PF (h : k9 P s o s') (aw : Rel B A s ad a w) : ∀ c, o.op ≠ .defer c := by
  cases h with
  | quiet av an hd =>
    obtain ⟨v, h1, h2⟩ := an.run (s.free A ad) ad w a.eval (fun x aa b ab => aw.look ab);exact xg h1 (fun d h => by cases h)
  | fresh av an hd =>
    obtain ⟨v, bf, h1, h2, ab⟩ := an.run (s.free A ad) ad w a.eval (fun x aa b ab => aw.look ab);exact xg h1 (fun d h => by cases h)
  | load ty x k off cs av aA => intro c al; rw [aA] at al; cases al
  | store ty x y k off cs z i aA => intro c al; rw [aA] at al; cases al
  | new cs d dA hm ax hd =>
    intro c al;cases ax with
    | alloc ty i z cs aA => rw [aA] at al; cases al
    | box ty x z aA => rw [aA] at al; cases al
  | call f args r al hp hd =>
    intro c iR;obtain ⟨⟨c', g, aA, _⟩, _⟩ := al;rw [aA] at iR; cases iR
theorem k9.sound (h : k9 P s o s') (aw : Rel B A s ad a w) (ok : s.cN) : o.wp P a w (fun a' w' => ∃ a7, Rel B A s' a7 a' w') Q := by
  cases h with
  | quiet av an hd =>
    obtain ⟨v, h1, h2⟩ := an.run (s.free A ad) ad w a.eval (fun x aa b ab => aw.look ab);exact Oper.vK h1 ⟨ad, aw.put hd h2⟩
  | fresh av an hd =>
    obtain ⟨v, bf, h1, h2, ab⟩ := an.run (s.free A ad) ad w a.eval (fun x aa b ab => aw.look ab);refine Oper.vK h1 ⟨ad, (aw.call ab).put hd (h2.map (fun b dc ak => ⟨?_, rfl⟩) fun j ae => rfl)⟩;rcases dc with h | h
    · exact h
    · refine ⟨aw.up b (il aw.below.size h), fun k cs af e => ?_⟩
      have := aw.lt af;omega
  | load ty x k off cs av aA aa hm hv hd =>
    obtain ⟨vs, t, g1, g2, g3⟩ := aw.dC k cs hm;obtain ⟨v, h1, h2⟩ := QO hv g1 g2;have hp : a.eval x = .pointer (some ⟨ad k, off, none⟩) := aw.look aa;refine Oper.vK (v := v) (w' := w) ?_ ⟨ad, aw.put hd h2⟩;simp only [execOp, aA, Instr.loadAt, hp, Instr.sureAddr, Sem.run_bind, Sem.run_pure, Result.andThen_ok, h1]
  | store ty x y k off cs z i aA aa ai hm hi hs ab hd =>
    obtain ⟨vs, t, g1, g2, g3⟩ := aw.dC k cs hm;have hp : a.eval x = .pointer (some ⟨ad k, off, none⟩) := aw.look aa;have aN : fR (s.free A ad) ad w z (a.eval y) := aw.look ai;have oL := aN.cells;have vc : (a.eval y).cells.size = z.cells.length := by have := oL.1; simp at this; exact this.symm
    have iz : (storeVar ty ⟨ad k, off, none⟩ (a.eval y)).run P w = .ok () (w.setRow (ad k) (vs.take off ++ (a.eval y).cells.toList ++ vs.drop (off + (a.eval y).cells.toList.length)).toArray) := by
      unfold storeVar;have bU : ¬ ((a.eval y).cells.size ≠ i.size) := by rw [vc, hs]; simp
      simp only [Sem.run_bind, hK hi, Result.andThen_ok, if_neg bU]
      have dz : ∀ v ∈ (a.eval y).cells.toList, v.oneCell' = true := fun v hv => by
        obtain ⟨j, ae⟩ := jR hv;have bb : j < z.cells.length := by rw [oL.1]; exact (bA.1 ae).1
        exact (oL.2 j _ v (bJ bb) ae).cell
      have := run_storeCells_at (P := P) (ad k) off t (a.eval y).cells.toList 0 vs.toArray w g1 (by have := g2.1; simp; omega) dz;simpa using this
    have hrel := (Rel.set (k := k) (ds := eD cs off z.cells) (aw.put (dst := o.dst) hd (cX.undef _)) (by rw [aC.xc]; exact hm) (by rw [aC.Xi]; exact g2.eD oL off ab));unfold Oper.wp
    have gI : (execOp a.eval o).run P w = .ok .skip (w.setRow (ad k) (vs.take off ++ (a.eval y).cells.toList ++ vs.drop (off + (a.eval y).cells.toList.length)).toArray) := by
      simp only [execOp, aA, Instr.storeAt, hp, Instr.sureAddr, Sem.run_bind, Sem.run_pure, Result.andThen_ok, iz]
    rw [gI];exact ⟨ad, hrel⟩
  | new cs d dA hm ax hd =>
    have main : ∀ (vs : List Value) (ty : TypeId), bL (s.free A ad) ad w cs vs → (∀ x ∈ cs, ∀ j, x.owns j → ∃ ar, s.mem j = some ar) → (execOp a.eval o).run P w = .ok (.value (.pointer (some ⟨w.heap.size, 0, none⟩))) (w.alloc (.cells vs.toArray ty)) →
        o.wp P a w (fun a' w' => ∃ a7, Rel B A ((s.ed d cs).put (some d) (.w (.one (.own d 0)))) a7 a' w') Q := by
      intro vs ty ak cD gI;refine Oper.vK gI ⟨fun k => if k = d then w.heap.size else ad k, ?_⟩;rw [dA];refine (aw.new ok hd hm ak cD).put (fun d' e => by cases e; exact hd) ?_;show Value.pointer _ = Value.pointer _;simp
    cases ax with
    | alloc ty i z cs aA hi aN al h1 =>
      subst al;refine main z.cells.toList ty ⟨by simp, fun j x v aa hv => ?_⟩ (fun x aa j ae => ?_) ?_
      · rw [eh, hv] at aa
        cases aa;exact ⟨rfl, b6.1 h1 v (cV hv)⟩
      · obtain ⟨v, _, rfl⟩ := gm.1 aa
        cases ae
      · have r5 : (zeroValue ty).run P w = .ok z w := by simp [zeroValue, typeInfo, program, Sem.run_bind, Sem.run, hi, Result.andThen, aN]
        simp only [execOp, aA, Instr.alloc, Sem.run_bind, r5, Result.andThen_ok, newVar, newRow, newObj, Sem.run];rfl
    | box ty x z aA aa =>
      have aN : fR (s.free A ad) ad w z (a.eval x) := aw.look aa;refine main (a.eval x).cells.toList ty aN.cells (fun y ai j ae => ?_) ?_
      · cases x with
        | tmp t => exact ok.hc t _ j aa ⟨y, ai, ae⟩
        | const v =>
          simp only [aC.look] at aa
          split at aa
          · cases aa; simp [bx.cells] at ai; subst ai; cases ae
          · cases aa
        | global g => cases aa; simp [bx.cells] at ai; subst ai; cases ae
        | func g => cases aa; simp [bx.cells] at ai; subst ai; cases ae
      · simp only [execOp, aA, Instr.box, newVar, newRow, newObj, Sem.run_bind, Sem.run, Result.andThen_ok]
        rfl
  | call f args r al hp hd =>
    obtain ⟨⟨c, g, aA, yO, aR⟩, yS⟩ := al;have cS : ∀ {y : Operand} {x : ah}, x ∈ args → s.look y = some x → cX (s.free A ad) id w x (a.eval y) := fun {y x} aa ai => Rel.N6 (ad := ad) (hp.jC x aa) (aw.look ai)
    obtain ⟨us, cK, gI⟩ : ∃ us : List Value, j6 (s.free A ad) id w args us ∧ (execOp a.eval o).run P w = .ok (.enter f us.toArray) w := by
      rcases aR with ⟨bs, aq, oE, wO⟩ | ⟨cs, aq, oE⟩
      · have ky : a.eval g = .func (.func f) bs.toArray #[] := (aw.look aq).1
        refine ⟨bs ++ c.args.toList.map a.eval, ?_, ?_⟩
        · refine ⟨by have := congrArg List.length oE; simpa using this.symm, fun i x v aa hv => ?_⟩
          have h1 : (bs.map (fun b => some (xh b)) ++ c.args.toList.map s.look)[i]? = some (some x) := by rw [oE, eh, aa]; rfl
          rcases hZ i bs.length with bb | kx
          · rw [gl (by simpa using bb), eh] at h1
            rw [gl bb] at hv;rw [hv] at h1;simp only [ha, hY] at h1;subst h1;exact RJ (b6.1 wO v (cV hv))
          · rw [gL (by simpa using kx), eh] at h1
            rw [gL kx, eh] at hv;simp only [lA] at h1;cases ai : c.args.toList[i - bs.length]? with
            | none => rw [ai] at hv; cases hv
            | some y =>
              rw [ai] at h1 hv;simp only [ha, hY] at h1 hv;subst hv;exact cS (cV aa) h1
        · have e : bs.toArray ++ c.args.map a.eval ++ #[] = (bs ++ c.args.toList.map a.eval).toArray := by
            rw [Array.append_empty];apply Array.ext';simp
          simp only [execOp, aA, resolve, yO, Deferred.ofValue, ky];simp only [Sem.run_bind, Sem.run_pure, Result.andThen_ok, invoke];rw [e];exact BG yS
      · obtain ⟨vs, ky, cC⟩ := pg.VM (ad := ad) (aw.look aq)
        refine ⟨c.args.toList.map a.eval ++ vs, ?_, ?_⟩
        · refine ⟨by have := congrArg List.length oE; have h2 := cC.1; simp at this ⊢; omega, fun i x v aa hv => ?_⟩
          have h1 : (c.args.toList.map s.look ++ cs.map (fun x => some (.w (.one x))))[i]? = some (some x) := by rw [oE, eh, aa]; rfl
          rcases hZ i c.args.toList.length with bb | kx
          · rw [gl (by simpa using bb), eh] at h1
            rw [gl (by simpa using bb), eh] at hv;cases ai : c.args.toList[i]? with
            | none => rw [ai] at hv; cases hv
            | some y =>
              rw [ai] at h1 hv;simp only [ha, hY] at h1 hv;subst hv;exact cS (cV aa) h1
          · rw [gL (by simpa using kx), eh] at h1
            rw [gL (by simpa using kx)] at hv;simp only [lA] at h1 hv;cases ai : cs[i - c.args.toList.length]? with
            | none => rw [ai] at h1; cases h1
            | some y =>
              rw [ai] at h1;simp only [ha, hY] at h1;subst h1;exact cC.2 _ y v ai hv
        · have e : (#[] : Array Value) ++ c.args.map a.eval ++ vs.toArray = (c.args.toList.map a.eval ++ vs).toArray := by
            apply Array.ext';simp
          simp only [execOp, aA, resolve, yO, Deferred.ofValue, ky];simp only [Sem.run_bind, Sem.run_pure, Result.andThen_ok, invoke];rw [e];exact BG yS
    unfold Oper.wp;rw [gI];refine (hp.call (s.free A ad) w _ cK).mono ?_;rintro e w' ⟨v, rfl, hv, ab⟩;refine ⟨ad, (aw.call ab).put hd (hv.map (fun b dc ak => ⟨?_, rfl⟩) fun j ae => absurd ae (hp.b0 j))⟩;rcases dc with h | h
    · exact h
    · refine ⟨aw.up b (il aw.below.size h), fun k cs af e => ?_⟩
      have := aw.lt af;omega
end
def ag5 : ah := .cn []
def want (ops : Array Oper) (o : Oper) (s : aC) : Option Bool :=
  match o.guard with
  | none => some true
  | some (g, b) =>
    match (ops[g]?).bind (·.dst) with
    | some d => match s.tmps d with
      | some (.w (.one (.c (.bool x)))) => some (some x == some b)
      | some (.cn _) => some false
      | _ => none
    | none => none
def lW (o : Oper) : Nat :=
  match o.op with
  | .load .. => 1
  | .store .. => 2
  | _ => 0
def vj (x y : Oper) : Bool := !(lW x == 2 && lW y != 0) && !(lW x != 0 && lW y == 2)
def addrOf (o : Oper) : Option Operand :=
  match o.op with
  | .load _ x => some x
  | .store _ x _ => some x
  | _ => none
def ym : ah → ah → Bool
  | .w (.one (.own k _)), .w (.one (.own j _)) => !Nat.beq k j
  | .w (.one (.own _ _)), .w (.one (.p _)) => true
  | .w (.one (.p _)), .w (.one (.own _ _)) => true
  | _, _ => false
theorem Ff {k j o p : Nat} (h : ym (.w (.one (.own k o))) (.w (.one (.own j p))) = true) : k ≠ j := fun e => by
  subst e;simp [ym, Nat.beq_refl] at h
def xX (s : aC) (x y : Oper) : Prop := vj x y = true ∨ ∃ a b u v, addrOf x = some a ∧ addrOf y = some b ∧ s.look a = some u ∧ s.look b = some v ∧ ym u v = true
section
variable {P : Program} {B : eZ} {A : Nat → Prop} {s s1 s2 s' : aC} {ad : Nat → Nat} {a : Act} {w : World} {o bm bu : Oper} {ops : Array Oper}
theorem OX {x : Operand} {dst : Option Nat} {v : ah} (h : ∀ d, dst = some d → x ≠ .tmp d) : (s.put dst v).look x = s.look x := by
  cases dst with
  | none => rfl
  | some d =>
    cases x with
    | tmp t => simp only [aC.look, aC.put]; exact b9 _ _ (fun e => h d rfl (by rw [e]))
    | _ => rfl
theorem aba {x : Operand} {k : Nat} {cs : List AC} : (s.ed k cs).look x = s.look x := by cases x <;> rfl
theorem vR.congr {look gz : Operand → Option ah} {av : ah} (h : vR P look o av) (e : ∀ x ∈ o.op.operands, gz x = look x) : vR P gz o av :=
  ⟨h.afU, fun x aa => by rw [e x aa]; exact h.ops x aa, fun U ad W env he => h.run U ad W env fun x aa a aJ => he x aa a (by rw [e x aa]; exact aJ), fun j ae => by
    obtain ⟨x, aa, a, aJ, X5⟩ := h.own j ae;exact ⟨x, aa, a, by rw [e x aa]; exact aJ, X5⟩⟩
theorem vN.congr {look gz : Operand → Option ah} {av : ah} (h : vN P look o av) (e : ∀ x ∈ o.op.operands, gz x = look x) : vN P gz o av :=
  ⟨fun x aa => by rw [e x aa]; exact h.ops x aa, h.pA, fun U ad W env he => h.run U ad W env fun x aa a aJ => he x aa a (by rw [e x aa]; exact aJ)⟩
theorem uy.congr {look gz : Operand → Option ah} {cs : List AC} (h : uy P look o cs) (e : ∀ x ∈ o.op.operands, gz x = look x) : uy P gz o cs := by
  cases h with
  | alloc ty i z cs aA hi aN al h1 => exact .alloc ty i z cs aA hi aN al h1
  | box ty x z aA aa => exact .box ty x z aA (by rw [e x (by simp [aA, Op.operands])]; exact aa)
theorem sI.congr {look gz : Operand → Option ah} {f : FuncId} {args : List ah} (h : sI P look o f args) (e : ∀ x ∈ o.op.operands, gz x = look x) : sI P gz o f args := by
  obtain ⟨⟨c, g, aA, al, aR⟩, he⟩ := h;have L6 : gz g = look g := e g (by simp [aA, Op.operands, Call.operands, al]);have iv : c.args.toList.map gz = c.args.toList.map look := o5 fun x aa => e x (by simp [aA, Op.operands, Call.operands, al]; exact .inr (by simpa using aa));refine ⟨⟨c, g, aA, al, ?_⟩, he⟩;rcases aR with ⟨bs, aq, aJ, ab⟩ | ⟨cs, aq, aJ⟩
  · exact .inl ⟨bs, by rw [L6]; exact aq, by rw [iv]; exact aJ, ab⟩
  · exact .inr ⟨cs, by rw [L6]; exact aq, by rw [iv]; exact aJ⟩
theorem aC.put_comm (s : aC) {x y : Option Nat} (v u : ah) (h : ∀ d, x = some d → y ≠ some d) : (s.put x v).put y u = (s.put y u).put x v := by
  cases x with
  | none => rfl
  | some d =>
    cases y with
    | none => rfl
    | some e =>
      have bU : e ≠ d := fun he => h d rfl (by rw [he]);simp only [aC.put];rw [Sr _ _ _ bU]
theorem aC.xn (s : aC) (x : Option Nat) (v : ah) (k : Nat) (cs : List AC) : (s.put x v).ed k cs = (s.ed k cs).put x v := by cases x <;> rfl
theorem aC.afW (s : aC) {k j : Nat} (cs ds : List AC) (h : j ≠ k) : (s.ed k cs).ed j ds = (s.ed j ds).ed k cs := by
  simp only [aC.ed];rw [Sr _ _ _ h]
structure ca where
  v : ah
  m : Option (Nat × List AC)
def ca.on (e : ca) (dst : Option Nat) (s : aC) : aC :=
  match e.m with
  | some (k, cs) => (s.ed k cs).put dst e.v
  | none => s.put dst e.v
inductive eW (P : Program) (n : Nat) (look : Operand → Option ah) (mem : Nat → Option (List AC)) (o : Oper) : Bool → ca → Prop
  | skip : eW P n look mem o false ⟨.cn [], none⟩
  | quiet (av : ah) (an : vR P look o av) : eW P n look mem o true ⟨av, none⟩
  | fresh (av : ah) (an : vN P look o av) : eW P n look mem o true ⟨av, none⟩
  | load (ty : TypeId) (x : Operand) (k off : Nat) (cs : List AC) (av : bx) (aA : o.op = .load ty x) (aa : look x = some (.w (.one (.own k off)))) (hm : mem k = some cs) (hv : pick P ty cs off = some av) : eW P n look mem o true ⟨.w av, none⟩
  | store (ty : TypeId) (x y : Operand) (k off : Nat) (cs : List AC) (z : bx) (i : TypeInfo) (aA : o.op = .store ty x y) (aa : look x = some (.w (.one (.own k off)))) (ai : look y = some (.w z)) (hm : mem k = some cs) (hi : P.info? ty = some i) (hs : i.size = z.cells.length) (ab : off + z.cells.length ≤ cs.length) : eW P n look mem o true ⟨.cn [], some (k, eD cs off z.cells)⟩
  | new (cs : List AC) (d : Nat) (dA : o.dst = some d) (hm : mem d = none) (ax : uy P look o cs) : eW P n look mem o true ⟨.w (.one (.own d 0)), some (d, cs)⟩
  | call (f : FuncId) (args : List ah) (r : ah) (al : sI P look o f args) (hp : aH P f args r) : eW P n look mem o true ⟨r, none⟩
theorem eW.step {e : ca} (h : eW P s.n s.look s.mem o true e) (hd : ∀ d, o.dst = some d → d < s.n) : k9 P s o (e.on o.dst s) := by
  cases h with
  | quiet av an => exact .quiet av an hd
  | fresh av an => exact .fresh av an hd
  | load ty x k off cs av aA aa hm hv => exact .load ty x k off cs av aA aa hm hv hd
  | store ty x y k off cs z i aA aa ai hm hi hs ab =>
    have := k9.store (P := P) (s := s) ty x y k off cs z i aA aa ai hm hi hs ab hd;rw [aC.xn] at this;exact this
  | new cs d dA hm ax =>
    have := k9.new (P := P) (s := s) cs d dA hm ax (hd d dA);rw [← dA] at this;exact this
  | call f args r al hp => exact .call f args r al hp hd
theorem ca.q5 (e : ca) (dst : Option Nat) (s : aC) : (e.on dst s).mem = match e.m with | some (k, cs) => bG s.mem k cs | none => s.mem := by
  unfold ca.on
  split
  · rename_i h; rw [aC.xc]; simp [aC.ed]
  · rename_i h; rw [aC.xc]
theorem ca.q4 (e : ca) (dst : Option Nat) (s : aC) {x : Operand} (h : ∀ d, dst = some d → x ≠ .tmp d) : (e.on dst s).look x = s.look x := by
  unfold ca.on
  split
  · rw [OX h, aba]
  · rw [OX h]
theorem ca.tL (e : ca) (dst : Option Nat) (s : aC) : (e.on dst s).n = s.n := by
  unfold ca.on
  split
  · rw [aC.sd]; rfl
  · rw [aC.sd]
theorem ca.zL (e f : ca) (x y : Option Nat) (s : aC) (h : ∀ d, x = some d → y ≠ some d) (af : ∀ k cs j ds, e.m = some (k, cs) → f.m = some (j, ds) → j ≠ k) : f.on y (e.on x s) = e.on x (f.on y s) := by
  unfold ca.on;cases he : e.m with
  | none =>
    cases au : f.m with
    | none => simp only [he, au]; exact aC.put_comm s _ _ h
    | some q => obtain ⟨j, ds⟩ := q; simp only [he, au]; rw [aC.xn]; exact aC.put_comm _ _ _ h
  | some p =>
    obtain ⟨k, cs⟩ := p;cases au : f.m with
    | none => simp only [he, au]; rw [aC.xn]; exact aC.put_comm _ _ _ h
    | some q =>
      obtain ⟨j, ds⟩ := q;simp only [he, au];rw [aC.xn, aC.xn, aC.afW s _ _ (af k cs j ds he au)];exact aC.put_comm _ _ _ h
theorem tB {x : Operand} {d : Nat} {y : Oper} (h : d ∉ y.looksAt ops) (aa : x ∈ y.op.operands) : x ≠ .tmp d := fun e => h (by
  subst e;exact List.mem_append_left _ (List.mem_filterMap.2 ⟨.tmp d, by simpa using aa, rfl⟩))
theorem eW.swap {b c : Bool} {e f : ca} (ok : s.cN) (he : eW P s.n s.look s.mem bm b e) (au : eW P (e.on bm.dst s).n (e.on bm.dst s).look (e.on bm.dst s).mem bu c f) (rO : bm.apart ops bu = true) (ms : xX s bm bu) :
    eW P s.n s.look s.mem bu c f ∧ eW P (f.on bu.dst s).n (f.on bu.dst s).look (f.on bu.dst s).mem bm b e ∧ f.on bu.dst (e.on bm.dst s) = e.on bm.dst (f.on bu.dst s) := by
  obtain ⟨a1, a2, a3⟩ := Oper.apart_spec rO;have mz : ∀ x ∈ bu.op.operands, (e.on bm.dst s).look x = s.look x := fun x aa => ca.q4 _ _ _ fun d hd => tB (a1 d hd) aa;have cG := ca.q5 e bm.dst s
 
  have uY : ∀ k cs, e.m = some (k, cs) → (∃ ar, s.mem k = some ar) ∨ s.mem k = none := fun k cs _ => by
    cases h : s.mem k with
    | none => exact .inr rfl
    | some c => exact .inl ⟨c, rfl⟩
  have Qc : ∀ x k off, s.look x = some (.w (.one (.own k off))) → ∃ cs, s.mem k = some cs := fun x k off aa => by
    cases x with
    | tmp t => exact ok.hc t _ k aa ⟨.own k off, by simp [bx.cells], rfl⟩
    | const v => simp only [aC.look] at aa; split at aa <;> cases aa
    | global g => cases aa
    | func g => cases aa
 
  have Pd : ∀ x k off, addrOf bu = some x → lW bu ≠ 0 → s.look x = some (.w (.one (.own k off))) → (e.on bm.dst s).mem k = s.mem k := by
    intro x k off Gw GQ aa;rw [cG];cases he with
    | skip => rfl
    | quiet av an => rfl
    | fresh av an => rfl
    | load => rfl
    | call => rfl
    | store ty x' y' k' P0 cs z i aA kA ai hm hi hs ab =>
      rcases ms with ms | ⟨a, b, q, p, aJ, dc, iv, lO, bU⟩
      · exfalso
        have : lW bm = 2 := by simp [lW, aA]
        simp [vj, this, GQ] at ms
      · simp only [addrOf, aA, hY] at aJ
        subst aJ;rw [kA] at iv;cases iv;rw [Gw] at dc;cases dc;rw [aa] at lO;cases lO;show bG s.mem k' _ k = s.mem k;exact b9 _ _ (Ne.symm (Ff bU))
    | new cs d dA hm ax =>
      obtain ⟨c, al⟩ := Qc x k off aa;show bG s.mem d cs k = s.mem k;exact b9 _ _ (fun e => by subst e; rw [hm] at al; cases al)
  have mZ : eW P s.n s.look s.mem bu c f := by
    cases au with
    | skip => exact .skip
    | quiet av an => exact .quiet av (an.congr fun x aa => (mz x aa).symm)
    | fresh av an => exact .fresh av (an.congr fun x aa => (mz x aa).symm)
    | load ty x k off cs av aA aa hm hv =>
      have kA : s.look x = some (.w (.one (.own k off))) := by rw [← mz x (by simp [aA, Op.operands])]; exact aa
      exact .load ty x k off cs av aA kA (by rw [← Pd x k off (by simp [addrOf, aA]) (by simp [lW, aA]) kA]; exact hm) hv
    | store ty x y k off cs z i aA aa ai hm hi hs ab =>
      have kA : s.look x = some (.w (.one (.own k off))) := by rw [← mz x (by simp [aA, Op.operands])]; exact aa
      exact .store ty x y k off cs z i aA kA (by rw [← mz y (by simp [aA, Op.operands])]; exact ai) (by rw [← Pd x k off (by simp [addrOf, aA]) (by simp [lW, aA]) kA]; exact hm) hi hs ab
    | new cs d dA hm ax =>
      refine .new cs d dA ?_ (ax.congr fun x aa => (mz x aa).symm);rw [cG] at hm;cases lm : e.m with
      | none => rw [lm] at hm; exact hm
      | some p =>
        obtain ⟨k, c⟩ := p;rw [lm] at hm
        by_cases hT : d = k
        · subst hT
          change bG s.mem d c d = none at hm
          rw [cl] at hm;cases hm
        · change bG s.mem k c d = none at hm
          rwa [b9 _ _ hT] at hm
    | call g args r al hp => exact .call g args r (al.congr fun x aa => (mz x aa).symm) hp
  have k3 : ∀ x ∈ bm.op.operands, (f.on bu.dst s).look x = s.look x := fun x aa => ca.q4 _ _ _ fun d hd => tB (a3 d hd) aa;have O7 := ca.q5 f bu.dst s
  have nX : eW P (f.on bu.dst s).n (f.on bu.dst s).look (f.on bu.dst s).mem bm b e := by
    have Pb : ∀ x k off, addrOf bm = some x → lW bm ≠ 0 → s.look x = some (.w (.one (.own k off))) → (f.on bu.dst s).mem k = s.mem k := by
      intro x k off Gw GQ aa;rw [O7];cases mZ with
      | skip => rfl
      | quiet av an => rfl
      | fresh av an => rfl
      | load => rfl
      | call => rfl
      | store ty x' y' k' P0 cs z i aA kA ai hm hi hs ab =>
        rcases ms with ms | ⟨a, b, q, p, aJ, dc, iv, lO, bU⟩
        · exfalso
          have : lW bu = 2 := by simp [lW, aA]
          simp [vj, this, GQ] at ms
        · simp only [addrOf, aA, hY] at dc
          subst dc;rw [kA] at lO;cases lO;rw [Gw] at aJ;cases aJ;rw [aa] at iv;cases iv;show bG s.mem k' _ k = s.mem k;exact b9 _ _ (Ff bU)
      | new cs d dA hm ax =>
        obtain ⟨c, al⟩ := Qc x k off aa;show bG s.mem d cs k = s.mem k;exact b9 _ _ (fun e => by subst e; rw [hm] at al; cases al)
    cases he with
    | skip => exact .skip
    | quiet av an => exact .quiet av (an.congr fun x aa => k3 x aa)
    | fresh av an => exact .fresh av (an.congr fun x aa => k3 x aa)
    | load ty x k off cs av aA aa hm hv => exact .load ty x k off cs av aA (by rw [k3 x (by simp [aA, Op.operands])]; exact aa) (by rw [Pb x k off (by simp [addrOf, aA]) (by simp [lW, aA]) aa]; exact hm) hv
    | store ty x y k off cs z i aA aa ai hm hi hs ab => exact .store ty x y k off cs z i aA (by rw [k3 x (by simp [aA, Op.operands])]; exact aa) (by rw [k3 y (by simp [aA, Op.operands])]; exact ai) (by rw [Pb x k off (by simp [addrOf, aA]) (by simp [lW, aA]) aa]; exact hm) hi hs ab
    | new cs d dA hm ax =>
      refine .new cs d dA ?_ (ax.congr fun x aa => k3 x aa);rw [O7];cases mZ with
      | skip => exact hm
      | quiet av an => exact hm
      | fresh av an => exact hm
      | load => exact hm
      | call => exact hm
      | store ty x' y' k' P0 ar z i aA kA ai fq hi hs ab =>
        show bG s.mem k' _ d = none;rw [b9 _ _ (fun e => by subst e; rw [hm] at fq; cases fq)];exact hm
      | new ar d' Ys fq G0 =>
        show bG s.mem d' _ d = none;rw [b9 _ _ (fun e => a2 d dA (by rw [Ys, e]))];exact hm
    | call g args r al hp => exact .call g args r (al.congr fun x aa => k3 x aa) hp
  refine ⟨mZ, nX, ca.zL e f bm.dst bu.dst s a2 ?_⟩;intro k cs j ds h1 h2 WN;subst WN;cases he with
  | skip => cases h1
  | quiet => cases h1
  | fresh => cases h1
  | load => cases h1
  | call => cases h1
  | store ty x y k' off ar z i aA aa ai hm hi hs ab =>
    cases h1;cases mZ with
    | skip => cases h2
    | quiet => cases h2
    | fresh => cases h2
    | load => cases h2
    | call => cases h2
    | store agZ cR qg bY acw sZ z2 i2 wV Hq =>
      cases h2;rcases ms with ms | ⟨a, b, q, p, aJ, dc, iv, lO, bU⟩
      · simp [vj, lW, aA, wV] at ms
      · simp only [addrOf, aA, wV, hY] at aJ dc
        subst aJ;subst dc;rw [aa] at iv;rw [Hq] at lO;cases iv;cases lO;exact Ff bU rfl
    | new sZ d2 Nc nZ G1 => cases h2; rw [nZ] at hm; cases hm
  | new ar d dA hm ax =>
    cases h1;cases mZ with
    | skip => cases h2
    | quiet => cases h2
    | fresh => cases h2
    | load => cases h2
    | call => cases h2
    | store agZ cR qg bY acw sZ z2 i2 wV Hq Hr nZ => cases h2; rw [nZ] at hm; cases hm
    | new sZ d2 Nc nZ G1 => cases h2; exact a2 _ dA Nc
end
section
variable {P : Program} {B : eZ} {A : Nat → Prop} {s s1 s2 s' : aC} {ad : Nat → Nat} {a : Act} {w : World} {o bm bu : Oper} {ops : Array Oper} {md : Region.Mode}
theorem look_ok {x : Operand} {av : ah} {j : Nat} (ok : s.cN) (aa : s.look x = some av) (ae : av.owns j) : ∃ cs, s.mem j = some cs := by
  have none : ∀ v, ¬ (ah.w (.one (.c v))).owns j := fun v ⟨y, ai, h⟩ => by simp [bx.cells] at ai; subst ai; cases h
  cases x with
  | tmp t => exact ok.hc t av j aa ae
  | const v =>
    simp only [aC.look] at aa
    split at aa
    · cases aa; exact absurd ae (none _)
    · cases aa
  | global g => cases aa; exact absurd ae (none _)
  | func g => cases aa; exact absurd ae (none _)
theorem aC.cN.put {dst : Option Nat} {av : ah} (ok : s.cN) (h : ∀ j, av.owns j → ∃ cs, s.mem j = some cs) : (s.put dst av).cN := by
  cases dst with
  | none => exact ok
  | some d =>
    refine ⟨fun t bv j aB ae => ?_, ok.dC⟩;simp only [aC.put] at aB ⊢
    by_cases e : t = d
    · subst e; rw [cl] at aB; cases aB; exact h j ae
    · rw [b9 _ _ e] at aB; exact ok.hc t bv j aB ae
theorem aC.cN.ed {k : Nat} {cs : List AC} (ok : s.cN) (h : ∀ x ∈ cs, ∀ j, x.owns j → ∃ ar, s.mem j = some ar) : (s.ed k cs).cN := by
  have up : ∀ j, (∃ c, s.mem j = some c) → ∃ c, (s.ed k cs).mem j = some c := fun j ⟨c, al⟩ => by
    by_cases e : j = k
    · exact ⟨cs, by rw [e]; exact cl _ _ _⟩
    · exact ⟨c, by simp only [aC.ed]; rw [b9 _ _ e]; exact al⟩
  refine ⟨fun t bv j aB ae => up j (ok.hc t bv j aB ae), fun k' c x j af aa ae => up j ?_⟩;simp only [aC.ed] at af
  by_cases e : k' = k
  · subst e; rw [cl] at af; cases af; exact h x aa j ae
  · rw [b9 _ _ e] at af; exact ok.dC k' c x j af aa ae
theorem aem {ty : TypeId} {cs : List AC} {off : Nat} {av : bx} (h : pick P ty cs off = some av) : ∀ x ∈ av.cells, x ∈ cs := by
  unfold pick at h
  split at h
  · cases hi : P.info? ty with
    | none => rw [hi] at h; cases h
    | some i =>
      rw [hi] at h;simp only [kh] at h
      split at h
      · cases h; exact fun x aa => mJ (mI aa)
      · cases h
  · cases hi : P.info? ty with
    | none => rw [hi] at h; cases h
    | some i =>
      rw [hi] at h;simp only [kh] at h
      split at h
      · cases h; exact fun x aa => mJ (mI aa)
      · cases h
  · cases aa : cs[off]? with
    | none => rw [aa] at h; cases h
    | some y => rw [aa] at h; cases h; intro x kA; simp [bx.cells] at kA; subst kA; exact cV aa
  · cases h
theorem k9.ok (h : k9 P s o s') (ok : s.cN) : s'.cN := by
  cases h with
  | quiet av an hd =>
    refine ok.put fun j ae => ?_;obtain ⟨x, aa, b, ab, Yb⟩ := an.own j ae;exact look_ok ok ab Yb
  | fresh av an hd => exact ok.put fun j ae => absurd ae (an.pA j)
  | load ty x k off cs av aA aa hm hv hd =>
    refine ok.put fun j ae => ?_;obtain ⟨y, ai, lT⟩ := ae;exact ok.dC k cs y j hm (aem hv y ai) lT
  | store ty x y k off cs z i aA aa ai hm hi hs ab hd =>
    rw [aC.xn];refine aC.cN.put (ok.ed fun x aa j ae => ?_) fun j ae => (by obtain ⟨y, ai, _⟩ := ae; cases ai);unfold eD at aa;simp only [jS] at aa;rcases aa with (h1 | h1) | h1
    · exact ok.dC k cs x j hm (mI h1) ae
    · exact look_ok ok ai ⟨x, h1, ae⟩
    · exact ok.dC k cs x j hm (mJ h1) ae
  | new cs d dA hm ax hd =>
    refine aC.cN.put (ok.ed fun x aa j ae => ?_) fun j ae => ?_
    · cases ax with
      | alloc ty i z cs aA hi aN al h1 => subst al; obtain ⟨v, _, rfl⟩ := gm.1 aa; cases ae
      | box ty y z aA ai => exact look_ok ok ai ⟨x, aa, ae⟩
    · obtain ⟨y, ai, lT⟩ := ae
      simp [bx.cells] at ai;subst ai;cases lT;exact ⟨cs, cl _ _ _⟩
  | call f args r al hp hd => exact ok.put fun j ae => absurd ae (hp.b0 j)
def rA (P : Program) (ops : Array Oper) (o : Oper) (K : aC → Prop) (s : aC) : Prop :=
  ∃ b, want ops o s = some b ∧ ∃ e, eW P s.n s.look s.mem o b e ∧ (∀ d, o.dst = some d → d < s.n) ∧ K (e.on o.dst s)
def yc (P : Program) (md : Region.Mode) (ops : Array Oper) (K : aC → Prop) : Nat → Array Bool → aC → Prop
  | 0, br, s => Region.ready md ops br = [] ∧ K s
  | fa + 1, br, s => (Region.ready md ops br = [] → K s) ∧
    ∀ i ∈ Region.ready md ops br, ∀ o, ops[i]? = some o → rA P ops o (yc P md ops K fa (br.setIfInBounds i true)) s
theorem SG {b : Bool} (h : want ops o s = some b) (aw : Rel B A s ad a w) : Region.wanted o (yielded ops a.tmps) = b := by
  unfold want at h;unfold Region.wanted
  split at h
  · rename_i aq; rw [aq]; cases h; rfl
  · rename_i g bS aq
    rw [aq]
    split at h
    · rename_i d hd
      split at h
      · rename_i x aa
        cases h;obtain ⟨v, h1, h2⟩ := aw.hc d _ aa;obtain ⟨rfl, _⟩ := h2;simp [yielded, hd, h1]
      · rename_i xs aa
        cases h;obtain ⟨v, h1, h2⟩ := aw.hc d _ aa;obtain ⟨vs, rfl, _⟩ := h2;simp [yielded, hd, h1]
      · cases h
    · cases h
theorem yv {b : Bool} {e : ca} (ok : s.cN) (he : eW P s.n s.look s.mem o b e) (hd : ∀ d, o.dst = some d → d < s.n) : (e.on o.dst s).cN := by
  cases b with
  | true => exact (he.step hd).ok ok
  | false => cases he; exact ok.put fun j ae => (by obtain ⟨y, ai, _⟩ := ae; cases ai)
theorem Kh {ro : Option Nat} {K : aC → Prop} {ld : Act → World → Prop} {Q : Exit → Act → World → Prop} {i : Nat} (hi : ops[i]? = some o) (ok : s.cN) (aw : Rel B A s ad a w) (h : rA P ops o K s)
    (fg : ∀ s' a7 a' w', s'.cN → Rel B A s' a7 a' w' → K s' → ld a' w') : wpOpIn (mm ro) 0 P ops Q i ld a w := by
  obtain ⟨b, hw, e, he, hd, af⟩ := h;have nl := SG hw aw;unfold wpOpIn;simp only [hi];cases b with
  | true =>
    rw [nl];simp only [if_true];have dO := (he.step hd).ok ok;exact Oper.SK (Oper.wp_mono (fun a' w' ⟨a7, ap⟩ => fg _ a7 a' w' dO ap af) (k9.sound (he.step hd) aw ok)) ((he.step hd).PF aw)
  | false =>
    rw [nl];simp only [nz, if_false];cases he;exact ⟨fun _ _ => trivial, fg _ ad _ _ (ok.put fun j ae => (by obtain ⟨y, ai, _⟩ := ae; cases ai)) (aw.put hd (cX.undef _)) af⟩
theorem Ke {ro : Option Nat} {K : aC → Prop} {Q : Exit → Act → World → Prop} (kX : ∀ s' a7 a' w', s'.cN → Rel B A s' a7 a' w' → K s' → Q .normal a' w') : ∀ (fa : Nat) (br : Array Bool) (s : aC) (ad : Nat → Nat) (a : Act) (w : World), s.cN → Rel B A s ad a w →
    yc P md ops K fa br s → wpAnyIn (mm ro) 0 P md ops Q fa br a w
  | 0, _, _, _, _, _, ok, aw, h => ⟨h.1, kX _ _ _ _ ok aw h.2⟩
  | fa + 1, br, s, ad, a, w, ok, aw, h => ⟨fun az => kX _ _ _ _ ok aw (h.1 az), fun i hi => by
      obtain ⟨az, o, aA, _⟩ := mem_ready.1 hi;exact Kh aA ok aw (h.2 i hi o aA) fun s' a7 a' w' dO ct af => Ke kX fa _ s' a7 a' w' dO ct af⟩
theorem xI {b : Option Bool} {e : ca} {dst : Option Nat} (ak : ∀ d, dst = some d → d ∉ o.looksAt ops) : want ops o (e.on dst s) = want ops o s := by
  have aB : ∀ d, (∀ d', dst = some d' → d ≠ d') → (e.on dst s).tmps d = s.tmps d := fun d h => by
    have := ca.q4 e dst s (x := .tmp d) (fun d' j8 bo => h d' j8 (by cases bo; rfl));exact this
  unfold want;cases aq : o.guard with
  | none => rfl
  | some p =>
    obtain ⟨g, bS⟩ := p;simp only;cases hd : (ops[g]?).bind (·.dst) with
    | none => rfl
    | some d =>
      simp only
      rw [aB d (fun d' j8 bo => ak d' j8 (by
        subst bo;unfold Oper.looksAt;rw [aq];exact List.mem_append_right _ (by simp [hd])))]
theorem T8 {b : Bool} {e : ca} {K : aC → Prop} (ok : s.cN) (hw : want ops bm s = some b) (he : eW P s.n s.look s.mem bm b e) (tk : ∀ d, bm.dst = some d → d < s.n) (rO : bm.apart ops bu = true) (ms : xX s bm bu) (h : rA P ops bu K (e.on bm.dst s)) :
    rA P ops bu (fun t => (want ops bm t = some b ∧ eW P t.n t.look t.mem bm b e ∧ (∀ d, bm.dst = some d → d < t.n) ∧ t.cN) ∧ K (e.on bm.dst t)) s := by
  obtain ⟨a1, a2, a3⟩ := Oper.apart_spec rO;obtain ⟨c, r3, f, au, qJ, af⟩ := h;obtain ⟨h1, h2, ao⟩ := eW.swap ok he au rO ms;rw [xI (b := none) a1] at r3;have uV : ∀ d, bu.dst = some d → d < s.n := fun d hd => by have := qJ d hd; rwa [ca.tL] at this
  refine ⟨c, r3, f, h1, uV, ⟨?_, h2, fun d hd => by rw [ca.tL]; exact tk d hd, yv ok h1 uV⟩, by rw [← ao]; exact af⟩;rw [xI (b := none) a3];exact hw
theorem T7 {K ld : aC → Prop} (h : ∀ s, K s → ld s) (aR : rA P ops o K s) : rA P ops o ld s :=
  let ⟨b, h1, e, h2, ao, aD⟩ := aR
  ⟨b, h1, e, h2, ao, h _ aD⟩
def pu (ops : Array Oper) (br : Array Bool) (x y : Oper) (s : aC) : Prop :=
  vj x y = true ∨ ∃ t u o p, addrOf x = some (.tmp t) ∧ addrOf y = some (.tmp u) ∧ s.tmps t = some o ∧ s.tmps u = some p ∧ ym o p = true ∧
    ∀ i bm, ops[i]? = some bm → br.getD i true = false → bm.dst ≠ some t ∧ bm.dst ≠ some u
theorem pu.sep {br : Array Bool} (h : pu ops br bm bu s) : xX s bm bu := by
  rcases h with h | ⟨t, u, o, p, h1, h2, ao, aD, cm, _⟩
  · exact .inl h
  · exact .inr ⟨_, _, o, p, h1, h2, ao, aD, cm⟩
theorem ca.xi {e : ca} {dst : Option Nat} {t : Nat} (h : dst ≠ some t) : (e.on dst s).tmps t = s.tmps t := by
  have := ca.q4 e dst s (x := .tmp t) (fun d hd bo => by cases bo; exact h hd);exact this
theorem pu.on {br : Array Bool} {f : ca} {o : Oper} {i : Nat} (h : pu ops br bm bu s) (aA : ops[i]? = some o) (k2 : br.getD i true = false) : pu ops (br.setIfInBounds i true) bm bu (f.on o.dst s) := by
  rcases h with h | ⟨t, u, q, p, h1, h2, ao, aD, cm, eQ⟩
  · exact .inl h
  · obtain ⟨eJ, ft⟩ := eQ i o aA k2
    refine .inr ⟨t, u, q, p, h1, h2, by rw [ca.xi eJ]; exact ao, by rw [ca.xi ft]; exact aD, cm, fun fs eV hj tw => eQ fs eV hj ?_⟩
    by_cases e : i = fs
    · subst e; exact k2
    · rwa [getD_set_ne true e] at tw
theorem T9 {b : Bool} {e : ca} {K : aC → Prop} (ok : s.cN) (hw : want ops bm s = some b) (he : eW P s.n s.look s.mem bm b e) (tk : ∀ d, bm.dst = some d → d < s.n) (rO : bm.apart ops bu = true) (ms : xX s bm bu) (h : rA P ops bu K (e.on bm.dst s)) :
    rA P ops bu (fun t => (∃ f : ca, t = f.on bu.dst s) ∧ (want ops bm t = some b ∧ eW P t.n t.look t.mem bm b e ∧ (∀ d, bm.dst = some d → d < t.n) ∧ t.cN) ∧ K (e.on bm.dst t)) s := by
  obtain ⟨c, h1, f, h2, ao, aD⟩ := T8 ok hw he tk rO ms h;exact ⟨c, h1, f, h2, ao, ⟨f, rfl⟩, aD⟩
def waits (md : Region.Mode) (ops : Array Oper) : Nat → Nat → Nat → Bool
  | 0, _, _ => false
  | f + 1, j, i => match ops[j]? with
    | some o => o.after.any fun e => Region.binds md e && (e.on == i || waits md ops f e.on i)
    | none => false
def Down (md : Region.Mode) (ops : Array Oper) (br : Array Bool) : Prop := ∀ k o, br.getD k false = true → ops[k]? = some o → ∀ e ∈ o.after, Region.binds md e = true → br.getD e.on false = true
theorem Jt {br : Array Bool} (hd : Down md ops br) : ∀ (f j i : Nat) (o : Oper), ops[j]? = some o → (∀ e ∈ o.after, Region.binds md e = true → br.getD e.on false = true) → waits md ops f j i = true → br.getD i false = true
  | 0, _, _, _, _, _, h => by cases h
  | f + 1, j, i, o, aA, dz, h => by
    simp only [waits, aA] at h;obtain ⟨e, he, ab⟩ := Array.any_eq_true'.1 h;simp only [c5, so, beq_iff_eq] at ab;obtain ⟨h1, h2⟩ := ab;have ak := dz e he h1;rcases h2 with h2 | h2
    · rw [← h2]; exact ak
    · cases hj : ops[e.on]? with
      | none => cases f <;> simp [waits, hj] at h2
      | some eV => exact Jt hd f e.on i eV hj (fun bo nX dc => hd e.on eV ak hj bo nX dc) h2
theorem Down.set {br : Array Bool} (hd : Down md ops br) {j : Nat} (ae : j ∈ Region.ready md ops br) : Down md ops (br.setIfInBounds j true) := by
  intro k o af aA e he ab;obtain ⟨_, bu, h9, dz⟩ := mem_ready.1 ae
  by_cases bo : j = k
  · subst bo
    rw [h9] at aA;cases aA;exact getD_set_true (dz e he ab)
  · refine getD_set_true (hd k o ?_ aA e he ab)
    have : (br.setIfInBounds j true).getD k false = br.getD k false := by simp [Array.getElem?_setIfInBounds_ne bo]
    rwa [this] at af
theorem T6 {K : aC → Prop} {i : Nat} {b : Bool} {e : ca} (hi : ops[i]? = some bm) : ∀ (fa : Nat) (br : Array Bool) (s : aC),
      (∀ j bu, ops[j]? = some bu → j ≠ i → br.getD j true = false → (∀ e ∈ bu.after, Region.binds md e = true → e.on ≠ i) → waits md ops 4 j i = false → bm.apart ops bu = true ∧ pu ops br bm bu s) →
      Down md ops br → i ∈ Region.ready md ops br → s.cN → want ops bm s = some b → eW P s.n s.look s.mem bm b e → (∀ d, bm.dst = some d → d < s.n) →
      yc P md ops K fa (br.setIfInBounds i true) (e.on bm.dst s) → yc P md ops K (fa + 1) br s := by
  intro fa
  induction fa with
  | zero =>
    intro br s _ fU ap ok hw he hd H;refine ⟨fun h => (by rw [h] at ap; cases ap), fun j ae bu h9 => ?_⟩
    by_cases gy : j = i
    · subst gy; rw [hi] at h9; cases h9; exact ⟨b, hw, e, he, hd, H⟩
    · have := ready_mono ae gy
      rw [H.1] at this;cases this
  | succ fa bI =>
    intro br s jG fU ap ok hw he hd H;refine ⟨fun h => (by rw [h] at ap; cases ap), fun j ae bu h9 => ?_⟩
    by_cases gy : j = i
    · subst gy; rw [hi] at h9; cases h9; exact ⟨b, hw, e, he, hd, H⟩
    · have h1 := H.2 j (ready_mono ae gy) bu h9
      obtain ⟨uX, acx, y4, dz⟩ := mem_ready.1 ae;rw [h9] at y4;cases y4
      have rW : ∀ e ∈ bu.after, Region.binds md e = true → e.on ≠ i := fun e he ab rR => by
        have h1 := dz e he ab;have az := (mem_ready.1 ap).1;rw [rR] at h1;rcases hZ i br.size with aK | aK
        · simp [aK] at az h1; rw [az] at h1; cases h1
        · simp [xq aK] at h1
      have r4 : waits md ops 4 j i = false := by
        cases r3 : waits md ops 4 j i with
        | false => rfl
        | true =>
          have h1 := Jt fU 4 j i bu h9 dz r3;have az := (mem_ready.1 ap).1;rcases hZ i br.size with aK | aK
          · simp [aK] at az h1; rw [az] at h1; cases h1
          · simp [xq aK] at h1
      obtain ⟨g1, g2⟩ := jG j bu h9 gy uX rW r4;have h2 := T9 ok hw he hd g1 g2.sep h1;refine T7 (fun t ao => ?_) h2;obtain ⟨⟨f, rfl⟩, ao⟩ := ao
      have GH : ∀ k ok, ops[k]? = some ok → k ≠ i → (br.setIfInBounds j true).getD k true = false →
          (∀ e ∈ ok.after, Region.binds md e = true → e.on ≠ i) → waits md ops 4 k i = false → bm.apart ops ok = true ∧ pu ops (br.setIfInBounds j true) bm ok (f.on bu.dst s) := fun k ok af hA k2 h8 Hp => by
        have tw : br.getD k true = false := by
          by_cases kz : j = k
          · subst kz; exact uX
          · rwa [getD_set_ne true kz] at k2
        obtain ⟨q1, q2⟩ := jG k ok af hA tw h8 Hp;exact ⟨q1, q2.on h9 uX⟩
      refine bI (br.setIfInBounds j true) _ GH (fU.set ae) (ready_mono ap (Ne.symm gy)) ao.1.2.2.2 ao.1.1 ao.1.2.1 ao.1.2.2.1 ?_;rw [Array.setIfInBounds_comm _ _ gy];exact ao.2
def bc (P : Program) (ops : Array Oper) (K : aC → Prop) : List Oper → aC → Prop
  | [], s => K s
  | o :: rest, s => rA P ops o (bc P ops K rest) s
def Is (x y : Oper) : Option (Nat × Nat) :=
  match addrOf x, addrOf y with
  | some (.tmp t), some (.tmp u) => some (t, u)
  | _, _ => none
def oT (ops : Array Oper) (br : Array Bool) (t : Nat) : Bool := (List.range ops.size).all fun j => br.getD j true || match ops[j]? with
  | some o => o.dst != some t
  | none => true
def me (s : aC) (p : Nat × Nat) : Bool :=
  match s.tmps p.1, s.tmps p.2 with
  | some x, some y => ym x y
  | _, _ => false
def C9 (md : Region.Mode) (ops : Array Oper) (hX : List (Nat × Nat)) (br : Array Bool) (i : Nat) : Bool :=
  match ops[i]? with
  | none => false
  | some bm => (List.range ops.size).all fun j => j == i || br.getD j true || match ops[j]? with
      | some bu => vj bm bu || waits md ops 4 j i || match Is bm bu with
        | some (t, u) => hX.contains (t, u) && oT ops br t && oT ops br u
        | none => false
      | none => true
theorem Dn {br : Array Bool} {t : Nat} (h : oT ops br t = true) (j : Nat) (o : Oper) (aA : ops[j]? = some o) (k2 : br.getD j true = false) : o.dst ≠ some t := by
  unfold oT at h;simp only [b6, List.mem_range] at h;have := h j (jU.1 aA).1;simp only [aA, k2, Bool.false_or, bne_iff_ne, ne_eq] at this;exact this
theorem O8 {i : Nat} {hX : List (Nat × Nat)} {br : Array Bool} (hi : ops[i]? = some bm) (h : C9 md ops hX br i = true) (hs : ∀ p ∈ hX, oT ops br p.1 = true → oT ops br p.2 = true → me s p = true) (j : Nat) (bu : Oper)
    (ae : ops[j]? = some bu) (bU : j ≠ i) (k2 : br.getD j true = false) (h8 : waits md ops 4 j i = false) : pu ops br bm bu s := by
  simp only [C9, hi, b6, List.mem_range] at h;have h1 := h j (jU.1 ae).1;simp only [ae, so, beq_iff_eq, bU, false_or, k2, nz] at h1;rcases h1 with (h1 | h1) | h1
  · exact .inl h1
  · rw [h8] at h1; cases h1
  · split at h1
    · rename_i t u hp
      simp only [c5] at h1;obtain ⟨⟨c1, c2⟩, hf⟩ := h1;have lS := hs (t, u) (by simpa using c1) c2 hf;unfold Is at hp
      split at hp
      · rename_i mP oj aF aP
        cases hp;unfold me at lS
        split at lS
        · rename_i o fH q1 q2
          exact .inr ⟨t, u, o, fH, aF, aP, q1, q2, lS, fun fs eV hj tw => ⟨Dn c2 fs eV hj tw, Dn hf fs eV hj tw⟩⟩
        · cases lS
      · cases hp
    · cases h1
def zD (md : Region.Mode) (ops : Array Oper) (hX : List (Nat × Nat)) : List Nat → Array Bool → Bool
  | [], br => (Region.ready md ops br).isEmpty
  | k :: ord, br => (Region.ready md ops br).contains k && Region.free md ops br k && C9 md ops hX br k && zD md ops hX ord (br.setIfInBounds k true)
def getAll (l : List Oper) : List Nat → Option (List Oper)
  | [] => some []
  | i :: ord => match l[i]?, getAll l ord with
    | some o, some r => some (o :: r)
    | _, _ => none
theorem F4 {l : List Oper} : ∀ (ord : List Nat) (r : List Oper), getAll l ord = some r → r.length = ord.length ∧ ∀ (j : Nat), r[j]? = (ord[j]?).bind (l[·]?)
  | [], r, h => by cases h; exact ⟨rfl, fun j => by simp⟩
  | i :: ord, r, h => by
    simp only [getAll] at h
    split at h
    · rename_i o aV aA ap
      cases h;obtain ⟨h1, h2⟩ := F4 ord aV ap;refine ⟨by simp [h1], fun j => ?_⟩;cases j with
      | zero => simp [aA]
      | succ j => simpa using h2 j
    · cases h
theorem Kf {K : aC → Prop} : ∀ (l : List Oper) (s : aC), bc P ops K l s → ∃ s', K s' ∧ ∀ t, (∀ o ∈ l, o.dst ≠ some t) → s'.tmps t = s.tmps t
  | [], s, h => ⟨s, h, fun _ _ => rfl⟩
  | o :: l, s, ⟨b, hw, e, he, hd, fg⟩ => by
    obtain ⟨s', h1, h2⟩ := Kf l _ fg;exact ⟨s', h1, fun t aB => (h2 t fun eV hj => aB eV (by simp [hj])).trans (ca.xi (aB o (by simp)))⟩
theorem Kd {K : aC → Prop} {hX : List (Nat × Nat)} : ∀ (ord : List Nat) (l : List Oper) (br : Array Bool) (s : aC), l.length = ord.length → (∀ (j : Nat), l[j]? = (ord[j]?).bind (ops[·]?)) → (∀ k ∈ ord, br.getD k true = false) → (∀ k, k < ops.size → br.getD k true = false → k ∈ ord) → ord.Nodup → Down md ops br → s.cN →
    zD md ops hX ord br = true → bc P ops (fun s => hX.all (me s) = true ∧ K s) l s → yc P md ops K l.length br s
  | [], [], _, _, _, _, _, _, _, _, _, eM, h => ⟨by simpa [zD] using eM, h.2⟩
  | [], _ :: _, _, _, hlen, _, _, _, _, _, _, _, _ => by cases hlen
  | _ :: _, [], _, _, hlen, _, _, _, _, _, _, _, _ => by cases hlen
  | k :: ord, o :: l, br, s, hlen, ak, k2, GF, hh, fU, ok, eM, h => by
    have az : ops[k]? = some o := by simpa using (ak 0).symm
    have rQ := Kf _ _ h;simp only [zD, c5] at eM;obtain ⟨⟨⟨ap, au⟩, hm⟩, Gf⟩ := eM;obtain ⟨b, hw, e, he, hd, fg⟩ := h
    have hs : ∀ p ∈ hX, oT ops br p.1 = true → oT ops br p.2 = true → me s p = true := fun p hp eJ ft => by
      obtain ⟨s', ⟨h1, _⟩, h2⟩ := rQ
      have ho : ∀ t, oT ops br t = true → ∀ eV ∈ o :: l, eV.dst ≠ some t := fun t aB eV hj => by
        obtain ⟨j, ae⟩ := jR hj;rw [ak j] at ae;cases an : (k :: ord)[j]? with
        | none => rw [an] at ae; cases ae
        | some q => rw [an] at ae; exact Dn aB q eV ae (k2 _ (cV an))
      have := b6.1 h1 p hp;unfold me at this ⊢;rw [h2 p.1 (ho _ eJ), h2 p.2 (ho _ ft)] at this;exact this
    rw [List.nodup_cons] at hh;have bU : ∀ q ∈ ord, k ≠ q := fun q an e => hh.1 (by rw [e]; exact an);refine T6 az l.length br s (fun j bu h1 h2 ao aD cm => ⟨Region.free_spec az au j bu h1 h2 ao aD, O8 az hm hs j bu h1 h2 ao cm⟩) fU (by simpa using ap) ok hw he hd ?_;refine Kd ord l _ _ (by simpa using hlen) (fun j => by simpa using ak (j + 1)) (fun q an => by rw [getD_set_ne true (bU q an)]; exact k2 q (by simp [an])) (fun q an uZ => ?_) hh.2 (fU.set (by simpa using ap)) (yv ok he hd) Gf fg
    by_cases bo : k = q
    · subst bo
      have : k < br.size := by
        have := k2 k (by simp);rcases hZ k br.size with aK | aK
        · exact aK
        · simp [xq aK] at this
      simp [this] at uZ
    · rw [getD_set_ne true bo] at uZ
      rcases gj.1 (GF q an uZ) with aK | aK
      · exact absurd aK.symm bo
      · exact aK
def vk (ops : Array Oper) (ord : List Nat) : List (Nat × Nat) :=
  match ord with
  | [] => []
  | i :: rest => (match ops[i]? with
    | some bm => bif lW bm != 0 then rest.filterMap fun j => match ops[j]? with
        | some bu => bif vj bm bu || waits .any ops 4 j i then none else Is bm bu
        | none => none
      else []
    | none => []) ++ vk ops rest
def early (o : Oper) : Bool := (match o.op with | .alloc _ => true | _ => false) && o.after.isEmpty && o.guard.isNone
def q7 (l : List Oper) : List Nat := ((List.range l.length).filter fun i => match l[i]? with | some o => early o | none => false) ++ (List.range l.length).filter fun i => match l[i]? with | some o => !early o | none => false
def fj (P : Program) (c : Code) (Q : Exit → aC → Prop) (s : aC) : Prop :=
  s.cN → ∀ B A ad a w, Rel B A s ad a w → kl P c (fun e a' w' => ∃ s' a7, s'.cN ∧ Rel B A s' a7 a' w' ∧ Q e s') a w
def zG : List Nat → Bool
  | [] => true
  | x :: xs => !xs.contains x && zG xs
theorem H7 : ∀ (l : List Nat), zG l = true → l.Nodup
  | [], _ => List.nodup_nil
  | x :: xs, h => by
    simp only [zG, c5, oc, List.contains_eq_mem, iE] at h;exact List.nodup_cons.2 ⟨h.1, H7 xs h.2⟩
def LZ (l : List Oper) : Bool := Nat.beq (q7 l).length l.length && zG (q7 l) && (List.range l.length).all (fun i => (q7 l).contains i) && (q7 l).all (fun i => Nat.blt i l.length) && zD .any l.toArray (vk l.toArray (q7 l)) (q7 l) (Array.replicate l.length false)
theorem KU {id : Nat} {l cE : List Oper} {Q : Exit → aC → Prop} (hm : P.follows .mixedOrders = true) (eM : LZ l = true) (ak : getAll l (q7 l) = some cE)
    (h : bc P l.toArray (fun s => (vk l.toArray (q7 l)).all (me s) = true ∧ Q .normal s) cE s) : fj P (.region id l.toArray true) Q s := by
  intro ok B A ad a w aw;refine SC hm fun ro => ?_;unfold LZ at eM;simp only [c5, b6, List.mem_range, List.contains_eq_mem, b4] at eM;obtain ⟨⟨⟨⟨fA, b1⟩, b2⟩, dm⟩, cY⟩ := eM;obtain ⟨g1, g2⟩ := F4 _ _ ak;have hd : Rel B A s ad a { w with drawn := w.drawn + 1 } := aw.call ((Below.refl _ w).drew);refine Ke (K := Q .normal) (fun s' a7 a' w' dO ct af => ⟨s', a7, dO, ct, af⟩) _ _ s ad a _ ok hd ?_;have nd := H7 _ b1;have hlen : (q7 l).length = l.length := hr fA;have := Kd (md := .any) (ops := l.toArray) (q7 l) cE (Array.replicate l.length false) s g1 (by simpa using g2) (fun q an => by have := dm q an; simp [Nat.blt_eq] at this; simp [this]) (fun q an _ => b2 q (by simpa using an)) nd (fun k o af => by exfalso; rcases hZ k l.length with q | q <;> simp [Array.getElem?_replicate, q] at af) ok cY h;rw [g1, hlen] at this;simpa using this
theorem Kg {ro : Option Nat} {K : aC → Prop} {Q : Exit → Act → World → Prop} (kX : ∀ s' a7 a' w', s'.cN → Rel B A s' a7 a' w' → K s' → Q .normal a' w') : ∀ (l : List Oper) (k : Nat) (s : aC) (ad : Nat → Nat) (a : Act) (w : World), (∀ (j : Nat), l[j]? = ops[k + j]?) → s.cN → Rel B A s ad a w →
    bc P ops K l s → wpOpsIn (mm ro) 0 P ops Q ((List.range l.length).map (k + ·)) a w
  | [], _, _, _, _, _, _, ok, aw, h => kX _ _ _ _ ok aw h
  | o :: l, k, s, ad, a, w, ak, ok, aw, h => by
    have az : ops[k]? = some o := by simpa using (ak 0).symm
    have e : (List.range (o :: l).length).map (k + ·) = k :: (List.range l.length).map (k + 1 + ·) := by
      rw [jQ, List.range_succ_eq_map, kG, List.map_map];congr 1;apply o5;intro j _;simp [Nat.add_assoc, Nat.add_comm 1 j]
    rw [e, wpOpsIn_cons];refine Kh az ok aw h fun s' a7 a' w' dO ct af => Kg kX l (k + 1) s' a7 a' w' (fun j => by have := ak (j + 1); simpa [Nat.add_assoc, Nat.add_comm 1 j] using this) dO ct af
theorem KT {id : Nat} {l : List Oper} {Q : Exit → aC → Prop} (h : bc P l.toArray (Q .normal) l s) : fj P (.region id l.toArray false) Q s := by
  intro ok B A ad a w aw;refine SB fun ro => ?_;have := Kg (ro := ro) (ops := l.toArray) (K := Q .normal) (Q := fun e a' w' => ∃ s' a7, s'.cN ∧ Rel B A s' a7 a' w' ∧ Q e s') (fun s' a7 a' w' dO ct af => ⟨s', a7, dO, ct, af⟩) l 0 s ad a w (by simp) ok aw h;simpa using this
end
section
variable {P : Program} {B : eZ} {A : Nat → Prop} {s s1 s2 s' : aC} {ad : Nat → Nat} {a : Act} {w : World} {Q : Exit → aC → Prop} {x y : Code}
def rD (next : aC → Prop) (Q : Exit → aC → Prop) : Exit → aC → Prop
  | .normal, s => next s
  | e, s => Q e s
theorem KW (h : fj P x (rD (fun s' => fj P y Q s') Q) s) : fj P (.seq x y) Q s := by
  intro ok B A ad a w aw;refine SE (sE (h ok B A ad a w aw) ?_);rintro e a' w' ⟨s', a7, dO, ct, an⟩;cases e <;> first | exact an dO B A a7 a' w' ct | exact ⟨s', a7, dO, ct, an⟩
theorem KX (h : Q .normal s) : fj P .skip Q s := fun ok B A ad a w aw => SF ⟨s, ad, ok, aw, h⟩
theorem Vq {id : Nat} (h : Q (.exit id) s) : fj P (.exit id) Q s := fun ok B A ad a w aw => Sz ⟨s, ad, ok, aw, h⟩
theorem KV (h : Q .ret s) : fj P .ret Q s := fun ok B A ad a w aw => SD ⟨s, ad, ok, aw, h⟩
theorem KN {c : Operand} {t : Bool} (al : s.look c = some (.w (.one (.c (.bool t))))) (h1 : t = true → fj P x Q s) (az : t = false → fj P y Q s) : fj P (.cond c x y) Q s := by
  intro ok B A ad a w aw;have hv : a.eval c = .bool t := (aw.look al).1;refine Sy hv ?_;cases t with
  | true => exact h1 rfl ok B A ad a w aw
  | false => exact az rfl ok B A ad a w aw
theorem KR {c : Operand} (al : s.look c = some (.w (.one (.c (.bool true))))) (h1 : fj P x Q s) : fj P (.cond c x y) Q s := KN al (fun _ => h1) (fun e => by cases e)
theorem KQ {c : Operand} (al : s.look c = some (.w (.one (.c (.bool false))))) (az : fj P y Q s) : fj P (.cond c x y) Q s := KN al (fun e => by cases e) (fun _ => az)
def vV (id : Nat) (Q : Exit → aC → Prop) : Exit → aC → Prop
  | .exit pV, s => bif Nat.beq pV id then Q .normal s else Q (.exit pV) s
  | e, s => Q e s
theorem Vo {id : Nat} (h : fj P x (vV id Q) s) : fj P (.block id x) Q s := by
  intro ok B A ad a w aw;refine Sx (sE (h ok B A ad a w aw) ?_);rintro e a' w' ⟨s', a7, dO, ct, an⟩;cases e with
  | exit pV =>
    simp only [Exit.inBlock];simp only [vV] at an;cases ab : Nat.beq pV id with
    | true => rw [ab] at an; rw [if_pos (hr ab)]; exact ⟨s', a7, dO, ct, an⟩
    | false =>
      rw [ab] at an;have : pV ≠ id := fun e => by subst e; rw [Nat.beq_refl] at ab; cases ab
      rw [if_neg this]; exact ⟨s', a7, dO, ct, an⟩
  | _ => exact ⟨s', a7, dO, ct, an⟩
structure aC.aS (s s' : aC) : Prop where
  n : s'.n = s.n
  hc : ∀ t av, s'.tmps t = some av → s.tmps t = some av
  dC : ∀ k cs, s'.mem k = some cs → s.mem k = some cs
theorem Rel.le (h : Rel B A s ad a w) (l : s.aS s') : Rel B A s' ad a w := by
  have au : ∀ b, s.free A ad b → b < w.heap.size → s'.free A ad b ∧ w.heap[b]? = w.heap[b]? := fun b ab _ => ⟨⟨ab.1, fun k cs af => ab.2 k cs (l.dC k cs af)⟩, rfl⟩;refine ⟨h.pY, by rw [l.n]; exact h.size, fun t av aB => ?_, fun k cs af => ?_, fun k k' c c' af eI e => h.inj k k' c c' (l.dC _ _ af) (l.dC _ _ eI) e, h.below, h.up, fun k b af => by rw [l.n]; exact h.j7 k b af⟩
  · obtain ⟨v, h1, h2⟩ := h.hc t av (l.hc t av aB)
    exact ⟨v, h1, h2.map au fun _ _ => rfl⟩
  · obtain ⟨vs, ty, h1, h2, ao⟩ := h.dC k cs (l.dC k cs af)
    exact ⟨vs, ty, h1, h2.map au fun _ _ _ _ => rfl, ao⟩
theorem SA {c : Code} {Q : Exit → Act → World → Prop} (I : Nat → Act → World → Prop) {n : Nat} (h₀ : I n a w)
    (round : ∀ n a w, I n a w → kl P c (Exit.then (fun a' w' => ∃ m, m < n ∧ I m a' w') Q) a w) : kl P (Code.loop c) Q a w := by
  intro ro b k cs iV ab k1
  have key : ∀ n a w, I n a w →
      ∃ e a' w', Q e a' w' ∧ ArrivesIn (Machine.fenced P (mm ro)) P (lone (b.atR a (.code c :: .inLoop c :: k)) cs w) b k cs e a' w' := by
    intro n
    induction n using Nat.strongRecOn with
    | _ n bI =>
      intro a w bj;obtain ⟨e, v8, xJ, an, tg⟩ := round n a w bj ro b (.inLoop c :: k) cs iV ab k1;cases e with
      | normal =>
        obtain ⟨m, bb, XP⟩ := an;obtain ⟨W8, Vu, ahj, Zj, X6⟩ := bI m bb v8 xJ XP;exact ⟨W8, Vu, ahj, Zj, .of_steps (StepsIn.trans tg (.one (fenced_calm ab k1 rfl) stepR_inLoop)) X6⟩
      | exit id => exact ⟨_, v8, xJ, an, .pass (x := .inLoop c) rfl (fun _ _ => .inl (by simp)) tg⟩
      | goto l => exact ⟨_, v8, xJ, an, .pass (x := .inLoop c) rfl (fun _ _ => .inl (by simp)) tg⟩
      | ret => exact ⟨_, v8, xJ, an, .pass (x := .inLoop c) rfl (fun _ _ => .inl (by simp)) tg⟩
      | panic ch => exact ⟨_, v8, xJ, an, .pass (x := .inLoop c) rfl (fun _ _ => .inl (by simp)) tg⟩
      | outgrown => exact ⟨_, v8, xJ, an, .pass (x := .inLoop c) rfl (fun _ _ => .inl (by simp)) tg⟩
  obtain ⟨e, a', w', an, tg⟩ := key _ a w h₀;exact ⟨e, a', w', an, .of_steps (.one (fenced_calm ab k1 rfl) stepR_loop) tg⟩
theorem KS (I : Nat → aC → Prop) (n : Nat) (dJ : aC) (qS : s.aS dJ) (acy : dJ.cN) (az : I n dJ)
    (round : ∀ n s, I n s → fj P x (rD (fun s' => ∃ m, m < n ∧ ∃ Ag, s'.aS Ag ∧ Ag.cN ∧ I m Ag) Q) s) : fj P (.loop x) Q s := by
  intro ok B A ad a w aw;refine SA (fun n a w => ∃ s ad, s.cN ∧ Rel B A s ad a w ∧ I n s) ⟨dJ, ad, acy, aw.le qS, az⟩ ?_;rintro n a w ⟨s, ad, ok, aw, bj⟩;refine sE (round n s bj ok B A ad a w aw) ?_;rintro e a' w' ⟨s', a7, dO, ct, an⟩;cases e with
  | normal =>
    obtain ⟨m, hm, Ag, ak, vo, b8⟩ := an;exact ⟨m, hm, Ag, a7, vo, ct.le ak, b8⟩
  | _ => exact ⟨s', a7, dO, ct, an⟩
def ah.aS (x y : ah) : Prop := ∀ U ad W v, cX U ad W x v → cX U ad W y v
theorem ah.aS.refl (x : ah) : x.aS x := fun _ _ _ _ h => h
theorem ah.aS.of_eq {x y : ah} (h : x = y) : x.aS y := by subst h; exact .refl x
def iG (P : Program) (s : aC) : ResultVar → Option bx
  | .tmp t => match s.tmps t with
    | some (.w x) => some x
    | _ => none
  | .cell a ty => match s.tmps a with
    | some (.w (.one (.own k off))) => (s.mem k).bind (pick P ty · off)
    | _ => none
def packed : List bx → ah
  | [x] => .w x
  | xs => .cn xs
def yn (P : Program) (fn : Func) (r : ah) : Exit → aC → Prop
  | .normal, s | .ret, s => ∃ xs, fn.results.toList.map (iG P s) = xs.map some ∧ (packed xs).aS r
  | _, _ => False
theorem RS {α : Type} {f : α → Sem Value} : ∀ (l : List α) (vs : List Value), l.length = vs.length → (∀ (i : Nat) x v, l[i]? = some x → vs[i]? = some v → (f x).run P w = .ok v w) → (l.mapM f).run P w = .ok vs w
  | [], [], _, _ => rfl
  | [], _ :: _, h, _ => by cases h
  | _ :: _, [], h, _ => by cases h
  | x :: l, v :: vs, ak, h => by
    have az := h 0 x v rfl rfl;have bI := RS l vs (by simpa using ak) (fun i x v aa hv => h (i + 1) x v (by simpa using aa) (by simpa using hv));rw [List.mapM_cons];simp only [Sem.run_bind, az, Result.andThen_ok, bI];rfl
def z1 (a : Act) : ResultVar → Sem Value
  | .tmp t => pure (a.tmps.getD t undef)
  | .cell b t => do loadVar t (← asAddr (a.tmps.getD b undef))
theorem ae3 (fn : Func) (a : Act) : results fn a.tmps = (do let vs ← fn.results.mapM (z1 a); pure (if h : vs.size = 1 then vs[0] else .tuple vs)) := rfl
theorem ae2 {v : ResultVar} {z : bx} (aw : Rel B A s ad a w) (h : iG P s v = some z) : ∃ u, (z1 a v).run P w = .ok u w ∧ fR (s.free A ad) ad w z u := by
  cases v with
  | tmp t =>
    simp only [iG] at h
    split at h
    · rename_i x aa
      cases h;obtain ⟨v, h1, h2⟩ := aw.hc t _ aa;refine ⟨v, ?_, h2⟩;simp [z1, Array.getD_eq_getD_getElem?, h1]
    · cases h
  | cell b ty =>
    simp only [iG] at h
    split at h
    · rename_i k off aa
      cases hm : s.mem k with
      | none => rw [hm] at h; cases h
      | some cs =>
        rw [hm] at h;obtain ⟨vs, t, g1, g2, g3⟩ := aw.dC k cs hm;obtain ⟨u, h1, h2⟩ := QO h g1 g2;obtain ⟨p, q1, q2⟩ := aw.hc b _ aa;cases q2;refine ⟨u, ?_, h2⟩;simp only [z1, Array.getD_eq_getD_getElem?, q1, Option.getD_some, asAddr, Sem.run_bind, Sem.run_pure, Result.andThen_ok, h1]
    · cases h
theorem Rv {fn : Func} {xs : List bx} (aw : Rel B A s ad a w) (h : fn.results.toList.map (iG P s) = xs.map some) : ∃ v, (results fn a.tmps).run P w = .ok v w ∧ cX (s.free A ad) ad w (packed xs) v := by
  have key : ∀ (l : List ResultVar) (xs : List bx), l.map (iG P s) = xs.map some → ∃ vs : List Value, vs.length = xs.length ∧ l.length = vs.length ∧ (∀ (i : Nat) r u, l[i]? = some r → vs[i]? = some u → (z1 a r).run P w = .ok u w) ∧ ∀ (i : Nat) x u, xs[i]? = some x → vs[i]? = some u → fR (s.free A ad) ad w x u := by
    intro l
    induction l with
    | nil => intro xs h; cases xs with
      | nil => exact ⟨[], rfl, rfl, fun i r u h => by simp at h, fun i x u h => by simp at h⟩
      | cons => cases h
    | cons r l bI =>
      intro xs h;cases xs with
      | nil => cases h
      | cons x xs =>
        simp only [kG, List.cons.injEq] at h;obtain ⟨vs, aF, aP, cr, ew⟩ := bI xs h.2;obtain ⟨u, q1, q2⟩ := ae2 aw h.1;refine ⟨u :: vs, by simp [aF], by simp [aP], fun i aV oj h1 h2 => ?_, fun i x' oj h1 h2 => ?_⟩
        · cases i with
          | zero => simp at h1 h2; subst h1; subst h2; exact q1
          | succ i => exact cr i aV oj (by simpa using h1) (by simpa using h2)
        · cases i with
          | zero => simp at h1 h2; subst h1; subst h2; exact q2
          | succ i => exact ew i x' oj (by simpa using h1) (by simpa using h2)
  obtain ⟨vs, aF, aP, cr, ew⟩ := key _ _ h;have hm := RS (P := P) (w := w) _ vs aP cr
  have gI : (results fn a.tmps).run P w = .ok (if h : vs.toArray.size = 1 then vs.toArray[0] else .tuple vs.toArray) w := by
    rw [ae3, Array.mapM_eq_mapM_toList];simp only [map_eq_pure_bind, bind_assoc, Sem.run_bind];rw [hm];simp only [Result.andThen_ok, Sem.run_bind, Sem.run_pure]
  refine ⟨_, gI, ?_⟩
  match vs, xs, aF, ew with
  | [], [], _, _ => exact ⟨[], rfl, rfl, fun i x v h => by simp at h⟩
  | [v], [x], _, ew => exact ew 0 x v rfl rfl
  | v1 :: v2 :: vs, cA :: cR :: xs, aF, ew =>
    rw [dif_neg (by simp)];exact ⟨v1 :: v2 :: vs, rfl, aF.symm, ew⟩
def start (n : Nat) (args : List ah) : aC := ⟨n, fun t => args[t]?, fun _ => none⟩
def sG (P : Program) (c : Code) (Q : Exit → aC → Prop) (s : aC) : Prop :=
  s.cN → ∀ W A ad a w, Rel (eZ.all W) A s ad a w → c.wp P (fun e a' w' => ∃ s' a7, s'.cN ∧ Rel (eZ.all W) A s' a7 a' w' ∧ Q e s') a w
theorem QN {f : FuncId} {fn : Func} {c : Code} {args : List ah} {r : ah} (au : P.funcs[f]? = some fn) (ab : fn.body = some c) (ax : args.length ≤ fn.ntmps) (jC : ∀ x ∈ args, x.closed) (b0 : r.closed)
    (h : sG P c (yn P fn r) (start fn.ntmps args)) : aH P f args r := by
  refine ⟨jC, b0, fun U W vs cK => ?_⟩;have ak := cK.1
 
  refine calls_of_wp au ab ?_;have ok : (start fn.ntmps args).cN := ⟨fun t av j aB ae => absurd ae (jC av (cV aB) j), fun k cs x j af => by cases af⟩
  have aw : Rel (eZ.all W) (fun b => U b ∨ W.heap.size ≤ b) (start fn.ntmps args) id { tmps := vs.toArray ++ Array.replicate (fn.ntmps - vs.toArray.size) undef, defers := [] } W := by
    refine ⟨rfl, by simp [start]; omega, fun t av aB => ?_, (fun k cs af => by cases af), (fun k k' cs ar af => by cases af), j3.refl (eZ.all W), fun b ab => .inr ab, fun k b af => (by cases af)⟩;have bb : t < vs.length := by rw [← ak]; exact (bA.1 aB).1
    refine ⟨vs[t], by simp [Array.getElem?_append, bb], ?_⟩;exact (cK.2 t av _ aB (bJ bb)).map (fun b ab _ => ⟨⟨.inl ab, fun k cs af => by cases af⟩, rfl⟩) fun _ _ => rfl
  refine wp_mono (h ok W _ id _ W aw) ?_;rintro e a' w' ⟨s', a7, dO, ct, an⟩
  have fin : (∃ xs, fn.results.toList.map (iG P s') = xs.map some ∧ (packed xs).aS r) → a'.defers = [] ∧ ∃ v, (results fn a'.tmps).run P w' = .ok v w' ∧ ∃ u, Ending.returned v = .returned u ∧ cX (fun b => U b ∨ W.heap.size ≤ b) id w' r u ∧ Below W.heap.size W w' := by
    rintro ⟨xs, h1, h2⟩;obtain ⟨v, q1, q2⟩ := Rv ct h1;exact ⟨ct.pY, v, q1, v, rfl, (h2 _ _ _ _ q2).map (fun b ab _ => ⟨ab.1, rfl⟩) fun j ae => absurd ae (b0 j), ct.below.all⟩
  cases e with
  | normal => exact fin an
  | ret => exact fin an
  | _ => exact an.elim
theorem aeh {f : FuncId} {fn : Func} {c : Code} {args : List ah} {r : ah} (au : P.funcs[f]? = some fn) (ab : fn.body = some c) (ax : args.length ≤ fn.ntmps) (jC : ∀ x ∈ args, x.closed) (b0 : r.closed)
    (h : fj P c (yn P fn r) (start fn.ntmps args)) : aH P f args r :=
  QN au ab ax jC b0 fun ok W A ad a w aw => (h ok (eZ.all W) A ad a w aw).top
end
end Go.Proofs.YtbcecodakfejaaaGreat
