/-
  My own texts, without what this claim does not need. My own text.
-/
import Derived.Below
import Derived.Still
import Derived.OrdersIn
import Derived.Laws.CopyRow
import Derived.Laws.Cells
import Derived.Test.YtpochbhajmbfdaaGreatSEndsK1
set_option maxRecDepth 100000
set_option maxHeartbeats 64000000
set_option linter.unusedVariables false
set_option linter.unusedSimpArgs false
set_option linter.unusedSectionVars false
namespace Go.Proofs.YtpochbhajmbfdaaGreat
open Go.RowKit
structure e2 where
  holds : World → Value → Prop
  lc : World → Value → Nat → Prop
  frame : ∀ w w' v, holds w v → (∀ b, lc w v b → w'.heap[b]? = w.heap[b]?) → holds w' v ∧ ∀ b, lc w' v b → lc w v b
  ik : ∀ w v b, holds w v → lc w v b → b < w.heap.size
  cell : ∀ w v, holds w v → v.oneCell' = true
inductive AC where
  | c (v : Value)
  | own (k off : Nat)
  | p (R : e2)
inductive bI where
  | one (x : AC)
  | agg (xs : List AC)
inductive aj where
  | w (x : bI)
  | cZ (xs : List bI)
def bI.cells : bI → List AC
  | .one x => [x]
  | .agg xs => xs
def gn (U : Nat → Prop) (ad : Nat → Nat) (W : World) : AC → Value → Prop
  | .c v, x => x = v ∧ v.oneCell' = true
  | .own k off, x => x = .pointer (some ⟨ad k, off, none⟩)
  | .p R, x => R.holds W x ∧ ∀ b, R.lc W x b → U b
def bV (U : Nat → Prop) (ad : Nat → Nat) (W : World) (xs : List AC) (vs : List Value) : Prop :=
  xs.length = vs.length ∧ ∀ (i : Nat) (x : AC) (v : Value), xs[i]? = some x → vs[i]? = some v → gn U ad W x v
def gC (U : Nat → Prop) (ad : Nat → Nat) (W : World) : bI → Value → Prop
  | .one x, v => gn U ad W x v
  | .agg xs, v => ∃ vs : List Value, v = .agg vs.toArray ∧ bV U ad W xs vs
def c9 (U : Nat → Prop) (ad : Nat → Nat) (W : World) : aj → Value → Prop
  | .w x, v => gC U ad W x v
  | .cZ xs, v => ∃ vs : List Value, v = .tuple vs.toArray ∧ xs.length = vs.length ∧ ∀ (i : Nat) (x : bI) (v : Value), xs[i]? = some x → vs[i]? = some v → gC U ad W x v
def AC.owns : AC → Nat → Prop
  | .own k _, j => j = k
  | _, _ => False
def bI.owns (x : bI) (j : Nat) : Prop := ∃ y ∈ x.cells, y.owns j
def aj.owns : aj → Nat → Prop
  | .w x, j => x.owns j
  | .cZ xs, j => ∃ x ∈ xs, x.owns j
section
variable {U cC : Nat → Prop} {ad bg : Nat → Nat} {W bo : World}
theorem gn.cell {x : AC} {v : Value} (h : gn U ad W x v) : v.oneCell' = true := by
  cases x with
  | c u => obtain ⟨rfl, h⟩ := h; exact h
  | own k off => cases h; rfl
  | p R => exact R.cell _ _ h.1
theorem gn.map {x : AC} {v : Value} (h : gn U ad W x v) (dz : ∀ b, U b → b < W.heap.size → cC b ∧ bo.heap[b]? = W.heap[b]?) (ja : ∀ j, x.owns j → bg j = ad j) : gn cC bg bo x v := by
  cases x with
  | c u => exact h
  | own k off => simp only [gn] at h ⊢; rw [h, ja k rfl]
  | p R =>
    obtain ⟨h1, h2⟩ := h;have ap := R.frame W bo v h1 (fun b ab => (dz b (h2 b ab) (R.ik _ _ _ h1 ab)).2);exact ⟨ap.1, fun b ab => (dz b (h2 b (ap.2 b ab)) (R.ik _ _ _ h1 (ap.2 b ab))).1⟩
theorem bV.map {xs : List AC} {vs : List Value} (h : bV U ad W xs vs) (dz : ∀ b, U b → b < W.heap.size → cC b ∧ bo.heap[b]? = W.heap[b]?) (ja : ∀ j x, x ∈ xs → x.owns j → bg j = ad j) : bV cC bg bo xs vs :=
  ⟨h.1, fun i x v aa hv => (h.2 i x v aa hv).map dz fun j ae => ja j x (dG aa) ae⟩
theorem gC.map {x : bI} {v : Value} (h : gC U ad W x v) (dz : ∀ b, U b → b < W.heap.size → cC b ∧ bo.heap[b]? = W.heap[b]?) (ja : ∀ j, x.owns j → bg j = ad j) : gC cC bg bo x v := by
  cases x with
  | one x => exact gn.map h dz fun j ae => ja j ⟨x, by simp [bI.cells], ae⟩
  | agg xs =>
    obtain ⟨vs, e, h⟩ := h;exact ⟨vs, e, h.map dz fun j x aa ae => ja j ⟨x, aa, ae⟩⟩
theorem c9.map {x : aj} {v : Value} (h : c9 U ad W x v) (dz : ∀ b, U b → b < W.heap.size → cC b ∧ bo.heap[b]? = W.heap[b]?) (ja : ∀ j, x.owns j → bg j = ad j) : c9 cC bg bo x v := by
  cases x with
  | w x => exact gC.map h dz ja
  | cZ xs =>
    obtain ⟨vs, e, ao, h⟩ := h;exact ⟨vs, e, ao, fun i x v aa hv => (h i x v aa hv).map dz fun j ae => ja j ⟨x, dG aa, ae⟩⟩
theorem gC.cells {x : bI} {v : Value} (h : gC U ad W x v) : bV U ad W x.cells v.cells.toList := by
  cases x with
  | one x =>
    have ak : v.cells = #[v] := by
      have := gn.cell h;cases v <;> simp_all [Value.cells, Value.oneCell']
    rw [ak];refine ⟨rfl, fun i y u ah hu => ?_⟩;simp only [bI.cells] at ah;cases i with
    | zero => simp at ah hu; subst ah; subst hu; exact h
    | succ i => simp at ah
  | agg xs =>
    obtain ⟨vs, rfl, h⟩ := h;exact h
end
def bQ {α : Type} (f : Nat → Option α) (k : Nat) (v : α) : Nat → Option α := fun j => bif Nat.beq j k then some v else f j
theorem cr {α : Type} (f : Nat → Option α) (k : Nat) (v : α) : bQ f k v k = some v := by simp [bQ]
theorem cl {α : Type} (f : Nat → Option α) {k j : Nat} (v : α) (h : j ≠ k) : bQ f k v j = f j := by
  have : Nat.beq j k = false := by
    cases ab : Nat.beq j k with
    | false => rfl
    | true => exact absurd (gZ ab) h
  simp [bQ, this]
theorem QX {α : Type} (f : Nat → Option α) {k j : Nat} (v u : α) (h : j ≠ k) : bQ (bQ f k v) j u = bQ (bQ f j u) k v := by
  funext i
  by_cases h1 : i = j
  · subst h1; rw [cr, cl _ _ h, cr]
  · by_cases h2 : i = k
    · subst h2; rw [cl _ _ h1, cr, cr]
    · rw [cl _ _ h1, cl _ _ h2, cl _ _ h2, cl _ _ h1]
structure aC where
  n : Nat
  tmps : Nat → Option aj
  mem : Nat → Option (List AC)
def aC.put (s : aC) (dst : Option Nat) (v : aj) : aC :=
  match dst with
  | some d => { s with tmps := bQ s.tmps d v }
  | none => s
def aC.dX (s : aC) (k : Nat) (cs : List AC) : aC := { s with mem := bQ s.mem k cs }
def OX : Value → bI
  | .agg cs => .agg (cs.toList.map .c)
  | v => .one (.c v)
def xj : Value → aj
  | .tuple vs => .cZ (vs.toList.map OX)
  | v => .w (OX v)
def aC.look (s : aC) : Operand → Option aj
  | .tmp t => s.tmps t
  | .const v => if v.oneCell' then some (.w (.one (.c v))) else none
  | .global g => some (.w (.one (.c (.pointer (some ⟨g, 0, none⟩)))))
  | .func f => some (.w (.one (.c (.func (.func f) #[] #[]))))
def aC.free (s : aC) (A : Nat → Prop) (ad : Nat → Nat) (b : Nat) : Prop := A b ∧ ∀ k cs, s.mem k = some cs → ad k ≠ b
structure aC.cN (s : aC) : Prop where
  gO : ∀ t av j, s.tmps t = some av → av.owns j → ∃ cs, s.mem j = some cs
  dx : ∀ k cs x j, s.mem k = some cs → x ∈ cs → x.owns j → ∃ au, s.mem j = some au
structure eX where
  W : World
  F : Nat → Prop
  lt : ∀ b, F b → b < W.heap.size
  N : Nat → Option Nat
  marks : List Deferred := []
def eX.all (W : World) : eX := ⟨W, fun b => b < W.heap.size, fun _ h => h, fun _ => none, []⟩
def ug (B : eX) (s : aC) (ad : Nat → Nat) : Prop := ∀ k b, B.N k = some b → s.n ≤ k ∧ ad k = b
structure jN (B : eX) (w : World) : Prop where
  os : w.os = B.W.os
  tape : w.tape = B.W.tape
  output : w.output = B.W.output
  size : B.W.heap.size ≤ w.heap.size
  block : ∀ b, B.F b → w.heap[b]? = B.W.heap[b]?
theorem jN.then {B : eX} {w w' : World} (h : jN B w) (ab : Below w.heap.size w w') : jN B w' :=
  ⟨ab.os.trans h.os, ab.tape.trans h.tape, ab.output.trans h.output, kS h.size ab.size, fun b ar => (ab.block b (tX (B.lt b ar) h.size)).trans (h.block b ar)⟩
theorem jN.refl (B : eX) : jN B B.W := ⟨rfl, rfl, rfl, dW _, fun _ _ => rfl⟩
theorem jN.all {W w : World} (h : jN (eX.all W) w) : Below W.heap.size W w := ⟨h.os, h.tape, h.output, h.size, fun k af => h.block k af⟩
structure Rel (B : eX) (A : Nat → Prop) (s : aC) (ad : Nat → Nat) (a : Act) (w : World) : Prop where
  pH : a.defers = B.marks
  size : a.tmps.size = s.n
  gO : ∀ t av, s.tmps t = some av → ∃ v, a.tmps[t]? = some v ∧ c9 (s.free A ad) ad w av v
  dx : ∀ k cs, s.mem k = some cs → ∃ (vs : List Value) (ty : TypeId), w.heap[ad k]? = some (.cells vs.toArray ty (0, 0)) ∧ bV (s.free A ad) ad w cs vs ∧ ¬ B.F (ad k)
  inj : ∀ k k' cs au, s.mem k = some cs → s.mem k' = some au → ad k = ad k' → k = k'
  below : jN B w
  up : ∀ b, B.W.heap.size ≤ b → A b
  jT : ug B s ad
section
variable {B : eX} {A : Nat → Prop} {s : aC} {ad : Nat → Nat} {a : Act} {w w' : World}
theorem aC.V7 (s : aC) (dst : Option Nat) (v : aj) (A : Nat → Prop) (ad : Nat → Nat) : (s.put dst v).free A ad = s.free A ad := by cases dst <;> rfl
theorem aC.xd (s : aC) (dst : Option Nat) (v : aj) : (s.put dst v).mem = s.mem := by cases dst <;> rfl
theorem aC.sa (s : aC) (dst : Option Nat) (v : aj) : (s.put dst v).n = s.n := by cases dst <;> rfl
theorem Rel.put {dst : Option Nat} {av : aj} {v : Value} (h : Rel B A s ad a w) (hd : ∀ d, dst = some d → d < s.n) (hv : c9 (s.free A ad) ad w av v) : Rel B A (s.put dst av) ad (a.put dst v) w := by
  cases dst with
  | none => exact h
  | some d =>
    have bj := hd d rfl;refine ⟨h.pH, by simp [aC.put, Act.put, h.size], fun t bv aD => ?_, h.dx, h.inj, h.below, h.up, h.jT⟩;simp only [aC.put] at aD
    by_cases e : t = d
    · subst e
      rw [cr] at aD;cases aD;exact ⟨v, by simp [Act.put, h.size, bj], hv⟩
    · rw [cl _ _ e] at aD
      obtain ⟨u, h1, h2⟩ := h.gO t bv aD;exact ⟨u, by simp only [Act.put]; rw [Array.getElem?_setIfInBounds_ne (Ne.symm e)]; exact h1, h2⟩
theorem Rel.lt {k : Nat} {cs : List AC} (h : Rel B A s ad a w) (af : s.mem k = some cs) : ad k < w.heap.size := by
  obtain ⟨vs, ty, h1, _⟩ := h.dx k cs af;exact (kr.1 h1).1
theorem Rel.call (h : Rel B A s ad a w) (ab : Below w.heap.size w w') : Rel B A s ad a w' := by
  have dz : ∀ b, s.free A ad b → b < w.heap.size → s.free A ad b ∧ w'.heap[b]? = w.heap[b]? := fun b df ao => ⟨df, ab.block b ao⟩;refine ⟨h.pH, h.size, fun t av aD => ?_, fun k cs af => ?_, h.inj, h.below.then ab, h.up, h.jT⟩
  · obtain ⟨v, h1, h2⟩ := h.gO t av aD
    exact ⟨v, h1, h2.map dz fun _ _ => rfl⟩
  · obtain ⟨vs, ty, h1, h2, ap⟩ := h.dx k cs af
    exact ⟨vs, ty, by rw [ab.block _ (h.lt af)]; exact h1, h2.map dz fun _ _ _ _ => rfl, ap⟩
theorem Rel.new {d : Nat} {cs : List AC} {vs : List Value} {ty : TypeId} (h : Rel B A s ad a w) (ok : s.cN) (fQ : d < s.n) (hm : s.mem d = none) (hv : bV (s.free A ad) ad w cs vs) (ev : ∀ x ∈ cs, ∀ j, x.owns j → ∃ au, s.mem j = some au) :
    Rel B A (s.dX d cs) (fun k => if k = d then w.heap.size else ad k) a (w.alloc (.cells vs.toArray ty)) := by
  have cq : ∀ k au, s.mem k = some au → k ≠ d := fun k au af e => by subst e; rw [hm] at af; cases af
  have dz : ∀ b, s.free A ad b → b < w.heap.size → (s.dX d cs).free A (fun k => if k = d then w.heap.size else ad k) b ∧ (w.alloc (.cells vs.toArray ty)).heap[b]? = w.heap[b]? := by
    intro b ab ao;refine ⟨⟨ab.1, fun k au af => ?_⟩, Below.heap_alloc _ _ _ ao⟩;simp only [aC.dX] at af
    by_cases e : k = d
    · subst e; simp; omega
    · rw [cl _ _ e] at af
      simp only [e, if_false];exact ab.2 k au af
  have ef : ∀ j, (∃ au, s.mem j = some au) → (if j = d then w.heap.size else ad j) = ad j := fun j ⟨au, ae⟩ => by rw [if_neg (cq j au ae)]
  refine ⟨h.pH, h.size, fun t av aD => ?_, fun k au af => ?_, fun k k' c1 c2 af eL e => ?_, h.below.then ((Below.refl _ _).alloc (dW _) _), h.up, fun k b af => ?_⟩
  · obtain ⟨v, h1, h2⟩ := h.gO t av aD
    exact ⟨v, h1, h2.map dz fun j ae => ef j (ok.gO t av j aD ae)⟩
  · simp only [aC.dX] at af
    by_cases e : k = d
    · subst e
      rw [cr] at af;cases af;refine ⟨vs, ty, ?_, hv.map dz fun j x aa ae => ef j (ev x aa j ae), ?_⟩
      · show (w.heap.push _)[if k = k then w.heap.size else ad k]? = _; simp
      · simp only [if_true]; exact fun ar => by have := B.lt _ ar; have := h.below.size; omega
    · rw [cl _ _ e] at af
      obtain ⟨us, t, h1, h2, ap⟩ := h.dx k au af;refine ⟨us, t, ?_, h2.map dz fun j x aa ae => ef j (ok.dx k au x j af aa ae), ?_⟩
      · simp only [e, if_false]; rw [Below.heap_alloc _ _ _ (h.lt af)]; exact h1
      · simp only [e, if_false]; exact ap
  · simp only [aC.dX] at af eL
    by_cases aI : k = d <;> by_cases aO : k' = d
    · rw [aI, aO]
    · rw [cl _ _ aO] at eL
      have := h.lt eL;simp [aI, aO] at e;omega
    · rw [cl _ _ aI] at af
      have := h.lt af;simp [aI, aO] at e;omega
    · rw [cl _ _ aI] at af
      rw [cl _ _ aO] at eL;simp [aI, aO] at e;exact h.inj k k' _ _ af eL e
  · obtain ⟨h1, h2⟩ := h.jT k b af
    refine ⟨h1, ?_⟩;rw [if_neg (fun e => by subst e; exact absurd fQ (Nat.not_lt.2 h1))];exact h2
theorem Rel.set {k : Nat} {cs ds : List AC} {us : List Value} (h : Rel B A s ad a w) (af : s.mem k = some cs) (hv : bV (s.free A ad) ad w ds us) : Rel B A (s.dX k ds) ad a (w.setRow (ad k) us.toArray) := by
  have jt : (s.dX k ds).free A ad = s.free A ad := by
    funext b;apply propext
    constructor
    · rintro ⟨dU, ab⟩
      refine ⟨dU, fun j au ae => ?_⟩
      by_cases e : j = k
      · subst e; exact ab j ds (by simp [aC.dX, cr])
      · exact ab j au (by simp only [aC.dX]; rw [cl _ _ e]; exact ae)
    · rintro ⟨dU, ab⟩
      refine ⟨dU, fun j au ae => ?_⟩;simp only [aC.dX] at ae
      by_cases e : j = k
      · subst e; exact ab j cs af
      · rw [cl _ _ e] at ae; exact ab j au ae
  obtain ⟨vs, ty, g1, g2, g3⟩ := h.dx k cs af;have mM : (w.setRow (ad k) us.toArray).heap[ad k]? = some (.cells us.toArray ty (0, 0)) := setRow_heap w (ad k) vs.toArray us.toArray ty (0, 0) g1
  have u4 : ∀ b, b ≠ ad k → (w.setRow (ad k) us.toArray).heap[b]? = w.heap[b]? := fun b ab => by
    simp only [World.setRow, tW]; rw [if_neg (Ne.symm ab)]
  have dz : ∀ b, s.free A ad b → b < w.heap.size → s.free A ad b ∧ (w.setRow (ad k) us.toArray).heap[b]? = w.heap[b]? := fun b ab _ => ⟨ab, u4 b (Ne.symm (ab.2 k cs af))⟩;refine ⟨h.pH, h.size, fun t av aD => ?_, fun j au ae => ?_, fun j eP c1 c2 ae jV e => ?_, ?_, h.up, h.jT⟩
  · obtain ⟨v, h1, h2⟩ := h.gO t av aD
    exact ⟨v, h1, by rw [jt]; exact h2.map dz fun _ _ => rfl⟩
  · simp only [aC.dX] at ae
    rw [jt]
    by_cases e : j = k
    · subst e
      rw [cr] at ae;cases ae;exact ⟨us, ty, mM, hv.map dz fun _ _ _ _ => rfl, g3⟩
    · rw [cl _ _ e] at ae
      obtain ⟨vJ, afl, h1, h2, ap⟩ := h.dx j au ae;exact ⟨vJ, afl, by rw [u4 _ (fun bw => e (h.inj j k _ _ ae af bw))]; exact h1, h2.map dz fun _ _ _ _ => rfl, ap⟩
  · have hold : ∀ i c, (s.dX k ds).mem i = some c → ∃ c', s.mem i = some c' := fun i c hi => by
      simp only [aC.dX] at hi
      by_cases e : i = k
      · exact ⟨cs, by rw [e]; exact af⟩
      · rw [cl _ _ e] at hi; exact ⟨c, hi⟩
    obtain ⟨d1, q1⟩ := hold j c1 ae;obtain ⟨d2, q2⟩ := hold eP c2 jV;exact h.inj j eP _ _ q1 q2 e
  · exact ⟨h.below.os, h.below.tape, h.below.output, by have := h.below.size; simpa [World.setRow] using this, fun b ab => (u4 b (fun e => by subst e; exact g3 ab)).trans (h.below.block b ab)⟩
end
def aj.closed (x : aj) : Prop := ∀ j, ¬ x.owns j
def jR (U : Nat → Prop) (ad : Nat → Nat) (W : World) (xs : List aj) (vs : List Value) : Prop :=
  xs.length = vs.length ∧ ∀ (i : Nat) (x : aj) (v : Value), xs[i]? = some x → vs[i]? = some v → c9 U ad W x v
structure aR (P : Program) (f : FuncId) (args : List aj) (r : aj) : Prop where
  jn : ∀ x ∈ args, x.closed
  cj : r.closed
  call : ∀ (U : Nat → Prop) (W : World) (vs : List Value), jR U id W args vs →
    Calls P f vs.toArray W fun e bo => ∃ v, e = .returned v ∧ c9 (fun b => U b ∨ W.heap.size ≤ b) id bo r v ∧ Below W.heap.size W bo
structure vS (P : Program) (look : Operand → Option aj) (o : Oper) (av : aj) : Prop where
  aem : ∀ cs b, o.op ≠ .select cs b
  ops : ∀ x ∈ o.op.operands, ∃ a, look x = some a
  run : ∀ (U : Nat → Prop) (ad : Nat → Nat) (W : World) (env : Operand → Value), (∀ x ∈ o.op.operands, ∀ a, look x = some a → c9 U ad W a (env x)) →
    ∃ v, (execOp env o).run P W = .ok (.value v) W ∧ c9 U ad W av v
  own : ∀ j, av.owns j → ∃ x ∈ o.op.operands, ∃ a, look x = some a ∧ a.owns j
def pick (P : Program) (ty : TypeId) (cs : List AC) (off : Nat) : Option bI :=
  match P.underlying ty with
  | some (.struct _) | some (.array _ _) => (P.info? ty).bind fun i => if off + i.size ≤ cs.length then some (.agg ((cs.drop off).take i.size)) else none
  | some _ => (cs[off]?).map .one
  | none => none
def eA (cs : List AC) (off : Nat) (ds : List AC) : List AC := cs.take off ++ ds ++ cs.drop (off + ds.length)
inductive uo (P : Program) (look : Operand → Option aj) (o : Oper) : List AC → Prop
  | alloc (ty : TypeId) (i : TypeInfo) (z : Value) (cs : List AC) (ay : o.op = .alloc ty) (hi : P.info? ty = some i) (aZ : i.zero = some z) (ak : cs = z.cells.toList.map .c) (h1 : (z.cells.toList.all fun v => v.oneCell') = true) : uo P look o cs
  | box (ty : TypeId) (x : Operand) (z : bI) (ay : o.op = .box ty x) (aa : look x = some (.w z)) : uo P look o z.cells
def enters (P : Program) (f : FuncId) : Bool := match P.funcs[f]? with
  | some fn => fn.body.isSome && fn.name != "runtime.NumGoroutine"
  | none => false
def BC : Value → Bool
  | .agg cs => cs.toList.all fun v => v.oneCell'
  | .tuple _ => false
  | _ => true
def FA (w : World) : AC → Value → Nat → Prop
  | .p R, x, b => R.lc w x b
  | _, _, _ => False
def oX (fn : Fn) (cs : List AC) : e2 where
  holds w v := ∃ vs : List Value, v = .func fn #[] vs.toArray ∧ bV (fun _ => True) id w cs vs ∧ ∀ x ∈ cs, ∀ j, ¬ x.owns j
  lc w v b := ∃ vs : List Value, v = .func fn #[] vs.toArray ∧ ∃ (i : Nat) (x : AC) (u : Value), cs[i]? = some x ∧ vs[i]? = some u ∧ FA w x u b
  frame w w' v := by
    rintro ⟨vs, rfl, ao, ak⟩ ar
    have key : ∀ (i : Nat) (x : AC) (u : Value), cs[i]? = some x → vs[i]? = some u → gn (fun _ => True) id w' x u ∧ ∀ b, FA w' x u b → FA w x u b := by
      intro i x u aa hu;have h := ao.2 i x u aa hu;cases x with
      | c y => exact ⟨h, fun b ab => ab⟩
      | own k o => exact ⟨h, fun b ab => ab⟩
      | p R =>
        have := R.frame w w' u h.1 fun b ab => ar b ⟨vs, rfl, i, _, u, aa, hu, ab⟩;exact ⟨⟨this.1, fun _ _ => trivial⟩, this.2⟩
    refine ⟨⟨vs, rfl, ⟨ao.1, fun i x u aa hu => (key i x u aa hu).1⟩, ak⟩, ?_⟩;rintro b ⟨vJ, e, i, x, u, aa, hu, ab⟩;have bw : vs = vJ := by simpa using e
    subst bw;exact ⟨vs, rfl, i, x, u, aa, hu, (key i x u aa hu).2 b ab⟩
  ik w v b := by
    rintro ⟨vs, rfl, ao, ak⟩ ⟨vJ, e, i, x, u, aa, hu, ab⟩;have bw : vs = vJ := by simpa using e
    subst bw;have h := ao.2 i x u aa hu;cases x with
    | p R => exact R.ik _ _ _ h.1 ab
    | c y => cases ab
    | own k o => cases ab
  cell w v := by rintro ⟨vs, rfl, _⟩; rfl
theorem oX.Uh {U : Nat → Prop} {ad : Nat → Nat} {w : World} {v : Value} {fn : Fn} {cs : List AC} (h : gn U ad w (.p (oX fn cs)) v) : ∃ vs : List Value, v = .func fn #[] vs.toArray ∧ bV U id w cs vs := by
  obtain ⟨⟨vs, rfl, ao, ak⟩, ar⟩ := h;refine ⟨vs, rfl, ao.1, fun i x u aa hu => ?_⟩;have h := ao.2 i x u aa hu;cases x with
  | c y => exact h
  | own k o => exact h
  | p R => exact ⟨h.1, fun b ab => ar b ⟨vs, rfl, i, _, u, aa, hu, ab⟩⟩
structure sK (P : Program) (look : Operand → Option aj) (o : Oper) (f : FuncId) (args : List aj) : Prop where
  ex : ∃ c g, o.op = .call c ∧ c.callee = .value g ∧
    ((∃ bs : List Value, look g = some (.w (.one (.c (.func (.func f) bs.toArray #[])))) ∧ bs.map (fun b => some (xj b)) ++ c.args.toList.map look = args.map some ∧ bs.all BC = true) ∨
     ∃ cs : List AC, look g = some (.w (.one (.p (oX (.func f) cs)))) ∧ c.args.toList.map look ++ cs.map (fun x => some (.w (.one x))) = args.map some)
  enters : enters P f = true
structure vO (P : Program) (look : Operand → Option aj) (o : Oper) (av : aj) : Prop where
  ops : ∀ x ∈ o.op.operands, ∃ a, look x = some a
  pd : av.closed
  run : ∀ (U : Nat → Prop) (ad : Nat → Nat) (W : World) (env : Operand → Value), (∀ x ∈ o.op.operands, ∀ a, look x = some a → c9 U ad W a (env x)) →
    ∃ v bo, (execOp env o).run P W = .ok (.value v) bo ∧ c9 (fun b => U b ∨ W.heap.size ≤ b) ad bo av v ∧ Below W.heap.size W bo
inductive k3 (P : Program) (s : aC) (o : Oper) : aC → Prop
  | fresh (av : aj) (al : vO P s.look o av) (hd : ∀ d, o.dst = some d → d < s.n) : k3 P s o (s.put o.dst av)
  | quiet (av : aj) (al : vS P s.look o av) (hd : ∀ d, o.dst = some d → d < s.n) : k3 P s o (s.put o.dst av)
  | load (ty : TypeId) (x : Operand) (k off : Nat) (cs : List AC) (av : bI) (ay : o.op = .load ty x) (aa : s.look x = some (.w (.one (.own k off)))) (hm : s.mem k = some cs) (hv : pick P ty cs off = some av) (hd : ∀ d, o.dst = some d → d < s.n) : k3 P s o (s.put o.dst (.w av))
  | store (ty : TypeId) (x y : Operand) (k off : Nat) (cs : List AC) (z : bI) (i : TypeInfo) (ay : o.op = .store ty x y) (aa : s.look x = some (.w (.one (.own k off)))) (ah : s.look y = some (.w z)) (hm : s.mem k = some cs) (hi : P.info? ty = some i) (hs : i.size = z.cells.length) (ab : off + z.cells.length ≤ cs.length) (hd : ∀ d, o.dst = some d → d < s.n) : k3 P s o ((s.put o.dst (.cZ [])).dX k (eA cs off z.cells))
  | new (cs : List AC) (d : Nat) (dw : o.dst = some d) (hm : s.mem d = none) (aE : uo P s.look o cs) (hd : d < s.n) : k3 P s o ((s.dX d cs).put (some d) (.w (.one (.own d 0))))
  | call (f : FuncId) (args : List aj) (r : aj) (ak : sK P s.look o f args) (hp : aR P f args r) (hd : ∀ d, o.dst = some d → d < s.n) : k3 P s o (s.put o.dst r)
section
variable {P : Program} {B : eX} {A : Nat → Prop} {s s' : aC} {ad : Nat → Nat} {a : Act} {w : World} {o : Oper} {Q : Exit → Act → World → Prop}
theorem c9.undef (U : Nat → Prop) : c9 U ad w (.cZ []) undef := ⟨[], rfl, rfl, fun i x v h => by simp at h⟩
theorem Rel.look {x : Operand} {av : aj} (h : Rel B A s ad a w) (aa : s.look x = some av) : c9 (s.free A ad) ad w av (a.eval x) := by
  cases x with
  | tmp t =>
    obtain ⟨v, h1, h2⟩ := h.gO t av aa;have : a.eval (.tmp t) = v := by simp [Act.eval, xt, h1]
    rw [this]; exact h2
  | const v =>
    simp only [aC.look] at aa
    split at aa
    · rename_i h1; cases aa; exact ⟨rfl, h1⟩
    · cases aa
  | global g => cases aa; exact ⟨rfl, rfl⟩
  | func f => cases aa; exact ⟨rfl, rfl⟩
theorem bV.cellAt {U : Nat → Prop} {W : World} {xs : List AC} {vs : List Value} {g : Nat} {ty : TypeId} (h : bV U ad W xs vs) (aw : W.heap[g]? = some (.cells vs.toArray ty (0, 0))) {i : Nat} {x : AC} (hi : xs[i]? = some x) :
    ∃ v, vs[i]? = some v ∧ W.cell? ⟨g, i, none⟩ = some v ∧ gn U ad W x v := by
  have bj : i < vs.length := by
    rw [← h.1];rcases iQ i xs.length with q | q
    · exact q
    · rw [qM q] at hi; cases hi
  refine ⟨vs[i], cp bj, ?_, h.2 i x _ hi (cp bj)⟩;simp [World.cell?, aw, bj]
theorem bV.sub {U : Nat → Prop} {W : World} {xs : List AC} {vs : List Value} (h : bV U ad W xs vs) (off n : Nat) : bV U ad W ((xs.drop off).take n) ((vs.drop off).take n) := by
  refine ⟨by simp [h.1], fun i x v aa hv => ?_⟩;rw [List.getElem?_take] at aa hv
  split at aa
  · rename_i bj
    rw [if_pos bj] at hv;rw [gl] at aa hv;exact h.2 _ x v aa hv
  · cases aa
theorem bV.eA {U : Nat → Prop} {W : World} {xs ds : List AC} {vs us : List Value} (h : bV U ad W xs vs) (hd : bV U ad W ds us) (off : Nat) (ab : off + ds.length ≤ xs.length) : bV U ad W (eA xs off ds) (vs.take off ++ us ++ vs.drop (off + us.length)) := by
  have aI := h.1;have aO := hd.1;refine ⟨by simp [Proofs.YtpochbhajmbfdaaGreat.eA, aI, aO], fun i x v aa hv => ?_⟩;unfold Proofs.YtpochbhajmbfdaaGreat.eA at aa;have dl : (xs.take off).length = off := by simp; omega
  have Dk : (vs.take off).length = off := by simp; omega
  by_cases h1 : i < off
  · rw [iq, fY (by omega), fN h1] at aa
    rw [iq, fY (by omega), fN h1] at hv;exact h.2 i x v aa hv
  · by_cases h2 : i < off + ds.length
    · rw [iq, gy (by omega), fY (by omega), dl] at aa
      rw [iq, gy (by omega), fY (by omega), Dk] at hv;exact hd.2 _ x v aa hv
    · rw [gy (by simp; omega), gl] at aa hv
      simp only [cS, dl, Dk] at aa hv;rw [← aO] at hv;have e : off + ds.length + (i - (off + ds.length)) = i := by omega
      rw [e] at aa hv;exact h.2 i x v aa hv
theorem IL {ty : TypeId} {A : Addr} {v : Value} {d : TypeDesc} (hu : P.underlying ty = some d) (hs : ∀ bm, d ≠ .struct bm) (aK : ∀ n e, d ≠ .array n e) (ak : w.cell? A = some v) : (loadVar ty A).run P w = .ok v w := by
  have h1 : (isAgg ty).run P w = .ok false w := by
    unfold isAgg;simp only [Sem.run_bind, run_underlying hu, Result.andThen_ok];cases d <;> first | rfl | (exact absurd rfl (hs _)) | (exact absurd rfl (aK _ _))
  unfold loadVar;simp only [Sem.run_bind, h1, Result.andThen_ok, nM, if_false];simp [load, Sem.run, ak]
theorem hq {ty : TypeId} {i : TypeInfo} (hi : P.info? ty = some i) : (sizeOf ty).run P w = .ok i.size w := by
  simp [sizeOf, typeInfo, program, Sem.run_bind, Sem.run, hi, Result.andThen]
theorem IK {ty : TypeId} {A : Addr} {vs : List Value} {i : TypeInfo} {d : TypeDesc} (hu : P.underlying ty = some d) (hd : (∃ bm, d = .struct bm) ∨ ∃ n e, d = .array n e) (hi : P.info? ty = some i) (ao : vs.length = i.size) (ak : ∀ j v, vs[j]? = some v → w.cell? (A.add j) = some v) :
    (loadVar ty A).run P w = .ok (.agg vs.toArray) w := by
  have h1 : (isAgg ty).run P w = .ok true w := by
    unfold isAgg;simp only [Sem.run_bind, run_underlying hu, Result.andThen_ok];rcases hd with ⟨bm, rfl⟩ | ⟨n, e, rfl⟩ <;> rfl
  unfold loadVar;simp only [Sem.run_bind, h1, Result.andThen_ok, if_true, hq hi, ← ao, run_loadCells_list w A vs ak];rfl
end
section
variable {P : Program} {B : eX} {A : Nat → Prop} {s s' : aC} {ad : Nat → Nat} {a : Act} {w : World} {o : Oper} {Q : Exit → Act → World → Prop}
theorem PC {U : Nat → Prop} {ty : TypeId} {cs : List AC} {off g : Nat} {av : bI} {vs : List Value} {t : TypeId} (hv : pick P ty cs off = some av) (aw : w.heap[g]? = some (.cells vs.toArray t (0, 0))) (ao : bV U ad w cs vs) :
    ∃ v, (loadVar ty ⟨g, off, none⟩).run P w = .ok v w ∧ gC U ad w av v := by
  unfold pick at hv
  have key : ∀ d, P.underlying ty = some d → ((∃ bm, d = .struct bm) ∨ ∃ n e, d = .array n e) → ((P.info? ty).bind fun i => if off + i.size ≤ cs.length then some (bI.agg ((cs.drop off).take i.size)) else none) = some av → ∃ v, (loadVar ty ⟨g, off, none⟩).run P w = .ok v w ∧ gC U ad w av v := by
    intro d hu hd h;cases hi : P.info? ty with
    | none => rw [hi] at h; cases h
    | some i =>
      rw [hi] at h;simp only [j2] at h
      split at h
      · rename_i hle
        cases h;have hs := ao.sub off i.size;have hlen : ((vs.drop off).take i.size).length = i.size := by have := ao.1; simp; omega
        refine ⟨_, IK hu hd hi hlen (fun j v ae => ?_), _, rfl, hs⟩;have jV : j < i.size := by rw [← hlen]; exact (bX.1 ae).1
        rw [fN jV, gl] at ae;have ki : (⟨g, off, none⟩ : Addr).add j = ⟨g, off + j, none⟩ := by unfold Addr.add; split <;> simp_all
        rw [ki];simp only [World.cell?, aw];simpa using ae
      · cases h
  have HG : ∀ d, P.underlying ty = some d → (∀ bm, d ≠ .struct bm) → (∀ n e, d ≠ .array n e) → (cs[off]?).map bI.one = some av → ∃ v, (loadVar ty ⟨g, off, none⟩).run P w = .ok v w ∧ gC U ad w av v := by
    intro d hu h1 h2 h;cases aa : cs[off]? with
    | none => rw [aa] at h; cases h
    | some x =>
      rw [aa] at h;cases h;obtain ⟨v, q1, q2, cg⟩ := ao.cellAt aw aa;exact ⟨v, IL hu h1 h2 q2, cg⟩
  cases hu : P.underlying ty with
  | none => rw [hu] at hv; cases hv
  | some d =>
    rw [hu] at hv;cases d <;> first | exact key _ hu (.inl ⟨_, rfl⟩) hv | exact key _ hu (.inr ⟨_, _, rfl⟩) hv | exact HG _ hu (fun _ h => by cases h) (fun _ _ h => by cases h) hv
theorem B2 {f : FuncId} {args : Array Value} (h : enters P f = true) : (callFunc f args).run P w = .ok (.enter f args) w := by
  unfold enters at h;cases ar : P.funcs[f]? with
  | none => rw [ar] at h; cases h
  | some fn =>
    rw [ar] at h;simp only [dS, bne_iff_ne, ne_eq] at h;obtain ⟨h1, h2⟩ := h;simp [callFunc, program, Sem.run_bind, Sem.run, ar, Result.andThen, h2];intro ap;rw [ap] at h1;cases h1
def l4 (ro : Option Nat) : Fence := { Fence.wide with round := ro }
theorem Ug {ro : Option Nat} {n : Nat} {P : Program} {f : FuncId} {args : Array Value} {w : World} {R : Ending → World → Prop} (h : Calls P f args w R) : CallsIn (l4 ro) n P f args w R := callsIn_wide.2 h
theorem ad0 {ro : Option Nat} {n : Nat} {P : Program} {row : String} {args : Array Value} {w : World} {R : Value → World → Prop} (h : Rows P row args w R) : RowsIn (l4 ro) n P row args w R := fun c cs _ => by
  obtain ⟨v, w', aq, hs⟩ := h c cs;exact ⟨v, w', aq, stepsIn_wide.2 hs⟩
theorem xh {P : Program} {ad : Operand → Value} {o : Oper} {w w' : World} {x : Next} (h : (execOp ad o).run P w = .ok x w') (aa : ∀ d, x ≠ .defer d) : ∀ c, o.op ≠ .defer c := fun c ak => by
  simp only [execOp, ak, Sem.run_bind] at h;cases aq : (resolve ad c o.type).run P w with
  | ok d w2 => rw [aq] at h; simp only [Result.andThen_ok, Sem.run_pure, Result.ok.injEq] at h; exact aa d h.1.symm
  | halt r w2 => rw [aq] at h; simp [Result.andThen] at h
theorem Oper.Rg {ro : Option Nat} {n : Nat} {P : Program} {o : Oper} {a : Act} {w : World} {K : Act → World → Prop} {Q : Exit → Act → World → Prop} (h : o.wp P a w K Q) (hd : ∀ c, o.op ≠ .defer c) : o.wpIn (l4 ro) n P a w K Q := by
  refine ⟨fun _ _ => trivial, ?_⟩;rw [Oper.semAt_eq _ _ _ hd];unfold Oper.wp at h;generalize (execOp a.eval o).run P w = r at *;have aE : (l4 ro).depth.isSome = true → 1 ≤ n := fun h => by simp [l4, Fence.wide] at h
  cases r with
  | ok x w' => cases x <;> first | exact h | exact ⟨aE, Ug h⟩ | exact ⟨aE, ad0 h⟩ | exact h.elim
  | halt x w' => cases x <;> exact h
def j7 (P : Program) (c : Code) (Q : Exit → Act → World → Prop) (a : Act) (w : World) : Prop := ∀ ro, c.wpIn (l4 ro) 0 P Q a w
section
variable {P : Program} {Q JG : Exit → Act → World → Prop} {a : Act} {w : World} {c x y : Code}
theorem j7.top (h : j7 P c Q a w) : c.wp P Q a w := wpIn_wide.1 (h none)
theorem sG (h : j7 P c Q a w) (al : ∀ e a w, Q e a w → JG e a w) : j7 P c JG a w := fun ro => wpIn_mono (h ro) al
theorem Rc (h : j7 P x (Exit.then (j7 P y Q) Q) a w) : j7 P (.seq x y) Q a w := fun ro => wpIn_seq (wpIn_mono (h ro) fun e a w al => by cases e <;> first | exact al ro | exact al)
theorem Rd (h : Q .normal a w) : j7 P .skip Q a w := fun ro => wpIn_skip h
theorem Q7 {id : Nat} (h : Q (.exit id) a w) : j7 P (.exit id) Q a w := fun ro => wpIn_exit h
theorem Rb (h : Q .ret a w) : j7 P .ret Q a w := fun ro => wpIn_ret h
theorem Q6 {c : Operand} {t : Bool} (ak : a.eval c = .bool t) (h : j7 P (if t then x else y) Q a w) : j7 P (.cond c x y) Q a w := fun ro => wpIn_cond ak (h ro)
theorem Q5 {id : Nat} (h : j7 P c (Exit.inBlock id Q) a w) : j7 P (.block id c) Q a w := fun ro => wpIn_block (h ro)
theorem Q9 {id : Nat} {ops : Array Oper} (h : ∀ ro, wpOpsIn (l4 ro) 0 P ops Q (List.range ops.size) a w) : j7 P (.region id ops false) Q a w := fun ro => wpIn_region (h ro)
theorem Ra {id : Nat} {ops : Array Oper} (hm : P.follows .mixedOrders = true) (h : ∀ ro, wpAnyIn (l4 ro) 0 P .any ops Q ops.size (Array.replicate ops.size false) a { w with drawn := w.drawn + 1 }) : j7 P (.region id ops true) Q a w := fun ro => wpIn_region_any hm (h ro)
end
theorem Oper.vK {v : Value} {w' : World} {next : Act → World → Prop} (h : (execOp a.eval o).run P w = .ok (.value v) w') (aE : next (a.put o.dst v) w') : o.wp P a w next Q := by
  unfold Oper.wp;rw [h];exact aE
theorem Rel.M8 {U : Nat → Prop} {x : aj} {v : Value} (ak : x.closed) (h : c9 U ad w x v) : c9 U id w x v := h.map (fun b ab _ => ⟨ab, rfl⟩) fun j ae => absurd ae (ak j)
theorem Qi {U : Nat → Prop} {v : Value} (h : BC v = true) : c9 U ad w (xj v) v := by
  cases v with
  | agg cs =>
    refine ⟨cs.toList, by simp, by simp, fun i x u aa hu => ?_⟩;rw [eG, hu] at aa;cases aa;exact ⟨rfl, ct.1 h u (dG hu)⟩
  | tuple vs => cases h
  | _ => exact ⟨rfl, rfl⟩
theorem k3.OI (h : k3 P s o s') (ax : Rel B A s ad a w) : ∀ c, o.op ≠ .defer c := by
  cases h with
  | quiet av al hd =>
    obtain ⟨v, h1, h2⟩ := al.run (s.free A ad) ad w a.eval (fun x aa b ab => ax.look ab);exact xh h1 (fun d h => by cases h)
  | fresh av al hd =>
    obtain ⟨v, bo, h1, h2, ab⟩ := al.run (s.free A ad) ad w a.eval (fun x aa b ab => ax.look ab);exact xh h1 (fun d h => by cases h)
  | load ty x k off cs av ay => intro c ak; rw [ay] at ak; cases ak
  | store ty x y k off cs z i ay => intro c ak; rw [ay] at ak; cases ak
  | new cs d dw hm aE hd =>
    intro c ak;cases aE with
    | alloc ty i z cs ay => rw [ay] at ak; cases ak
    | box ty x z ay => rw [ay] at ak; cases ak
  | call f args r ak hp hd =>
    intro c nu;obtain ⟨⟨c', g, ay, _⟩, _⟩ := ak;rw [ay] at nu; cases nu
theorem k3.sound (h : k3 P s o s') (ax : Rel B A s ad a w) (ok : s.cN) : o.wp P a w (fun a' w' => ∃ bg, Rel B A s' bg a' w') Q := by
  cases h with
  | quiet av al hd =>
    obtain ⟨v, h1, h2⟩ := al.run (s.free A ad) ad w a.eval (fun x aa b ab => ax.look ab);exact Oper.vK h1 ⟨ad, ax.put hd h2⟩
  | fresh av al hd =>
    obtain ⟨v, bo, h1, h2, ab⟩ := al.run (s.free A ad) ad w a.eval (fun x aa b ab => ax.look ab);refine Oper.vK h1 ⟨ad, (ax.call ab).put hd (h2.map (fun b df ao => ⟨?_, rfl⟩) fun j ae => rfl)⟩;rcases df with h | h
    · exact h
    · refine ⟨ax.up b (kS ax.below.size h), fun k cs af e => ?_⟩
      have := ax.lt af;omega
  | load ty x k off cs av ay aa hm hv hd =>
    obtain ⟨vs, t, g1, g2, g3⟩ := ax.dx k cs hm;obtain ⟨v, h1, h2⟩ := PC hv g1 g2;have hp : a.eval x = .pointer (some ⟨ad k, off, none⟩) := ax.look aa;refine Oper.vK (v := v) (w' := w) ?_ ⟨ad, ax.put hd h2⟩;simp only [execOp, ay, Instr.loadAt, hp, Instr.sureAddr, Sem.run_bind, Sem.run_pure, Result.andThen_ok, h1]
  | store ty x y k off cs z i ay aa ah hm hi hs ab hd =>
    obtain ⟨vs, t, g1, g2, g3⟩ := ax.dx k cs hm;have hp : a.eval x = .pointer (some ⟨ad k, off, none⟩) := ax.look aa;have aZ : gC (s.free A ad) ad w z (a.eval y) := ax.look ah;have oq := aZ.cells;have va : (a.eval y).cells.size = z.cells.length := by have := oq.1; simp at this; exact this.symm
    have jz : (storeVar ty ⟨ad k, off, none⟩ (a.eval y)).run P w = .ok () (w.setRow (ad k) (vs.take off ++ (a.eval y).cells.toList ++ vs.drop (off + (a.eval y).cells.toList.length)).toArray) := by
      unfold storeVar;have cq : ¬ ((a.eval y).cells.size ≠ i.size) := by rw [va, hs]; simp
      simp only [Sem.run_bind, hq hi, Result.andThen_ok, if_neg cq]
      have dc : ∀ v ∈ (a.eval y).cells.toList, v.oneCell' = true := fun v hv => by
        obtain ⟨j, ae⟩ := jZ hv;have bj : j < z.cells.length := by rw [oq.1]; exact (bX.1 ae).1
        exact (oq.2 j _ v (cp bj) ae).cell
      have := run_storeCells_at (P := P) (ad k) off t (a.eval y).cells.toList 0 vs.toArray w g1 (by have := g2.1; simp; omega) dc;simpa using this
    have hrel := (Rel.set (k := k) (ds := eA cs off z.cells) (ax.put (dst := o.dst) hd (c9.undef _)) (by rw [aC.xd]; exact hm) (by rw [aC.V7]; exact g2.eA oq off ab));unfold Oper.wp
    have gv : (execOp a.eval o).run P w = .ok .skip (w.setRow (ad k) (vs.take off ++ (a.eval y).cells.toList ++ vs.drop (off + (a.eval y).cells.toList.length)).toArray) := by
      simp only [execOp, ay, Instr.storeAt, hp, Instr.sureAddr, Sem.run_bind, Sem.run_pure, Result.andThen_ok, jz]
    rw [gv];exact ⟨ad, hrel⟩
  | new cs d dw hm aE hd =>
    have main : ∀ (vs : List Value) (ty : TypeId), bV (s.free A ad) ad w cs vs → (∀ x ∈ cs, ∀ j, x.owns j → ∃ au, s.mem j = some au) → (execOp a.eval o).run P w = .ok (.value (.pointer (some ⟨w.heap.size, 0, none⟩))) (w.alloc (.cells vs.toArray ty)) →
        o.wp P a w (fun a' w' => ∃ bg, Rel B A ((s.dX d cs).put (some d) (.w (.one (.own d 0)))) bg a' w') Q := by
      intro vs ty ao ef gv;refine Oper.vK gv ⟨fun k => if k = d then w.heap.size else ad k, ?_⟩;rw [dw];refine (ax.new ok hd hm ao ef).put (fun d' e => by cases e; exact hd) ?_;show Value.pointer _ = Value.pointer _;simp
    cases aE with
    | alloc ty i z cs ay hi aZ ak h1 =>
      subst ak;refine main z.cells.toList ty ⟨by simp, fun j x v aa hv => ?_⟩ (fun x aa j ae => ?_) ?_
      · rw [eG, hv] at aa
        cases aa;exact ⟨rfl, ct.1 h1 v (dG hv)⟩
      · obtain ⟨v, _, rfl⟩ := ir.1 aa
        cases ae
      · have r0 : (zeroValue ty).run P w = .ok z w := by simp [zeroValue, typeInfo, program, Sem.run_bind, Sem.run, hi, Result.andThen, aZ]
        simp only [execOp, ay, Instr.alloc, Sem.run_bind, r0, Result.andThen_ok, newVar, newRow, newObj, Sem.run];rfl
    | box ty x z ay aa =>
      have aZ : gC (s.free A ad) ad w z (a.eval x) := ax.look aa;refine main (a.eval x).cells.toList ty aZ.cells (fun y ah j ae => ?_) ?_
      · cases x with
        | tmp t => exact ok.gO t _ j aa ⟨y, ah, ae⟩
        | const v =>
          simp only [aC.look] at aa
          split at aa
          · cases aa; simp [bI.cells] at ah; subst ah; cases ae
          · cases aa
        | global g => cases aa; simp [bI.cells] at ah; subst ah; cases ae
        | func g => cases aa; simp [bI.cells] at ah; subst ah; cases ae
      · simp only [execOp, ay, Instr.box, newVar, newRow, newObj, Sem.run_bind, Sem.run, Result.andThen_ok]
        rfl
  | call f args r ak hp hd =>
    obtain ⟨⟨c, g, ay, yP, a6⟩, yS⟩ := ak;have cR : ∀ {y : Operand} {x : aj}, x ∈ args → s.look y = some x → c9 (s.free A ad) id w x (a.eval y) := fun {y x} aa ah => Rel.M8 (ad := ad) (hp.jn x aa) (ax.look ah)
    obtain ⟨us, dJ, gv⟩ : ∃ us : List Value, jR (s.free A ad) id w args us ∧ (execOp a.eval o).run P w = .ok (.enter f us.toArray) w := by
      rcases a6 with ⟨bs, aw, ob, wS⟩ | ⟨cs, aw, ob⟩
      · have kk : a.eval g = .func (.func f) bs.toArray #[] := (ax.look aw).1
        refine ⟨bs ++ c.args.toList.map a.eval, ?_, ?_⟩
        · refine ⟨by have := congrArg List.length ob; simpa using this.symm, fun i x v aa hv => ?_⟩
          have h1 : (bs.map (fun b => some (xj b)) ++ c.args.toList.map s.look)[i]? = some (some x) := by rw [ob, eG, aa]; rfl
          rcases iQ i bs.length with bj | lf
          · rw [fY (by simpa using bj), eG] at h1
            rw [fY bj] at hv;rw [hv] at h1;simp only [gL, hK] at h1;subst h1;exact Qi (ct.1 wS v (dG hv))
          · rw [gy (by simpa using lf), eG] at h1
            rw [gy lf, eG] at hv;simp only [mu] at h1;cases ah : c.args.toList[i - bs.length]? with
            | none => rw [ah] at hv; cases hv
            | some y =>
              rw [ah] at h1 hv;simp only [gL, hK] at h1 hv;subst hv;exact cR (dG aa) h1
        · have e : bs.toArray ++ c.args.map a.eval ++ #[] = (bs ++ c.args.toList.map a.eval).toArray := by
            rw [Array.append_empty];apply Array.ext';simp
          simp only [execOp, ay, resolve, yP, Deferred.ofValue, kk];simp only [Sem.run_bind, Sem.run_pure, Result.andThen_ok, invoke];rw [e];exact B2 yS
      · obtain ⟨vs, kk, cO⟩ := oX.Uh (ad := ad) (ax.look aw)
        refine ⟨c.args.toList.map a.eval ++ vs, ?_, ?_⟩
        · refine ⟨by have := congrArg List.length ob; have h2 := cO.1; simp at this ⊢; omega, fun i x v aa hv => ?_⟩
          have h1 : (c.args.toList.map s.look ++ cs.map (fun x => some (.w (.one x))))[i]? = some (some x) := by rw [ob, eG, aa]; rfl
          rcases iQ i c.args.toList.length with bj | lf
          · rw [fY (by simpa using bj), eG] at h1
            rw [fY (by simpa using bj), eG] at hv;cases ah : c.args.toList[i]? with
            | none => rw [ah] at hv; cases hv
            | some y =>
              rw [ah] at h1 hv;simp only [gL, hK] at h1 hv;subst hv;exact cR (dG aa) h1
          · rw [gy (by simpa using lf), eG] at h1
            rw [gy (by simpa using lf)] at hv;simp only [mu] at h1 hv;cases ah : cs[i - c.args.toList.length]? with
            | none => rw [ah] at h1; cases h1
            | some y =>
              rw [ah] at h1;simp only [gL, hK] at h1;subst h1;exact cO.2 _ y v ah hv
        · have e : (#[] : Array Value) ++ c.args.map a.eval ++ vs.toArray = (c.args.toList.map a.eval ++ vs).toArray := by
            apply Array.ext';simp
          simp only [execOp, ay, resolve, yP, Deferred.ofValue, kk];simp only [Sem.run_bind, Sem.run_pure, Result.andThen_ok, invoke];rw [e];exact B2 yS
    unfold Oper.wp;rw [gv];refine (hp.call (s.free A ad) w _ dJ).mono ?_;rintro e w' ⟨v, rfl, hv, ab⟩;refine ⟨ad, (ax.call ab).put hd (hv.map (fun b df ao => ⟨?_, rfl⟩) fun j ae => absurd ae (hp.cj j))⟩;rcases df with h | h
    · exact h
    · refine ⟨ax.up b (kS ax.below.size h), fun k cs af e => ?_⟩
      have := ax.lt af;omega
end
def afr : aj := .cZ []
def want (ops : Array Oper) (o : Oper) (s : aC) : Option Bool :=
  match o.guard with
  | none => some true
  | some (g, b) =>
    match (ops[g]?).bind (·.dst) with
    | some d => match s.tmps d with
      | some (.w (.one (.c (.bool x)))) => some (some x == some b)
      | some (.cZ _) => some false
      | _ => none
    | none => none
def lR (o : Oper) : Nat :=
  match o.op with
  | .load .. => 1
  | .store .. => 2
  | _ => 0
def vl (x y : Oper) : Bool := !(lR x == 2 && lR y != 0) && !(lR x != 0 && lR y == 2)
def addrOf (o : Oper) : Option Operand :=
  match o.op with
  | .load _ x => some x
  | .store _ x _ => some x
  | _ => none
def yc : aj → aj → Bool
  | .w (.one (.own k _)), .w (.one (.own j _)) => !Nat.beq k j
  | .w (.one (.own _ _)), .w (.one (.p _)) => true
  | .w (.one (.p _)), .w (.one (.own _ _)) => true
  | _, _ => false
theorem Fm {k j o p : Nat} (h : yc (.w (.one (.own k o))) (.w (.one (.own j p))) = true) : k ≠ j := fun e => by
  subst e;simp [yc, Nat.beq_refl] at h
def xT (s : aC) (x y : Oper) : Prop := vl x y = true ∨ ∃ a b u v, addrOf x = some a ∧ addrOf y = some b ∧ s.look a = some u ∧ s.look b = some v ∧ yc u v = true
section
variable {P : Program} {B : eX} {A : Nat → Prop} {s s1 s2 s' : aC} {ad : Nat → Nat} {a : Act} {w : World} {o bn bk : Oper} {ops : Array Oper}
theorem NT {x : Operand} {dst : Option Nat} {v : aj} (h : ∀ d, dst = some d → x ≠ .tmp d) : (s.put dst v).look x = s.look x := by
  cases dst with
  | none => rfl
  | some d =>
    cases x with
    | tmp t => simp only [aC.look, aC.put]; exact cl _ _ (fun e => h d rfl (by rw [e]))
    | _ => rfl
theorem aaj {x : Operand} {k : Nat} {cs : List AC} : (s.dX k cs).look x = s.look x := by cases x <;> rfl
theorem vS.congr {look gj : Operand → Option aj} {av : aj} (h : vS P look o av) (e : ∀ x ∈ o.op.operands, gj x = look x) : vS P gj o av :=
  ⟨h.aem, fun x aa => by rw [e x aa]; exact h.ops x aa, fun U ad W env he => h.run U ad W env fun x aa a aK => he x aa a (by rw [e x aa]; exact aK), fun j ae => by
    obtain ⟨x, aa, a, aK, Xa⟩ := h.own j ae;exact ⟨x, aa, a, by rw [e x aa]; exact aK, Xa⟩⟩
theorem vO.congr {look gj : Operand → Option aj} {av : aj} (h : vO P look o av) (e : ∀ x ∈ o.op.operands, gj x = look x) : vO P gj o av :=
  ⟨fun x aa => by rw [e x aa]; exact h.ops x aa, h.pd, fun U ad W env he => h.run U ad W env fun x aa a aK => he x aa a (by rw [e x aa]; exact aK)⟩
theorem uo.congr {look gj : Operand → Option aj} {cs : List AC} (h : uo P look o cs) (e : ∀ x ∈ o.op.operands, gj x = look x) : uo P gj o cs := by
  cases h with
  | alloc ty i z cs ay hi aZ ak h1 => exact .alloc ty i z cs ay hi aZ ak h1
  | box ty x z ay aa => exact .box ty x z ay (by rw [e x (by simp [ay, Op.operands])]; exact aa)
theorem sK.congr {look gj : Operand → Option aj} {f : FuncId} {args : List aj} (h : sK P look o f args) (e : ∀ x ∈ o.op.operands, gj x = look x) : sK P gj o f args := by
  obtain ⟨⟨c, g, ay, ak, a6⟩, he⟩ := h;have Lj : gj g = look g := e g (by simp [ay, Op.operands, Call.operands, ak]);have ia : c.args.toList.map gj = c.args.toList.map look := oP fun x aa => e x (by simp [ay, Op.operands, Call.operands, ak]; exact .inr (by simpa using aa));refine ⟨⟨c, g, ay, ak, ?_⟩, he⟩;rcases a6 with ⟨bs, aw, aK, ab⟩ | ⟨cs, aw, aK⟩
  · exact .inl ⟨bs, by rw [Lj]; exact aw, by rw [ia]; exact aK, ab⟩
  · exact .inr ⟨cs, by rw [Lj]; exact aw, by rw [ia]; exact aK⟩
theorem aC.put_comm (s : aC) {x y : Option Nat} (v u : aj) (h : ∀ d, x = some d → y ≠ some d) : (s.put x v).put y u = (s.put y u).put x v := by
  cases x with
  | none => rfl
  | some d =>
    cases y with
    | none => rfl
    | some e =>
      have cq : e ≠ d := fun he => h d rfl (by rw [he]);simp only [aC.put];rw [QX _ _ _ cq]
theorem aC.xp (s : aC) (x : Option Nat) (v : aj) (k : Nat) (cs : List AC) : (s.put x v).dX k cs = (s.dX k cs).put x v := by cases x <;> rfl
theorem aC.aeo (s : aC) {k j : Nat} (cs ds : List AC) (h : j ≠ k) : (s.dX k cs).dX j ds = (s.dX j ds).dX k cs := by
  simp only [aC.dX];rw [QX _ _ _ h]
structure cm where
  v : aj
  m : Option (Nat × List AC)
def cm.on (e : cm) (dst : Option Nat) (s : aC) : aC :=
  match e.m with
  | some (k, cs) => (s.dX k cs).put dst e.v
  | none => s.put dst e.v
inductive eU (P : Program) (n : Nat) (look : Operand → Option aj) (mem : Nat → Option (List AC)) (o : Oper) : Bool → cm → Prop
  | skip : eU P n look mem o false ⟨.cZ [], none⟩
  | quiet (av : aj) (al : vS P look o av) : eU P n look mem o true ⟨av, none⟩
  | fresh (av : aj) (al : vO P look o av) : eU P n look mem o true ⟨av, none⟩
  | load (ty : TypeId) (x : Operand) (k off : Nat) (cs : List AC) (av : bI) (ay : o.op = .load ty x) (aa : look x = some (.w (.one (.own k off)))) (hm : mem k = some cs) (hv : pick P ty cs off = some av) : eU P n look mem o true ⟨.w av, none⟩
  | store (ty : TypeId) (x y : Operand) (k off : Nat) (cs : List AC) (z : bI) (i : TypeInfo) (ay : o.op = .store ty x y) (aa : look x = some (.w (.one (.own k off)))) (ah : look y = some (.w z)) (hm : mem k = some cs) (hi : P.info? ty = some i) (hs : i.size = z.cells.length) (ab : off + z.cells.length ≤ cs.length) : eU P n look mem o true ⟨.cZ [], some (k, eA cs off z.cells)⟩
  | new (cs : List AC) (d : Nat) (dw : o.dst = some d) (hm : mem d = none) (aE : uo P look o cs) : eU P n look mem o true ⟨.w (.one (.own d 0)), some (d, cs)⟩
  | call (f : FuncId) (args : List aj) (r : aj) (ak : sK P look o f args) (hp : aR P f args r) : eU P n look mem o true ⟨r, none⟩
theorem eU.step {e : cm} (h : eU P s.n s.look s.mem o true e) (hd : ∀ d, o.dst = some d → d < s.n) : k3 P s o (e.on o.dst s) := by
  cases h with
  | quiet av al => exact .quiet av al hd
  | fresh av al => exact .fresh av al hd
  | load ty x k off cs av ay aa hm hv => exact .load ty x k off cs av ay aa hm hv hd
  | store ty x y k off cs z i ay aa ah hm hi hs ab =>
    have := k3.store (P := P) (s := s) ty x y k off cs z i ay aa ah hm hi hs ab hd;rw [aC.xp] at this;exact this
  | new cs d dw hm aE =>
    have := k3.new (P := P) (s := s) cs d dw hm aE (hd d dw);rw [← dw] at this;exact this
  | call f args r ak hp => exact .call f args r ak hp hd
theorem cm.qH (e : cm) (dst : Option Nat) (s : aC) : (e.on dst s).mem = match e.m with | some (k, cs) => bQ s.mem k cs | none => s.mem := by
  unfold cm.on
  split
  · rename_i h; rw [aC.xd]; simp [aC.dX]
  · rename_i h; rw [aC.xd]
theorem cm.qG (e : cm) (dst : Option Nat) (s : aC) {x : Operand} (h : ∀ d, dst = some d → x ≠ .tmp d) : (e.on dst s).look x = s.look x := by
  unfold cm.on
  split
  · rw [NT h, aaj]
  · rw [NT h]
theorem cm.tQ (e : cm) (dst : Option Nat) (s : aC) : (e.on dst s).n = s.n := by
  unfold cm.on
  split
  · rw [aC.sa]; rfl
  · rw [aC.sa]
theorem cm.zQ (e f : cm) (x y : Option Nat) (s : aC) (h : ∀ d, x = some d → y ≠ some d) (af : ∀ k cs j ds, e.m = some (k, cs) → f.m = some (j, ds) → j ≠ k) : f.on y (e.on x s) = e.on x (f.on y s) := by
  unfold cm.on;cases he : e.m with
  | none =>
    cases ar : f.m with
    | none => simp only [he, ar]; exact aC.put_comm s _ _ h
    | some q => obtain ⟨j, ds⟩ := q; simp only [he, ar]; rw [aC.xp]; exact aC.put_comm _ _ _ h
  | some p =>
    obtain ⟨k, cs⟩ := p;cases ar : f.m with
    | none => simp only [he, ar]; rw [aC.xp]; exact aC.put_comm _ _ _ h
    | some q =>
      obtain ⟨j, ds⟩ := q;simp only [he, ar];rw [aC.xp, aC.xp, aC.aeo s _ _ (af k cs j ds he ar)];exact aC.put_comm _ _ _ h
theorem tF {x : Operand} {d : Nat} {y : Oper} (h : d ∉ y.looksAt ops) (aa : x ∈ y.op.operands) : x ≠ .tmp d := fun e => h (by
  subst e;exact List.mem_append_left _ (List.mem_filterMap.2 ⟨.tmp d, by simpa using aa, rfl⟩))
theorem eU.swap {b c : Bool} {e f : cm} (ok : s.cN) (he : eU P s.n s.look s.mem bn b e) (ar : eU P (e.on bn.dst s).n (e.on bn.dst s).look (e.on bn.dst s).mem bk c f) (pv : bn.apart ops bk = true) (mc : xT s bn bk) :
    eU P s.n s.look s.mem bk c f ∧ eU P (f.on bk.dst s).n (f.on bk.dst s).look (f.on bk.dst s).mem bn b e ∧ f.on bk.dst (e.on bn.dst s) = e.on bn.dst (f.on bk.dst s) := by
  obtain ⟨a1, a2, a3⟩ := Oper.apart_spec pv;have mi : ∀ x ∈ bk.op.operands, (e.on bn.dst s).look x = s.look x := fun x aa => cm.qG _ _ _ fun d hd => tF (a1 d hd) aa;have cI := cm.qH e bn.dst s
 
  have uY : ∀ k cs, e.m = some (k, cs) → (∃ au, s.mem k = some au) ∨ s.mem k = none := fun k cs _ => by
    cases h : s.mem k with
    | none => exact .inr rfl
    | some c => exact .inl ⟨c, rfl⟩
  have Pc : ∀ x k off, s.look x = some (.w (.one (.own k off))) → ∃ cs, s.mem k = some cs := fun x k off aa => by
    cases x with
    | tmp t => exact ok.gO t _ k aa ⟨.own k off, by simp [bI.cells], rfl⟩
    | const v => simp only [aC.look] at aa; split at aa <;> cases aa
    | global g => cases aa
    | func g => cases aa
 
  have Od : ∀ x k off, addrOf bk = some x → lR bk ≠ 0 → s.look x = some (.w (.one (.own k off))) → (e.on bn.dst s).mem k = s.mem k := by
    intro x k off Gy GP aa;rw [cI];cases he with
    | skip => rfl
    | quiet av al => rfl
    | fresh av al => rfl
    | load => rfl
    | call => rfl
    | store ty x' y' k' OY cs z i ay ko ah hm hi hs ab =>
      rcases mc with mc | ⟨a, b, q, p, aK, df, ia, lI, cq⟩
      · exfalso
        have : lR bn = 2 := by simp [lR, ay]
        simp [vl, this, GP] at mc
      · simp only [addrOf, ay, hK] at aK
        subst aK;rw [ko] at ia;cases ia;rw [Gy] at df;cases df;rw [aa] at lI;cases lI;show bQ s.mem k' _ k = s.mem k;exact cl _ _ (Ne.symm (Fm cq))
    | new cs d dw hm aE =>
      obtain ⟨c, ak⟩ := Pc x k off aa;show bQ s.mem d cs k = s.mem k;exact cl _ _ (fun e => by subst e; rw [hm] at ak; cases ak)
  have lM : eU P s.n s.look s.mem bk c f := by
    cases ar with
    | skip => exact .skip
    | quiet av al => exact .quiet av (al.congr fun x aa => (mi x aa).symm)
    | fresh av al => exact .fresh av (al.congr fun x aa => (mi x aa).symm)
    | load ty x k off cs av ay aa hm hv =>
      have ko : s.look x = some (.w (.one (.own k off))) := by rw [← mi x (by simp [ay, Op.operands])]; exact aa
      exact .load ty x k off cs av ay ko (by rw [← Od x k off (by simp [addrOf, ay]) (by simp [lR, ay]) ko]; exact hm) hv
    | store ty x y k off cs z i ay aa ah hm hi hs ab =>
      have ko : s.look x = some (.w (.one (.own k off))) := by rw [← mi x (by simp [ay, Op.operands])]; exact aa
      exact .store ty x y k off cs z i ay ko (by rw [← mi y (by simp [ay, Op.operands])]; exact ah) (by rw [← Od x k off (by simp [addrOf, ay]) (by simp [lR, ay]) ko]; exact hm) hi hs ab
    | new cs d dw hm aE =>
      refine .new cs d dw ?_ (aE.congr fun x aa => (mi x aa).symm);rw [cI] at hm;cases mb : e.m with
      | none => rw [mb] at hm; exact hm
      | some p =>
        obtain ⟨k, c⟩ := p;rw [mb] at hm
        by_cases hc : d = k
        · subst hc
          change bQ s.mem d c d = none at hm
          rw [cr] at hm;cases hm
        · change bQ s.mem k c d = none at hm
          rwa [cl _ _ hc] at hm
    | call g args r ak hp => exact .call g args r (ak.congr fun x aa => (mi x aa).symm) hp
  have kP : ∀ x ∈ bn.op.operands, (f.on bk.dst s).look x = s.look x := fun x aa => cm.qG _ _ _ fun d hd => tF (a3 d hd) aa;have N8 := cm.qH f bk.dst s
  have GH : eU P (f.on bk.dst s).n (f.on bk.dst s).look (f.on bk.dst s).mem bn b e := by
    have Ob : ∀ x k off, addrOf bn = some x → lR bn ≠ 0 → s.look x = some (.w (.one (.own k off))) → (f.on bk.dst s).mem k = s.mem k := by
      intro x k off Gy GP aa;rw [N8];cases lM with
      | skip => rfl
      | quiet av al => rfl
      | fresh av al => rfl
      | load => rfl
      | call => rfl
      | store ty x' y' k' OY cs z i ay ko ah hm hi hs ab =>
        rcases mc with mc | ⟨a, b, q, p, aK, df, ia, lI, cq⟩
        · exfalso
          have : lR bk = 2 := by simp [lR, ay]
          simp [vl, this, GP] at mc
        · simp only [addrOf, ay, hK] at df
          subst df;rw [ko] at lI;cases lI;rw [Gy] at aK;cases aK;rw [aa] at ia;cases ia;show bQ s.mem k' _ k = s.mem k;exact cl _ _ (Fm cq)
      | new cs d dw hm aE =>
        obtain ⟨c, ak⟩ := Pc x k off aa;show bQ s.mem d cs k = s.mem k;exact cl _ _ (fun e => by subst e; rw [hm] at ak; cases ak)
    cases he with
    | skip => exact .skip
    | quiet av al => exact .quiet av (al.congr fun x aa => kP x aa)
    | fresh av al => exact .fresh av (al.congr fun x aa => kP x aa)
    | load ty x k off cs av ay aa hm hv => exact .load ty x k off cs av ay (by rw [kP x (by simp [ay, Op.operands])]; exact aa) (by rw [Ob x k off (by simp [addrOf, ay]) (by simp [lR, ay]) aa]; exact hm) hv
    | store ty x y k off cs z i ay aa ah hm hi hs ab => exact .store ty x y k off cs z i ay (by rw [kP x (by simp [ay, Op.operands])]; exact aa) (by rw [kP y (by simp [ay, Op.operands])]; exact ah) (by rw [Ob x k off (by simp [addrOf, ay]) (by simp [lR, ay]) aa]; exact hm) hi hs ab
    | new cs d dw hm aE =>
      refine .new cs d dw ?_ (aE.congr fun x aa => kP x aa);rw [N8];cases lM with
      | skip => exact hm
      | quiet av al => exact hm
      | fresh av al => exact hm
      | load => exact hm
      | call => exact hm
      | store ty x' y' k' OY au z i ay ko ah fS hi hs ab =>
        show bQ s.mem k' _ d = none;rw [cl _ _ (fun e => by subst e; rw [hm] at fS; cases fS)];exact hm
      | new au d' Xx fS GY =>
        show bQ s.mem d' _ d = none;rw [cl _ _ (fun e => a2 d dw (by rw [Xx, e]))];exact hm
    | call g args r ak hp => exact .call g args r (ak.congr fun x aa => kP x aa) hp
  refine ⟨lM, GH, cm.zQ e f bn.dst bk.dst s a2 ?_⟩;intro k cs j ds h1 h2 Vo;subst Vo;cases he with
  | skip => cases h1
  | quiet => cases h1
  | fresh => cases h1
  | load => cases h1
  | call => cases h1
  | store ty x y k' off au z i ay aa ah hm hi hs ab =>
    cases h1;cases lM with
    | skip => cases h2
    | quiet => cases h2
    | fresh => cases h2
    | load => cases h2
    | call => cases h2
    | store afm dt q0 cf abE sZ z2 i2 wY Hm =>
      cases h2;rcases mc with mc | ⟨a, b, q, p, aK, df, ia, lI, cq⟩
      · simp [vl, lR, ay, wY] at mc
      · simp only [addrOf, ay, wY, hK] at aK df
        subst aK;subst df;rw [aa] at ia;rw [Hm] at lI;cases ia;cases lI;exact Fm cq rfl
    | new sZ d2 Mn nx GZ => cases h2; rw [nx] at hm; cases hm
  | new au d dw hm aE =>
    cases h1;cases lM with
    | skip => cases h2
    | quiet => cases h2
    | fresh => cases h2
    | load => cases h2
    | call => cases h2
    | store afm dt q0 cf abE sZ z2 i2 wY Hm zl nx => cases h2; rw [nx] at hm; cases hm
    | new sZ d2 Mn nx GZ => cases h2; exact a2 _ dw Mn
end
section
variable {P : Program} {B : eX} {A : Nat → Prop} {s s1 s2 s' : aC} {ad : Nat → Nat} {a : Act} {w : World} {o bn bk : Oper} {ops : Array Oper} {md : Region.Mode}
theorem look_ok {x : Operand} {av : aj} {j : Nat} (ok : s.cN) (aa : s.look x = some av) (ae : av.owns j) : ∃ cs, s.mem j = some cs := by
  have none : ∀ v, ¬ (aj.w (.one (.c v))).owns j := fun v ⟨y, ah, h⟩ => by simp [bI.cells] at ah; subst ah; cases h
  cases x with
  | tmp t => exact ok.gO t av j aa ae
  | const v =>
    simp only [aC.look] at aa
    split at aa
    · cases aa; exact absurd ae (none _)
    · cases aa
  | global g => cases aa; exact absurd ae (none _)
  | func g => cases aa; exact absurd ae (none _)
theorem aC.cN.put {dst : Option Nat} {av : aj} (ok : s.cN) (h : ∀ j, av.owns j → ∃ cs, s.mem j = some cs) : (s.put dst av).cN := by
  cases dst with
  | none => exact ok
  | some d =>
    refine ⟨fun t bv j aD ae => ?_, ok.dx⟩;simp only [aC.put] at aD ⊢
    by_cases e : t = d
    · subst e; rw [cr] at aD; cases aD; exact h j ae
    · rw [cl _ _ e] at aD; exact ok.gO t bv j aD ae
theorem aC.cN.dX {k : Nat} {cs : List AC} (ok : s.cN) (h : ∀ x ∈ cs, ∀ j, x.owns j → ∃ au, s.mem j = some au) : (s.dX k cs).cN := by
  have up : ∀ j, (∃ c, s.mem j = some c) → ∃ c, (s.dX k cs).mem j = some c := fun j ⟨c, ak⟩ => by
    by_cases e : j = k
    · exact ⟨cs, by rw [e]; exact cr _ _ _⟩
    · exact ⟨c, by simp only [aC.dX]; rw [cl _ _ e]; exact ak⟩
  refine ⟨fun t bv j aD ae => up j (ok.gO t bv j aD ae), fun k' c x j af aa ae => up j ?_⟩;simp only [aC.dX] at af
  by_cases e : k' = k
  · subst e; rw [cr] at af; cases af; exact h x aa j ae
  · rw [cl _ _ e] at af; exact ok.dx k' c x j af aa ae
theorem ac9 {ty : TypeId} {cs : List AC} {off : Nat} {av : bI} (h : pick P ty cs off = some av) : ∀ x ∈ av.cells, x ∈ cs := by
  unfold pick at h
  split at h
  · cases hi : P.info? ty with
    | none => rw [hi] at h; cases h
    | some i =>
      rw [hi] at h;simp only [j2] at h
      split at h
      · cases h; exact fun x aa => mW (oN aa)
      · cases h
  · cases hi : P.info? ty with
    | none => rw [hi] at h; cases h
    | some i =>
      rw [hi] at h;simp only [j2] at h
      split at h
      · cases h; exact fun x aa => mW (oN aa)
      · cases h
  · cases aa : cs[off]? with
    | none => rw [aa] at h; cases h
    | some y => rw [aa] at h; cases h; intro x ko; simp [bI.cells] at ko; subst ko; exact dG aa
  · cases h
theorem k3.ok (h : k3 P s o s') (ok : s.cN) : s'.cN := by
  cases h with
  | quiet av al hd =>
    refine ok.put fun j ae => ?_;obtain ⟨x, aa, b, ab, Xi⟩ := al.own j ae;exact look_ok ok ab Xi
  | fresh av al hd => exact ok.put fun j ae => absurd ae (al.pd j)
  | load ty x k off cs av ay aa hm hv hd =>
    refine ok.put fun j ae => ?_;obtain ⟨y, ah, lP⟩ := ae;exact ok.dx k cs y j hm (ac9 hv y ah) lP
  | store ty x y k off cs z i ay aa ah hm hi hs ab hd =>
    rw [aC.xp];refine aC.cN.put (ok.dX fun x aa j ae => ?_) fun j ae => (by obtain ⟨y, ah, _⟩ := ae; cases ah);unfold eA at aa;simp only [kT] at aa;rcases aa with (h1 | h1) | h1
    · exact ok.dx k cs x j hm (oN h1) ae
    · exact look_ok ok ah ⟨x, h1, ae⟩
    · exact ok.dx k cs x j hm (mW h1) ae
  | new cs d dw hm aE hd =>
    refine aC.cN.put (ok.dX fun x aa j ae => ?_) fun j ae => ?_
    · cases aE with
      | alloc ty i z cs ay hi aZ ak h1 => subst ak; obtain ⟨v, _, rfl⟩ := ir.1 aa; cases ae
      | box ty y z ay ah => exact look_ok ok ah ⟨x, aa, ae⟩
    · obtain ⟨y, ah, lP⟩ := ae
      simp [bI.cells] at ah;subst ah;cases lP;exact ⟨cs, cr _ _ _⟩
  | call f args r ak hp hd => exact ok.put fun j ae => absurd ae (hp.cj j)
def rl (P : Program) (ops : Array Oper) (o : Oper) (K : aC → Prop) (s : aC) : Prop :=
  ∃ b, want ops o s = some b ∧ ∃ e, eU P s.n s.look s.mem o b e ∧ (∀ d, o.dst = some d → d < s.n) ∧ K (e.on o.dst s)
def x2 (P : Program) (md : Region.Mode) (ops : Array Oper) (K : aC → Prop) : Nat → Array Bool → aC → Prop
  | 0, bx, s => Region.ready md ops bx = [] ∧ K s
  | ff + 1, bx, s => (Region.ready md ops bx = [] → K s) ∧
    ∀ i ∈ Region.ready md ops bx, ∀ o, ops[i]? = some o → rl P ops o (x2 P md ops K ff (bx.setIfInBounds i true)) s
theorem Re {b : Bool} (h : want ops o s = some b) (ax : Rel B A s ad a w) : Region.wanted o (yielded ops a.tmps) = b := by
  unfold want at h;unfold Region.wanted
  split at h
  · rename_i aw; rw [aw]; cases h; rfl
  · rename_i g bO aw
    rw [aw]
    split at h
    · rename_i d hd
      split at h
      · rename_i x aa
        cases h;obtain ⟨v, h1, h2⟩ := ax.gO d _ aa;obtain ⟨rfl, _⟩ := h2;simp [yielded, hd, h1]
      · rename_i xs aa
        cases h;obtain ⟨v, h1, h2⟩ := ax.gO d _ aa;obtain ⟨vs, rfl, _⟩ := h2;simp [yielded, hd, h1]
      · cases h
    · cases h
theorem yr {b : Bool} {e : cm} (ok : s.cN) (he : eU P s.n s.look s.mem o b e) (hd : ∀ d, o.dst = some d → d < s.n) : (e.on o.dst s).cN := by
  cases b with
  | true => exact (he.step hd).ok ok
  | false => cases he; exact ok.put fun j ae => (by obtain ⟨y, ah, _⟩ := ae; cases ah)
theorem J8 {ro : Option Nat} {K : aC → Prop} {iA : Act → World → Prop} {Q : Exit → Act → World → Prop} {i : Nat} (hi : ops[i]? = some o) (ok : s.cN) (ax : Rel B A s ad a w) (h : rl P ops o K s)
    (dV : ∀ s' bg a' w', s'.cN → Rel B A s' bg a' w' → K s' → iA a' w') : wpOpIn (l4 ro) 0 P ops Q i iA a w := by
  obtain ⟨b, hw, e, he, hd, af⟩ := h;have om := Re hw ax;unfold wpOpIn;simp only [hi];cases b with
  | true =>
    rw [om];simp only [if_true];have dC := (he.step hd).ok ok;exact Oper.Rg (Oper.wp_mono (fun a' w' ⟨bg, aq⟩ => dV _ bg a' w' dC aq af) (k3.sound (he.step hd) ax ok)) ((he.step hd).OI ax)
  | false =>
    rw [om];simp only [nM, if_false];cases he;exact ⟨fun _ _ => trivial, dV _ ad _ _ (ok.put fun j ae => (by obtain ⟨y, ah, _⟩ := ae; cases ah)) (ax.put hd (c9.undef _)) af⟩
theorem J5 {ro : Option Nat} {K : aC → Prop} {Q : Exit → Act → World → Prop} (iZ : ∀ s' bg a' w', s'.cN → Rel B A s' bg a' w' → K s' → Q .normal a' w') : ∀ (ff : Nat) (bx : Array Bool) (s : aC) (ad : Nat → Nat) (a : Act) (w : World), s.cN → Rel B A s ad a w →
    x2 P md ops K ff bx s → wpAnyIn (l4 ro) 0 P md ops Q ff bx a w
  | 0, _, _, _, _, _, ok, ax, h => ⟨h.1, iZ _ _ _ _ ok ax h.2⟩
  | ff + 1, bx, s, ad, a, w, ok, ax, h => ⟨fun aH => iZ _ _ _ _ ok ax (h.1 aH), fun i hi => by
      obtain ⟨aH, o, ay, _⟩ := mem_ready.1 hi;exact J8 ay ok ax (h.2 i hi o ay) fun s' bg a' w' dC cu af => J5 iZ ff _ s' bg a' w' dC cu af⟩
theorem xH {b : Option Bool} {e : cm} {dst : Option Nat} (ao : ∀ d, dst = some d → d ∉ o.looksAt ops) : want ops o (e.on dst s) = want ops o s := by
  have aD : ∀ d, (∀ d', dst = some d' → d ≠ d') → (e.on dst s).tmps d = s.tmps d := fun d h => by
    have := cm.qG e dst s (x := .tmp d) (fun d' rO bw => h d' rO (by cases bw; rfl));exact this
  unfold want;cases aw : o.guard with
  | none => rfl
  | some p =>
    obtain ⟨g, bO⟩ := p;simp only;cases hd : (ops[g]?).bind (·.dst) with
    | none => rfl
    | some d =>
      simp only
      rw [aD d (fun d' rO bw => ao d' rO (by
        subst bw;unfold Oper.looksAt;rw [aw];exact List.mem_append_right _ (by simp [hd])))]
theorem SJ {b : Bool} {e : cm} {K : aC → Prop} (ok : s.cN) (hw : want ops bn s = some b) (he : eU P s.n s.look s.mem bn b e) (tq : ∀ d, bn.dst = some d → d < s.n) (pv : bn.apart ops bk = true) (mc : xT s bn bk) (h : rl P ops bk K (e.on bn.dst s)) :
    rl P ops bk (fun t => (want ops bn t = some b ∧ eU P t.n t.look t.mem bn b e ∧ (∀ d, bn.dst = some d → d < t.n) ∧ t.cN) ∧ K (e.on bn.dst t)) s := by
  obtain ⟨a1, a2, a3⟩ := Oper.apart_spec pv;obtain ⟨c, rX, f, ar, qq, af⟩ := h;obtain ⟨h1, h2, ap⟩ := eU.swap ok he ar pv mc;rw [xH (b := none) a1] at rX;have uU : ∀ d, bk.dst = some d → d < s.n := fun d hd => by have := qq d hd; rwa [cm.tQ] at this
  refine ⟨c, rX, f, h1, uU, ⟨?_, h2, fun d hd => by rw [cm.tQ]; exact tq d hd, yr ok h1 uU⟩, by rw [← ap]; exact af⟩;rw [xH (b := none) a3];exact hw
theorem SI {K iA : aC → Prop} (h : ∀ s, K s → iA s) (a6 : rl P ops o K s) : rl P ops o iA s :=
  let ⟨b, h1, e, h2, ap, aL⟩ := a6
  ⟨b, h1, e, h2, ap, h _ aL⟩
def o6 (ops : Array Oper) (bx : Array Bool) (x y : Oper) (s : aC) : Prop :=
  vl x y = true ∨ ∃ t u o p, addrOf x = some (.tmp t) ∧ addrOf y = some (.tmp u) ∧ s.tmps t = some o ∧ s.tmps u = some p ∧ yc o p = true ∧
    ∀ i bn, ops[i]? = some bn → bx.getD i true = false → bn.dst ≠ some t ∧ bn.dst ≠ some u
theorem o6.sep {bx : Array Bool} (h : o6 ops bx bn bk s) : xT s bn bk := by
  rcases h with h | ⟨t, u, o, p, h1, h2, ap, aL, dk, _⟩
  · exact .inl h
  · exact .inr ⟨_, _, o, p, h1, h2, ap, aL, dk⟩
theorem cm.xl {e : cm} {dst : Option Nat} {t : Nat} (h : dst ≠ some t) : (e.on dst s).tmps t = s.tmps t := by
  have := cm.qG e dst s (x := .tmp t) (fun d hd bw => by cases bw; exact h hd);exact this
theorem o6.on {bx : Array Bool} {f : cm} {o : Oper} {i : Nat} (h : o6 ops bx bn bk s) (ay : ops[i]? = some o) (ie : bx.getD i true = false) : o6 ops (bx.setIfInBounds i true) bn bk (f.on o.dst s) := by
  rcases h with h | ⟨t, u, q, p, h1, h2, ap, aL, dk, fV⟩
  · exact .inl h
  · obtain ⟨ig, jA⟩ := fV i o ay ie
    refine .inr ⟨t, u, q, p, h1, h2, by rw [cm.xl ig]; exact ap, by rw [cm.xl jA]; exact aL, dk, fun ft fz gF tC => fV ft fz gF ?_⟩
    by_cases e : i = ft
    · subst e; exact ie
    · rwa [getD_set_ne true e] at tC
theorem SK {b : Bool} {e : cm} {K : aC → Prop} (ok : s.cN) (hw : want ops bn s = some b) (he : eU P s.n s.look s.mem bn b e) (tq : ∀ d, bn.dst = some d → d < s.n) (pv : bn.apart ops bk = true) (mc : xT s bn bk) (h : rl P ops bk K (e.on bn.dst s)) :
    rl P ops bk (fun t => (∃ f : cm, t = f.on bk.dst s) ∧ (want ops bn t = some b ∧ eU P t.n t.look t.mem bn b e ∧ (∀ d, bn.dst = some d → d < t.n) ∧ t.cN) ∧ K (e.on bn.dst t)) s := by
  obtain ⟨c, h1, f, h2, ap, aL⟩ := SJ ok hw he tq pv mc h;exact ⟨c, h1, f, h2, ap, ⟨f, rfl⟩, aL⟩
def waits (md : Region.Mode) (ops : Array Oper) : Nat → Nat → Nat → Bool
  | 0, _, _ => false
  | f + 1, j, i => match ops[j]? with
    | some o => o.after.any fun e => Region.binds md e && (e.on == i || waits md ops f e.on i)
    | none => false
def Down (md : Region.Mode) (ops : Array Oper) (bx : Array Bool) : Prop := ∀ k o, bx.getD k false = true → ops[k]? = some o → ∀ e ∈ o.after, Region.binds md e = true → bx.getD e.on false = true
theorem Jd {bx : Array Bool} (hd : Down md ops bx) : ∀ (f j i : Nat) (o : Oper), ops[j]? = some o → (∀ e ∈ o.after, Region.binds md e = true → bx.getD e.on false = true) → waits md ops f j i = true → bx.getD i false = true
  | 0, _, _, _, _, _, h => by cases h
  | f + 1, j, i, o, ay, dc, h => by
    simp only [waits, ay] at h;obtain ⟨e, he, ab⟩ := Array.any_eq_true'.1 h;simp only [dS, qN, beq_iff_eq] at ab;obtain ⟨h1, h2⟩ := ab;have ao := dc e he h1;rcases h2 with h2 | h2
    · rw [← h2]; exact ao
    · cases gF : ops[e.on]? with
      | none => cases f <;> simp [waits, gF] at h2
      | some fz => exact Jd hd f e.on i fz gF (fun bw GH df => hd e.on fz ao gF bw GH df) h2
theorem Down.set {bx : Array Bool} (hd : Down md ops bx) {j : Nat} (ae : j ∈ Region.ready md ops bx) : Down md ops (bx.setIfInBounds j true) := by
  intro k o af ay e he ab;obtain ⟨_, bk, fE, dc⟩ := mem_ready.1 ae
  by_cases bw : j = k
  · subst bw
    rw [fE] at ay;cases ay;exact getD_set_true (dc e he ab)
  · refine getD_set_true (hd k o ?_ ay e he ab)
    have : (bx.setIfInBounds j true).getD k false = bx.getD k false := by simp [Array.getElem?_setIfInBounds_ne bw]
    rwa [this] at af
theorem SH {K : aC → Prop} {i : Nat} {b : Bool} {e : cm} (hi : ops[i]? = some bn) : ∀ (ff : Nat) (bx : Array Bool) (s : aC),
      (∀ j bk, ops[j]? = some bk → j ≠ i → bx.getD j true = false → (∀ e ∈ bk.after, Region.binds md e = true → e.on ≠ i) → waits md ops 4 j i = false → bn.apart ops bk = true ∧ o6 ops bx bn bk s) →
      Down md ops bx → i ∈ Region.ready md ops bx → s.cN → want ops bn s = some b → eU P s.n s.look s.mem bn b e → (∀ d, bn.dst = some d → d < s.n) →
      x2 P md ops K ff (bx.setIfInBounds i true) (e.on bn.dst s) → x2 P md ops K (ff + 1) bx s := by
  intro ff
  induction ff with
  | zero =>
    intro bx s _ fQ aq ok hw he hd H;refine ⟨fun h => (by rw [h] at aq; cases aq), fun j ae bk fE => ?_⟩
    by_cases gi : j = i
    · subst gi; rw [hi] at fE; cases fE; exact ⟨b, hw, e, he, hd, H⟩
    · have := ready_mono ae gi
      rw [H.1] at this;cases this
  | succ ff cw =>
    intro bx s jt fQ aq ok hw he hd H;refine ⟨fun h => (by rw [h] at aq; cases aq), fun j ae bk fE => ?_⟩
    by_cases gi : j = i
    · subst gi; rw [hi] at fE; cases fE; exact ⟨b, hw, e, he, hd, H⟩
    · have h1 := H.2 j (ready_mono ae gi) bk fE
      obtain ⟨uX, abF, y4, dc⟩ := mem_ready.1 ae;rw [fE] at y4;cases y4
      have rS : ∀ e ∈ bk.after, Region.binds md e = true → e.on ≠ i := fun e he ab rR => by
        have h1 := dc e he ab;have aH := (mem_ready.1 aq).1;rw [rR] at h1;rcases iQ i bx.size with aF | aF
        · simp [aF] at aH h1; rw [aH] at h1; cases h1
        · simp [vw aF] at h1
      have rY : waits md ops 4 j i = false := by
        cases rX : waits md ops 4 j i with
        | false => rfl
        | true =>
          have h1 := Jd fQ 4 j i bk fE dc rX;have aH := (mem_ready.1 aq).1;rcases iQ i bx.size with aF | aF
          · simp [aF] at aH h1; rw [aH] at h1; cases h1
          · simp [vw aF] at h1
      obtain ⟨g1, g2⟩ := jt j bk fE gi uX rS rY;have h2 := SK ok hw he hd g1 g2.sep h1;refine SI (fun t ap => ?_) h2;obtain ⟨⟨f, rfl⟩, ap⟩ := ap
      have GI : ∀ k ok, ops[k]? = some ok → k ≠ i → (bx.setIfInBounds j true).getD k true = false →
          (∀ e ∈ ok.after, Region.binds md e = true → e.on ≠ i) → waits md ops 4 k i = false → bn.apart ops ok = true ∧ o6 ops (bx.setIfInBounds j true) bn ok (f.on bk.dst s) := fun k ok af km ie ju CT => by
        have tC : bx.getD k true = false := by
          by_cases kK : j = k
          · subst kK; exact uX
          · rwa [getD_set_ne true kK] at ie
        obtain ⟨q1, q2⟩ := jt k ok af km tC ju CT;exact ⟨q1, q2.on fE uX⟩
      refine cw (bx.setIfInBounds j true) _ GI (fQ.set ae) (ready_mono aq (Ne.symm gi)) ap.1.2.2.2 ap.1.1 ap.1.2.1 ap.1.2.2.1 ?_;rw [Array.setIfInBounds_comm _ _ gi];exact ap.2
def bi (P : Program) (ops : Array Oper) (K : aC → Prop) : List Oper → aC → Prop
  | [], s => K s
  | o :: rest, s => rl P ops o (bi P ops K rest) s
def Ip (x y : Oper) : Option (Nat × Nat) :=
  match addrOf x, addrOf y with
  | some (.tmp t), some (.tmp u) => some (t, u)
  | _, _ => none
def oC (ops : Array Oper) (bx : Array Bool) (t : Nat) : Bool := (List.range ops.size).all fun j => bx.getD j true || match ops[j]? with
  | some o => o.dst != some t
  | none => true
def lY (s : aC) (p : Nat × Nat) : Bool :=
  match s.tmps p.1, s.tmps p.2 with
  | some x, some y => yc x y
  | _, _ => false
def Dn (md : Region.Mode) (ops : Array Oper) (hJ : List (Nat × Nat)) (bx : Array Bool) (i : Nat) : Bool :=
  match ops[i]? with
  | none => false
  | some bn => (List.range ops.size).all fun j => j == i || bx.getD j true || match ops[j]? with
      | some bk => vl bn bk || waits md ops 4 j i || match Ip bn bk with
        | some (t, u) => hJ.contains (t, u) && oC ops bx t && oC ops bx u
        | none => false
      | none => true
theorem DC {bx : Array Bool} {t : Nat} (h : oC ops bx t = true) (j : Nat) (o : Oper) (ay : ops[j]? = some o) (ie : bx.getD j true = false) : o.dst ≠ some t := by
  unfold oC at h;simp only [ct, List.mem_range] at h;have := h j (kr.1 ay).1;simp only [ay, ie, Bool.false_or, bne_iff_ne, ne_eq] at this;exact this
theorem N9 {i : Nat} {hJ : List (Nat × Nat)} {bx : Array Bool} (hi : ops[i]? = some bn) (h : Dn md ops hJ bx i = true) (hs : ∀ p ∈ hJ, oC ops bx p.1 = true → oC ops bx p.2 = true → lY s p = true) (j : Nat) (bk : Oper)
    (ae : ops[j]? = some bk) (cq : j ≠ i) (ie : bx.getD j true = false) (ju : waits md ops 4 j i = false) : o6 ops bx bn bk s := by
  simp only [Dn, hi, ct, List.mem_range] at h;have h1 := h j (kr.1 ae).1;simp only [ae, qN, beq_iff_eq, cq, false_or, ie, nM] at h1;rcases h1 with (h1 | h1) | h1
  · exact .inl h1
  · rw [ju] at h1; cases h1
  · split at h1
    · rename_i t u hp
      simp only [dS] at h1;obtain ⟨⟨c1, c2⟩, kD⟩ := h1;have lO := hs (t, u) (by simpa using c1) c2 kD;unfold Ip at hp
      split at hp
      · rename_i nR ku aI aO
        cases hp;unfold lY at lO
        split at lO
        · rename_i o fH q1 q2
          exact .inr ⟨t, u, o, fH, aI, aO, q1, q2, lO, fun ft fz gF tC => ⟨DC c2 ft fz gF tC, DC kD ft fz gF tC⟩⟩
        · cases lO
      · cases hp
    · cases h1
def zC (md : Region.Mode) (ops : Array Oper) (hJ : List (Nat × Nat)) : List Nat → Array Bool → Bool
  | [], bx => (Region.ready md ops bx).isEmpty
  | k :: ord, bx => (Region.ready md ops bx).contains k && Region.free md ops bx k && Dn md ops hJ bx k && zC md ops hJ ord (bx.setIfInBounds k true)
def getAll (l : List Oper) : List Nat → Option (List Oper)
  | [] => some []
  | i :: ord => match l[i]?, getAll l ord with
    | some o, some r => some (o :: r)
    | _, _ => none
theorem Gb {l : List Oper} : ∀ (ord : List Nat) (r : List Oper), getAll l ord = some r → r.length = ord.length ∧ ∀ (j : Nat), r[j]? = (ord[j]?).bind (l[·]?)
  | [], r, h => by cases h; exact ⟨rfl, fun j => by simp⟩
  | i :: ord, r, h => by
    simp only [getAll] at h
    split at h
    · rename_i o a7 ay aq
      cases h;obtain ⟨h1, h2⟩ := Gb ord a7 aq;refine ⟨by simp [h1], fun j => ?_⟩;cases j with
      | zero => simp [ay]
      | succ j => simpa using h2 j
    · cases h
theorem J6 {K : aC → Prop} : ∀ (l : List Oper) (s : aC), bi P ops K l s → ∃ s', K s' ∧ ∀ t, (∀ o ∈ l, o.dst ≠ some t) → s'.tmps t = s.tmps t
  | [], s, h => ⟨s, h, fun _ _ => rfl⟩
  | o :: l, s, ⟨b, hw, e, he, hd, dV⟩ => by
    obtain ⟨s', h1, h2⟩ := J6 l _ dV;exact ⟨s', h1, fun t aD => (h2 t fun fz gF => aD fz (by simp [gF])).trans (cm.xl (aD o (by simp)))⟩
theorem J4 {K : aC → Prop} {hJ : List (Nat × Nat)} : ∀ (ord : List Nat) (l : List Oper) (bx : Array Bool) (s : aC), l.length = ord.length → (∀ (j : Nat), l[j]? = (ord[j]?).bind (ops[·]?)) → (∀ k ∈ ord, bx.getD k true = false) → (∀ k, k < ops.size → bx.getD k true = false → k ∈ ord) → ord.Nodup → Down md ops bx → s.cN →
    zC md ops hJ ord bx = true → bi P ops (fun s => hJ.all (lY s) = true ∧ K s) l s → x2 P md ops K l.length bx s
  | [], [], _, _, _, _, _, _, _, _, _, fj, h => ⟨by simpa [zC] using fj, h.2⟩
  | [], _ :: _, _, _, hlen, _, _, _, _, _, _, _, _ => by cases hlen
  | _ :: _, [], _, _, hlen, _, _, _, _, _, _, _, _ => by cases hlen
  | k :: ord, o :: l, bx, s, hlen, ao, ie, GG, gT, fQ, ok, fj, h => by
    have aH : ops[k]? = some o := by simpa using (ao 0).symm
    have rQ := J6 _ _ h;simp only [zC, dS] at fj;obtain ⟨⟨⟨aq, ar⟩, hm⟩, Gj⟩ := fj;obtain ⟨b, hw, e, he, hd, dV⟩ := h
    have hs : ∀ p ∈ hJ, oC ops bx p.1 = true → oC ops bx p.2 = true → lY s p = true := fun p hp ig jA => by
      obtain ⟨s', ⟨h1, _⟩, h2⟩ := rQ
      have gY : ∀ t, oC ops bx t = true → ∀ fz ∈ o :: l, fz.dst ≠ some t := fun t aD fz gF => by
        obtain ⟨j, ae⟩ := jZ gF;rw [ao j] at ae;cases al : (k :: ord)[j]? with
        | none => rw [al] at ae; cases ae
        | some q => rw [al] at ae; exact DC aD q fz ae (ie _ (dG al))
      have := ct.1 h1 p hp;unfold lY at this ⊢;rw [h2 p.1 (gY _ ig), h2 p.2 (gY _ jA)] at this;exact this
    rw [List.nodup_cons] at gT;have cq : ∀ q ∈ ord, k ≠ q := fun q al e => gT.1 (by rw [e]; exact al);refine SH aH l.length bx s (fun j bk h1 h2 ap aL dk => ⟨Region.free_spec aH ar j bk h1 h2 ap aL, N9 aH hm hs j bk h1 h2 ap dk⟩) fQ (by simpa using aq) ok hw he hd ?_;refine J4 ord l _ _ (by simpa using hlen) (fun j => by simpa using ao (j + 1)) (fun q al => by rw [getD_set_ne true (cq q al)]; exact ie q (by simp [al])) (fun q al uZ => ?_) gT.2 (fQ.set (by simpa using aq)) (yr ok he hd) Gj dV
    by_cases bw : k = q
    · subst bw
      have : k < bx.size := by
        have := ie k (by simp);rcases iQ k bx.size with aF | aF
        · exact aF
        · simp [vw aF] at this
      simp [this] at uZ
    · rw [getD_set_ne true bw] at uZ
      rcases gM.1 (GG q al uZ) with aF | aF
      · exact absurd aF.symm bw
      · exact aF
def vn (ops : Array Oper) (ord : List Nat) : List (Nat × Nat) :=
  match ord with
  | [] => []
  | i :: rest => (match ops[i]? with
    | some bn => bif lR bn != 0 then rest.filterMap fun j => match ops[j]? with
        | some bk => bif vl bn bk || waits .any ops 4 j i then none else Ip bn bk
        | none => none
      else []
    | none => []) ++ vn ops rest
def early (o : Oper) : Bool := (match o.op with | .alloc _ => true | _ => false) && o.after.isEmpty && o.guard.isNone
def qJ (l : List Oper) : List Nat := ((List.range l.length).filter fun i => match l[i]? with | some o => early o | none => false) ++ (List.range l.length).filter fun i => match l[i]? with | some o => !early o | none => false
def fp (P : Program) (c : Code) (Q : Exit → aC → Prop) (s : aC) : Prop :=
  s.cN → ∀ B A ad a w, Rel B A s ad a w → j7 P c (fun e a' w' => ∃ s' bg, s'.cN ∧ Rel B A s' bg a' w' ∧ Q e s') a w
def zJ : List Nat → Bool
  | [] => true
  | x :: xs => !xs.contains x && zJ xs
theorem Ia : ∀ (l : List Nat), zJ l = true → l.Nodup
  | [], _ => List.nodup_nil
  | x :: xs, h => by
    simp only [zJ, dS, si, List.contains_eq_mem, lp] at h;exact List.nodup_cons.2 ⟨h.1, Ia xs h.2⟩
def Ld (l : List Oper) : Bool := Nat.beq (qJ l).length l.length && zJ (qJ l) && (List.range l.length).all (fun i => (qJ l).contains i) && (qJ l).all (fun i => Nat.blt i l.length) && zC .any l.toArray (vn l.toArray (qJ l)) (qJ l) (Array.replicate l.length false)
theorem h9 {id : Nat} {l cx : List Oper} {Q : Exit → aC → Prop} (hm : P.follows .mixedOrders = true) (fj : Ld l = true) (ao : getAll l (qJ l) = some cx)
    (h : bi P l.toArray (fun s => (vn l.toArray (qJ l)).all (lY s) = true ∧ Q .normal s) cx s) : fp P (.region id l.toArray true) Q s := by
  intro ok B A ad a w ax;refine Ra hm fun ro => ?_;unfold Ld at fj;simp only [dS, ct, List.mem_range, List.contains_eq_mem, cE] at fj;obtain ⟨⟨⟨⟨n6, b1⟩, b2⟩, ed⟩, dD⟩ := fj;obtain ⟨g1, g2⟩ := Gb _ _ ao;have hd : Rel B A s ad a { w with drawn := w.drawn + 1 } := ax.call ((Below.refl _ w).drew);refine J5 (K := Q .normal) (fun s' bg a' w' dC cu af => ⟨s', bg, dC, cu, af⟩) _ _ s ad a _ ok hd ?_;have nd := Ia _ b1;have hlen : (qJ l).length = l.length := gZ n6;have := J4 (md := .any) (ops := l.toArray) (qJ l) cx (Array.replicate l.length false) s g1 (by simpa using g2) (fun q al => by have := ed q al; simp [Nat.blt_eq] at this; simp [this]) (fun q al _ => b2 q (by simpa using al)) nd (fun k o af => by exfalso; rcases iQ k l.length with q | q <;> simp [Array.getElem?_replicate, q] at af) ok dD h;rw [g1, hlen] at this;simpa using this
theorem J7 {ro : Option Nat} {K : aC → Prop} {Q : Exit → Act → World → Prop} (iZ : ∀ s' bg a' w', s'.cN → Rel B A s' bg a' w' → K s' → Q .normal a' w') : ∀ (l : List Oper) (k : Nat) (s : aC) (ad : Nat → Nat) (a : Act) (w : World), (∀ (j : Nat), l[j]? = ops[k + j]?) → s.cN → Rel B A s ad a w →
    bi P ops K l s → wpOpsIn (l4 ro) 0 P ops Q ((List.range l.length).map (k + ·)) a w
  | [], _, _, _, _, _, _, ok, ax, h => iZ _ _ _ _ ok ax h
  | o :: l, k, s, ad, a, w, ao, ok, ax, h => by
    have aH : ops[k]? = some o := by simpa using (ao 0).symm
    have e : (List.range (o :: l).length).map (k + ·) = k :: (List.range l.length).map (k + 1 + ·) := by
      rw [lr, List.range_succ_eq_map, kU, List.map_map];congr 1;apply oP;intro j _;simp [Nat.add_assoc, Nat.add_comm 1 j]
    rw [e, wpOpsIn_cons];refine J8 aH ok ax h fun s' bg a' w' dC cu af => J7 iZ l (k + 1) s' bg a' w' (fun j => by have := ao (j + 1); simpa [Nat.add_assoc, Nat.add_comm 1 j] using this) dC cu af
theorem bL {id : Nat} {l : List Oper} {Q : Exit → aC → Prop} (h : bi P l.toArray (Q .normal) l s) : fp P (.region id l.toArray false) Q s := by
  intro ok B A ad a w ax;refine Q9 fun ro => ?_;have := J7 (ro := ro) (ops := l.toArray) (K := Q .normal) (Q := fun e a' w' => ∃ s' bg, s'.cN ∧ Rel B A s' bg a' w' ∧ Q e s') (fun s' bg a' w' dC cu af => ⟨s', bg, dC, cu, af⟩) l 0 s ad a w (by simp) ok ax h;simpa using this
end
section
variable {P : Program} {B : eX} {A : Nat → Prop} {s s1 s2 s' : aC} {ad : Nat → Nat} {a : Act} {w : World} {Q : Exit → aC → Prop} {x y : Code}
def rv (next : aC → Prop) (Q : Exit → aC → Prop) : Exit → aC → Prop
  | .normal, s => next s
  | e, s => Q e s
theorem bN (h : fp P x (rv (fun s' => fp P y Q s') Q) s) : fp P (.seq x y) Q s := by
  intro ok B A ad a w ax;refine Rc (sG (h ok B A ad a w ax) ?_);rintro e a' w' ⟨s', bg, dC, cu, al⟩;cases e <;> first | exact al dC B A bg a' w' cu | exact ⟨s', bg, dC, cu, al⟩
theorem eR (h : Q .normal s) : fp P .skip Q s := fun ok B A ad a w ax => Rd ⟨s, ad, ok, ax, h⟩
theorem uG {id : Nat} (h : Q (.exit id) s) : fp P (.exit id) Q s := fun ok B A ad a w ax => Q7 ⟨s, ad, ok, ax, h⟩
theorem b6 (h : Q .ret s) : fp P .ret Q s := fun ok B A ad a w ax => Rb ⟨s, ad, ok, ax, h⟩
theorem Kr {c : Operand} {t : Bool} (ak : s.look c = some (.w (.one (.c (.bool t))))) (h1 : t = true → fp P x Q s) (aH : t = false → fp P y Q s) : fp P (.cond c x y) Q s := by
  intro ok B A ad a w ax;have hv : a.eval c = .bool t := (ax.look ak).1;refine Q6 hv ?_;cases t with
  | true => exact h1 rfl ok B A ad a w ax
  | false => exact aH rfl ok B A ad a w ax
theorem h8 {c : Operand} (ak : s.look c = some (.w (.one (.c (.bool true))))) (h1 : fp P x Q s) : fp P (.cond c x y) Q s := Kr ak (fun _ => h1) (fun e => by cases e)
theorem hA {c : Operand} (ak : s.look c = some (.w (.one (.c (.bool false))))) (aH : fp P y Q s) : fp P (.cond c x y) Q s := Kr ak (fun e => by cases e) (fun _ => aH)
def vY (id : Nat) (Q : Exit → aC → Prop) : Exit → aC → Prop
  | .exit pF, s => bif Nat.beq pF id then Q .normal s else Q (.exit pF) s
  | e, s => Q e s
theorem gp {id : Nat} (h : fp P x (vY id Q) s) : fp P (.block id x) Q s := by
  intro ok B A ad a w ax;refine Q5 (sG (h ok B A ad a w ax) ?_);rintro e a' w' ⟨s', bg, dC, cu, al⟩;cases e with
  | exit pF =>
    simp only [Exit.inBlock];simp only [vY] at al;cases ab : Nat.beq pF id with
    | true => rw [ab] at al; rw [if_pos (gZ ab)]; exact ⟨s', bg, dC, cu, al⟩
    | false =>
      rw [ab] at al;have : pF ≠ id := fun e => by subst e; rw [Nat.beq_refl] at ab; cases ab
      rw [if_neg this]; exact ⟨s', bg, dC, cu, al⟩
  | _ => exact ⟨s', bg, dC, cu, al⟩
structure aC.bp (s s' : aC) : Prop where
  n : s'.n = s.n
  gO : ∀ t av, s'.tmps t = some av → s.tmps t = some av
  dx : ∀ k cs, s'.mem k = some cs → s.mem k = some cs
theorem Rel.le (h : Rel B A s ad a w) (l : s.bp s') : Rel B A s' ad a w := by
  have ar : ∀ b, s.free A ad b → b < w.heap.size → s'.free A ad b ∧ w.heap[b]? = w.heap[b]? := fun b ab _ => ⟨⟨ab.1, fun k cs af => ab.2 k cs (l.dx k cs af)⟩, rfl⟩;refine ⟨h.pH, by rw [l.n]; exact h.size, fun t av aD => ?_, fun k cs af => ?_, fun k k' c c' af eL e => h.inj k k' c c' (l.dx _ _ af) (l.dx _ _ eL) e, h.below, h.up, fun k b af => by rw [l.n]; exact h.jT k b af⟩
  · obtain ⟨v, h1, h2⟩ := h.gO t av (l.gO t av aD)
    exact ⟨v, h1, h2.map ar fun _ _ => rfl⟩
  · obtain ⟨vs, ty, h1, h2, ap⟩ := h.dx k cs (l.dx k cs af)
    exact ⟨vs, ty, h1, h2.map ar fun _ _ _ _ => rfl, ap⟩
theorem Q8 {c : Code} {Q : Exit → Act → World → Prop} (I : Nat → Act → World → Prop) {n : Nat} (h₀ : I n a w)
    (round : ∀ n a w, I n a w → j7 P c (Exit.then (fun a' w' => ∃ m, m < n ∧ I m a' w') Q) a w) : j7 P (Code.loop c) Q a w := by
  intro ro b k cs iK ab lN
  have key : ∀ n a w, I n a w →
      ∃ e a' w', Q e a' w' ∧ ArrivesIn (Machine.fenced P (l4 ro)) P (lone (b.atR a (.code c :: .inLoop c :: k)) cs w) b k cs e a' w' := by
    intro n
    induction n using Nat.strongRecOn with
    | _ n cw =>
      intro a w br;obtain ⟨e, wh, xI, al, tl⟩ := round n a w br ro b (.inLoop c :: k) cs iK ab lN;cases e with
      | normal =>
        obtain ⟨m, bj, WU⟩ := al;obtain ⟨VJ, TM, afG, Yk, Xb⟩ := cw m bj wh xI WU;exact ⟨VJ, TM, afG, Yk, .of_steps (StepsIn.trans tl (.one (fenced_calm ab lN rfl) stepR_inLoop)) Xb⟩
      | exit id => exact ⟨_, wh, xI, al, .pass (x := .inLoop c) rfl (fun _ _ => .inl (by simp)) tl⟩
      | goto l => exact ⟨_, wh, xI, al, .pass (x := .inLoop c) rfl (fun _ _ => .inl (by simp)) tl⟩
      | ret => exact ⟨_, wh, xI, al, .pass (x := .inLoop c) rfl (fun _ _ => .inl (by simp)) tl⟩
      | panic ch => exact ⟨_, wh, xI, al, .pass (x := .inLoop c) rfl (fun _ _ => .inl (by simp)) tl⟩
      | outgrown => exact ⟨_, wh, xI, al, .pass (x := .inLoop c) rfl (fun _ _ => .inl (by simp)) tl⟩
  obtain ⟨e, a', w', al, tl⟩ := key _ a w h₀;exact ⟨e, a', w', al, .of_steps (.one (fenced_calm ab lN rfl) stepR_loop) tl⟩
theorem Kt (I : Nat → aC → Prop) (n : Nat) (en : aC) (qz : s.bp en) (abG : en.cN) (aH : I n en)
    (round : ∀ n s, I n s → fp P x (rv (fun s' => ∃ m, m < n ∧ ∃ Ah, s'.bp Ah ∧ Ah.cN ∧ I m Ah) Q) s) : fp P (.loop x) Q s := by
  intro ok B A ad a w ax;refine Q8 (fun n a w => ∃ s ad, s.cN ∧ Rel B A s ad a w ∧ I n s) ⟨en, ad, abG, ax.le qz, aH⟩ ?_;rintro n a w ⟨s, ad, ok, ax, br⟩;refine sG (round n s br ok B A ad a w ax) ?_;rintro e a' w' ⟨s', bg, dC, cu, al⟩;cases e with
  | normal =>
    obtain ⟨m, hm, Ah, ao, vr, ck⟩ := al;exact ⟨m, hm, Ah, bg, vr, cu.le ao, ck⟩
  | _ => exact ⟨s', bg, dC, cu, al⟩
def aj.bp (x y : aj) : Prop := ∀ U ad W v, c9 U ad W x v → c9 U ad W y v
theorem aj.bp.refl (x : aj) : x.bp x := fun _ _ _ _ h => h
theorem aj.bp.of_eq {x y : aj} (h : x = y) : x.bp y := by subst h; exact .refl x
def iw (P : Program) (s : aC) : ResultVar → Option bI
  | .tmp t => match s.tmps t with
    | some (.w x) => some x
    | _ => none
  | .cell a ty => match s.tmps a with
    | some (.w (.one (.own k off))) => (s.mem k).bind (pick P ty · off)
    | _ => none
def packed : List bI → aj
  | [x] => .w x
  | xs => .cZ xs
def yd (P : Program) (fn : Func) (r : aj) : Exit → aC → Prop
  | .normal, s | .ret, s => ∃ xs, fn.results.toList.map (iw P s) = xs.map some ∧ (packed xs).bp r
  | _, _ => False
theorem Qo {α : Type} {f : α → Sem Value} : ∀ (l : List α) (vs : List Value), l.length = vs.length → (∀ (i : Nat) x v, l[i]? = some x → vs[i]? = some v → (f x).run P w = .ok v w) → (l.mapM f).run P w = .ok vs w
  | [], [], _, _ => rfl
  | [], _ :: _, h, _ => by cases h
  | _ :: _, [], h, _ => by cases h
  | x :: l, v :: vs, ao, h => by
    have aH := h 0 x v rfl rfl;have cw := Qo l vs (by simpa using ao) (fun i x v aa hv => h (i + 1) x v (by simpa using aa) (by simpa using hv));rw [List.mapM_cons];simp only [Sem.run_bind, aH, Result.andThen_ok, cw];rfl
def z8 (a : Act) : ResultVar → Sem Value
  | .tmp t => pure (a.tmps.getD t undef)
  | .cell b t => do loadVar t (← asAddr (a.tmps.getD b undef))
theorem adE (fn : Func) (a : Act) : results fn a.tmps = (do let vs ← fn.results.mapM (z8 a); pure (if h : vs.size = 1 then vs[0] else .tuple vs)) := rfl
theorem adD {v : ResultVar} {z : bI} (ax : Rel B A s ad a w) (h : iw P s v = some z) : ∃ u, (z8 a v).run P w = .ok u w ∧ gC (s.free A ad) ad w z u := by
  cases v with
  | tmp t =>
    simp only [iw] at h
    split at h
    · rename_i x aa
      cases h;obtain ⟨v, h1, h2⟩ := ax.gO t _ aa;refine ⟨v, ?_, h2⟩;simp [z8, xt, h1]
    · cases h
  | cell b ty =>
    simp only [iw] at h
    split at h
    · rename_i k off aa
      cases hm : s.mem k with
      | none => rw [hm] at h; cases h
      | some cs =>
        rw [hm] at h;obtain ⟨vs, t, g1, g2, g3⟩ := ax.dx k cs hm;obtain ⟨u, h1, h2⟩ := PC h g1 g2;obtain ⟨p, q1, q2⟩ := ax.gO b _ aa;cases q2;refine ⟨u, ?_, h2⟩;simp only [z8, xt, q1, Option.getD_some, asAddr, Sem.run_bind, Sem.run_pure, Result.andThen_ok, h1]
    · cases h
theorem P7 {fn : Func} {xs : List bI} (ax : Rel B A s ad a w) (h : fn.results.toList.map (iw P s) = xs.map some) : ∃ v, (results fn a.tmps).run P w = .ok v w ∧ c9 (s.free A ad) ad w (packed xs) v := by
  have key : ∀ (l : List ResultVar) (xs : List bI), l.map (iw P s) = xs.map some → ∃ vs : List Value, vs.length = xs.length ∧ l.length = vs.length ∧ (∀ (i : Nat) r u, l[i]? = some r → vs[i]? = some u → (z8 a r).run P w = .ok u w) ∧ ∀ (i : Nat) x u, xs[i]? = some x → vs[i]? = some u → gC (s.free A ad) ad w x u := by
    intro l
    induction l with
    | nil => intro xs h; cases xs with
      | nil => exact ⟨[], rfl, rfl, fun i r u h => by simp at h, fun i x u h => by simp at h⟩
      | cons => cases h
    | cons r l cw =>
      intro xs h;cases xs with
      | nil => cases h
      | cons x xs =>
        simp only [kU, List.cons.injEq] at h;obtain ⟨vs, aI, aO, cD, eD⟩ := cw xs h.2;obtain ⟨u, q1, q2⟩ := adD ax h.1;refine ⟨u :: vs, by simp [aI], by simp [aO], fun i a7 ku h1 h2 => ?_, fun i x' ku h1 h2 => ?_⟩
        · cases i with
          | zero => simp at h1 h2; subst h1; subst h2; exact q1
          | succ i => exact cD i a7 ku (by simpa using h1) (by simpa using h2)
        · cases i with
          | zero => simp at h1 h2; subst h1; subst h2; exact q2
          | succ i => exact eD i x' ku (by simpa using h1) (by simpa using h2)
  obtain ⟨vs, aI, aO, cD, eD⟩ := key _ _ h;have hm := Qo (P := P) (w := w) _ vs aO cD
  have gv : (results fn a.tmps).run P w = .ok (if h : vs.toArray.size = 1 then vs.toArray[0] else .tuple vs.toArray) w := by
    rw [adE, Array.mapM_eq_mapM_toList];simp only [map_eq_pure_bind, bind_assoc, Sem.run_bind];rw [hm];simp only [Result.andThen_ok, Sem.run_bind, Sem.run_pure]
  refine ⟨_, gv, ?_⟩
  match vs, xs, aI, eD with
  | [], [], _, _ => exact ⟨[], rfl, rfl, fun i x v h => by simp at h⟩
  | [v], [x], _, eD => exact eD 0 x v rfl rfl
  | v1 :: v2 :: vs, c5 :: dt :: xs, aI, eD =>
    rw [dif_neg (by simp)];exact ⟨v1 :: v2 :: vs, rfl, aI.symm, eD⟩
def start (n : Nat) (args : List aj) : aC := ⟨n, fun t => args[t]?, fun _ => none⟩
def sI (P : Program) (c : Code) (Q : Exit → aC → Prop) (s : aC) : Prop :=
  s.cN → ∀ W A ad a w, Rel (eX.all W) A s ad a w → c.wp P (fun e a' w' => ∃ s' bg, s'.cN ∧ Rel (eX.all W) A s' bg a' w' ∧ Q e s') a w
theorem PB {f : FuncId} {fn : Func} {c : Code} {args : List aj} {r : aj} (ar : P.funcs[f]? = some fn) (ab : fn.body = some c) (aE : args.length ≤ fn.ntmps) (jn : ∀ x ∈ args, x.closed) (cj : r.closed)
    (h : sI P c (yd P fn r) (start fn.ntmps args)) : aR P f args r := by
  refine ⟨jn, cj, fun U W vs dJ => ?_⟩;have ao := dJ.1
 
  refine calls_of_wp ar ab ?_;have ok : (start fn.ntmps args).cN := ⟨fun t av j aD ae => absurd ae (jn av (dG aD) j), fun k cs x j af => by cases af⟩
  have ax : Rel (eX.all W) (fun b => U b ∨ W.heap.size ≤ b) (start fn.ntmps args) id { tmps := vs.toArray ++ Array.replicate (fn.ntmps - vs.toArray.size) undef, defers := [] } W := by
    refine ⟨rfl, by simp [start]; omega, fun t av aD => ?_, (fun k cs af => by cases af), (fun k k' cs au af => by cases af), jN.refl (eX.all W), fun b ab => .inr ab, fun k b af => (by cases af)⟩;have bj : t < vs.length := by rw [← ao]; exact (bX.1 aD).1
    refine ⟨vs[t], by simp [Array.getElem?_append, bj], ?_⟩;exact (dJ.2 t av _ aD (cp bj)).map (fun b ab _ => ⟨⟨.inl ab, fun k cs af => by cases af⟩, rfl⟩) fun _ _ => rfl
  refine wp_mono (h ok W _ id _ W ax) ?_;rintro e a' w' ⟨s', bg, dC, cu, al⟩
  have fin : (∃ xs, fn.results.toList.map (iw P s') = xs.map some ∧ (packed xs).bp r) → a'.defers = [] ∧ ∃ v, (results fn a'.tmps).run P w' = .ok v w' ∧ ∃ u, Ending.returned v = .returned u ∧ c9 (fun b => U b ∨ W.heap.size ≤ b) id w' r u ∧ Below W.heap.size W w' := by
    rintro ⟨xs, h1, h2⟩;obtain ⟨v, q1, q2⟩ := P7 cu h1;exact ⟨cu.pH, v, q1, v, rfl, (h2 _ _ _ _ q2).map (fun b ab _ => ⟨ab.1, rfl⟩) fun j ae => absurd ae (cj j), cu.below.all⟩
  cases e with
  | normal => exact fin al
  | ret => exact fin al
  | _ => exact al.elim
theorem ac3 {f : FuncId} {fn : Func} {c : Code} {args : List aj} {r : aj} (ar : P.funcs[f]? = some fn) (ab : fn.body = some c) (aE : args.length ≤ fn.ntmps) (jn : ∀ x ∈ args, x.closed) (cj : r.closed)
    (h : fp P c (yd P fn r) (start fn.ntmps args)) : aR P f args r :=
  PB ar ab aE jn cj fun ok W A ad a w ax => (h ok (eX.all W) A ad a w ax).top
end
end Go.Proofs.YtpochbhajmbfdaaGreat
