/-
  My own texts, without what this claim does not need. My own text.
-/
import Derived.Below
import Derived.Still
import Derived.OrdersIn
import Derived.Laws.CopyRow
import Derived.Laws.Cells
import Derived.Test.YtpochbhajmbfdaaGreatSLastK1
set_option maxRecDepth 100000
set_option maxHeartbeats 64000000
set_option linter.unusedVariables false
set_option linter.unusedSimpArgs false
set_option linter.unusedSectionVars false
namespace Go.Proofs.YtpochbhajmbfdaaGreat
open Go.RowKit
structure eZ where
  holds : World → Value → Prop
  la : World → Value → Nat → Prop
  frame : ∀ w w' v, holds w v → (∀ b, la w v b → w'.heap[b]? = w.heap[b]?) → holds w' v ∧ ∀ b, la w' v b → la w v b
  ib : ∀ w v b, holds w v → la w v b → b < w.heap.size
  cell : ∀ w v, holds w v → v.oneCell' = true
inductive AC where
  | c (v : Value)
  | own (k off : Nat)
  | p (R : eZ)
inductive bG where
  | one (x : AC)
  | agg (xs : List AC)
inductive ai where
  | w (x : bG)
  | cZ (xs : List bG)
def bG.cells : bG → List AC
  | .one x => [x]
  | .agg xs => xs
def gm (U : Nat → Prop) (ad : Nat → Nat) (W : World) : AC → Value → Prop
  | .c v, x => x = v ∧ v.oneCell' = true
  | .own k off, x => x = .pointer (some ⟨ad k, off, none⟩)
  | .p R, x => R.holds W x ∧ ∀ b, R.la W x b → U b
def bP (U : Nat → Prop) (ad : Nat → Nat) (W : World) (xs : List AC) (vs : List Value) : Prop :=
  xs.length = vs.length ∧ ∀ (i : Nat) (x : AC) (v : Value), xs[i]? = some x → vs[i]? = some v → gm U ad W x v
def gx (U : Nat → Prop) (ad : Nat → Nat) (W : World) : bG → Value → Prop
  | .one x, v => gm U ad W x v
  | .agg xs, v => ∃ vs : List Value, v = .agg vs.toArray ∧ bP U ad W xs vs
def dc (U : Nat → Prop) (ad : Nat → Nat) (W : World) : ai → Value → Prop
  | .w x, v => gx U ad W x v
  | .cZ xs, v => ∃ vs : List Value, v = .tuple vs.toArray ∧ xs.length = vs.length ∧ ∀ (i : Nat) (x : bG) (v : Value), xs[i]? = some x → vs[i]? = some v → gx U ad W x v
def AC.owns : AC → Nat → Prop
  | .own k _, j => j = k
  | _, _ => False
def bG.owns (x : bG) (j : Nat) : Prop := ∃ y ∈ x.cells, y.owns j
def ai.owns : ai → Nat → Prop
  | .w x, j => x.owns j
  | .cZ xs, j => ∃ x ∈ xs, x.owns j
section
variable {U cA : Nat → Prop} {ad bg : Nat → Nat} {W W' : World}
theorem gm.cell {x : AC} {v : Value} (h : gm U ad W x v) : v.oneCell' = true := by
  cases x with
  | c u => obtain ⟨rfl, h⟩ := h; exact h
  | own k off => cases h; rfl
  | p R => exact R.cell _ _ h.1
theorem gm.map {x : AC} {v : Value} (h : gm U ad W x v) (dy : ∀ b, U b → b < W.heap.size → cA b ∧ W'.heap[b]? = W.heap[b]?) (iY : ∀ j, x.owns j → bg j = ad j) : gm cA bg W' x v := by
  cases x with
  | c u => exact h
  | own k off => simp only [gm] at h ⊢; rw [h, iY k rfl]
  | p R =>
    obtain ⟨h1, h2⟩ := h;have ap := R.frame W W' v h1 (fun b ab => (dy b (h2 b ab) (R.ib _ _ _ h1 ab)).2);exact ⟨ap.1, fun b ab => (dy b (h2 b (ap.2 b ab)) (R.ib _ _ _ h1 (ap.2 b ab))).1⟩
theorem bP.map {xs : List AC} {vs : List Value} (h : bP U ad W xs vs) (dy : ∀ b, U b → b < W.heap.size → cA b ∧ W'.heap[b]? = W.heap[b]?) (iY : ∀ j x, x ∈ xs → x.owns j → bg j = ad j) : bP cA bg W' xs vs :=
  ⟨h.1, fun i x v aa hv => (h.2 i x v aa hv).map dy fun j ae => iY j x (dF aa) ae⟩
theorem gx.map {x : bG} {v : Value} (h : gx U ad W x v) (dy : ∀ b, U b → b < W.heap.size → cA b ∧ W'.heap[b]? = W.heap[b]?) (iY : ∀ j, x.owns j → bg j = ad j) : gx cA bg W' x v := by
  cases x with
  | one x => exact gm.map h dy fun j ae => iY j ⟨x, by simp [bG.cells], ae⟩
  | agg xs =>
    obtain ⟨vs, e, h⟩ := h;exact ⟨vs, e, h.map dy fun j x aa ae => iY j ⟨x, aa, ae⟩⟩
theorem dc.map {x : ai} {v : Value} (h : dc U ad W x v) (dy : ∀ b, U b → b < W.heap.size → cA b ∧ W'.heap[b]? = W.heap[b]?) (iY : ∀ j, x.owns j → bg j = ad j) : dc cA bg W' x v := by
  cases x with
  | w x => exact gx.map h dy iY
  | cZ xs =>
    obtain ⟨vs, e, an, h⟩ := h;exact ⟨vs, e, an, fun i x v aa hv => (h i x v aa hv).map dy fun j ae => iY j ⟨x, dF aa, ae⟩⟩
theorem gx.cells {x : bG} {v : Value} (h : gx U ad W x v) : bP U ad W x.cells v.cells.toList := by
  cases x with
  | one x =>
    have ak : v.cells = #[v] := by
      have := gm.cell h;cases v <;> simp_all [Value.cells, Value.oneCell']
    rw [ak];refine ⟨rfl, fun i y u ag hu => ?_⟩;simp only [bG.cells] at ag;cases i with
    | zero => simp at ag hu; subst ag; subst hu; exact h
    | succ i => simp at ag
  | agg xs =>
    obtain ⟨vs, rfl, h⟩ := h;exact h
end
def bM {α : Type} (f : Nat → Option α) (k : Nat) (v : α) : Nat → Option α := fun j => bif Nat.beq j k then some v else f j
theorem cr {α : Type} (f : Nat → Option α) (k : Nat) (v : α) : bM f k v k = some v := by simp [bM]
theorem cj {α : Type} (f : Nat → Option α) {k j : Nat} (v : α) (h : j ≠ k) : bM f k v j = f j := by
  have : Nat.beq j k = false := by
    cases ab : Nat.beq j k with
    | false => rfl
    | true => exact absurd (gS ab) h
  simp [bM, this]
theorem QP {α : Type} (f : Nat → Option α) {k j : Nat} (v u : α) (h : j ≠ k) : bM (bM f k v) j u = bM (bM f j u) k v := by
  funext i
  by_cases h1 : i = j
  · subst h1; rw [cr, cj _ _ h, cr]
  · by_cases h2 : i = k
    · subst h2; rw [cj _ _ h1, cr, cr]
    · rw [cj _ _ h1, cj _ _ h2, cj _ _ h2, cj _ _ h1]
structure aD where
  n : Nat
  tmps : Nat → Option ai
  mem : Nat → Option (List AC)
def aD.put (s : aD) (dst : Option Nat) (v : ai) : aD :=
  match dst with
  | some d => { s with tmps := bM s.tmps d v }
  | none => s
def aD.dV (s : aD) (k : Nat) (cs : List AC) : aD := { s with mem := bM s.mem k cs }
def OR : Value → bG
  | .agg cs => .agg (cs.toList.map .c)
  | v => .one (.c v)
def xi : Value → ai
  | .tuple vs => .cZ (vs.toList.map OR)
  | v => .w (OR v)
def aD.look (s : aD) : Operand → Option ai
  | .tmp t => s.tmps t
  | .const v => if v.oneCell' then some (.w (.one (.c v))) else none
  | .global g => some (.w (.one (.c (.pointer (some ⟨g, 0, none⟩)))))
  | .func f => some (.w (.one (.c (.func (.func f) #[] #[]))))
def aD.free (s : aD) (A : Nat → Prop) (ad : Nat → Nat) (b : Nat) : Prop := A b ∧ ∀ k cs, s.mem k = some cs → ad k ≠ b
structure aD.cN (s : aD) : Prop where
  gK : ∀ t av j, s.tmps t = some av → av.owns j → ∃ cs, s.mem j = some cs
  du : ∀ k cs x j, s.mem k = some cs → x ∈ cs → x.owns j → ∃ ar, s.mem j = some ar
structure eS where
  W : World
  F : Nat → Prop
  lt : ∀ b, F b → b < W.heap.size
  N : Nat → Option Nat
  marks : List Deferred := []
def eS.all (W : World) : eS := ⟨W, fun b => b < W.heap.size, fun _ h => h, fun _ => none, []⟩
def ud (B : eS) (s : aD) (ad : Nat → Nat) : Prop := ∀ k b, B.N k = some b → s.n ≤ k ∧ ad k = b
structure jK (B : eS) (w : World) : Prop where
  os : w.os = B.W.os
  tape : w.tape = B.W.tape
  output : w.output = B.W.output
  size : B.W.heap.size ≤ w.heap.size
  block : ∀ b, B.F b → w.heap[b]? = B.W.heap[b]?
theorem jK.then {B : eS} {w w' : World} (h : jK B w) (ab : Below w.heap.size w w') : jK B w' :=
  ⟨ab.os.trans h.os, ab.tape.trans h.tape, ab.output.trans h.output, ln h.size ab.size, fun b au => (ab.block b (tY (B.lt b au) h.size)).trans (h.block b au)⟩
theorem jK.refl (B : eS) : jK B B.W := ⟨rfl, rfl, rfl, dL _, fun _ _ => rfl⟩
theorem jK.all {W w : World} (h : jK (eS.all W) w) : Below W.heap.size W w := ⟨h.os, h.tape, h.output, h.size, fun k af => h.block k af⟩
structure Rel (B : eS) (A : Nat → Prop) (s : aD) (ad : Nat → Nat) (a : Act) (w : World) : Prop where
  pD : a.defers = B.marks
  size : a.tmps.size = s.n
  gK : ∀ t av, s.tmps t = some av → ∃ v, a.tmps[t]? = some v ∧ dc (s.free A ad) ad w av v
  du : ∀ k cs, s.mem k = some cs → ∃ (vs : List Value) (ty : TypeId), w.heap[ad k]? = some (.cells vs.toArray ty (0, 0)) ∧ bP (s.free A ad) ad w cs vs ∧ ¬ B.F (ad k)
  inj : ∀ k k' cs ar, s.mem k = some cs → s.mem k' = some ar → ad k = ad k' → k = k'
  below : jK B w
  up : ∀ b, B.W.heap.size ≤ b → A b
  jQ : ud B s ad
section
variable {B : eS} {A : Nat → Prop} {s : aD} {ad : Nat → Nat} {a : Act} {w w' : World}
theorem aD.V2 (s : aD) (dst : Option Nat) (v : ai) (A : Nat → Prop) (ad : Nat → Nat) : (s.put dst v).free A ad = s.free A ad := by cases dst <;> rfl
theorem aD.xb (s : aD) (dst : Option Nat) (v : ai) : (s.put dst v).mem = s.mem := by cases dst <;> rfl
theorem aD.sf (s : aD) (dst : Option Nat) (v : ai) : (s.put dst v).n = s.n := by cases dst <;> rfl
theorem Rel.put {dst : Option Nat} {av : ai} {v : Value} (h : Rel B A s ad a w) (hd : ∀ d, dst = some d → d < s.n) (hv : dc (s.free A ad) ad w av v) : Rel B A (s.put dst av) ad (a.put dst v) w := by
  cases dst with
  | none => exact h
  | some d =>
    have bi := hd d rfl;refine ⟨h.pD, by simp [aD.put, Act.put, h.size], fun t bv aE => ?_, h.du, h.inj, h.below, h.up, h.jQ⟩;simp only [aD.put] at aE
    by_cases e : t = d
    · subst e
      rw [cr] at aE;cases aE;exact ⟨v, by simp [Act.put, h.size, bi], hv⟩
    · rw [cj _ _ e] at aE
      obtain ⟨u, h1, h2⟩ := h.gK t bv aE;exact ⟨u, by simp only [Act.put]; rw [Array.getElem?_setIfInBounds_ne (Ne.symm e)]; exact h1, h2⟩
theorem Rel.lt {k : Nat} {cs : List AC} (h : Rel B A s ad a w) (af : s.mem k = some cs) : ad k < w.heap.size := by
  obtain ⟨vs, ty, h1, _⟩ := h.du k cs af;exact (ku.1 h1).1
theorem Rel.call (h : Rel B A s ad a w) (ab : Below w.heap.size w w') : Rel B A s ad a w' := by
  have dy : ∀ b, s.free A ad b → b < w.heap.size → s.free A ad b ∧ w'.heap[b]? = w.heap[b]? := fun b c5 an => ⟨c5, ab.block b an⟩;refine ⟨h.pD, h.size, fun t av aE => ?_, fun k cs af => ?_, h.inj, h.below.then ab, h.up, h.jQ⟩
  · obtain ⟨v, h1, h2⟩ := h.gK t av aE
    exact ⟨v, h1, h2.map dy fun _ _ => rfl⟩
  · obtain ⟨vs, ty, h1, h2, ap⟩ := h.du k cs af
    exact ⟨vs, ty, by rw [ab.block _ (h.lt af)]; exact h1, h2.map dy fun _ _ _ _ => rfl, ap⟩
theorem Rel.new {d : Nat} {cs : List AC} {vs : List Value} {ty : TypeId} (h : Rel B A s ad a w) (ok : s.cN) (fP : d < s.n) (hm : s.mem d = none) (hv : bP (s.free A ad) ad w cs vs) (et : ∀ x ∈ cs, ∀ j, x.owns j → ∃ ar, s.mem j = some ar) :
    Rel B A (s.dV d cs) (fun k => if k = d then w.heap.size else ad k) a (w.alloc (.cells vs.toArray ty)) := by
  have cn : ∀ k ar, s.mem k = some ar → k ≠ d := fun k ar af e => by subst e; rw [hm] at af; cases af
  have dy : ∀ b, s.free A ad b → b < w.heap.size → (s.dV d cs).free A (fun k => if k = d then w.heap.size else ad k) b ∧ (w.alloc (.cells vs.toArray ty)).heap[b]? = w.heap[b]? := by
    intro b ab an;refine ⟨⟨ab.1, fun k ar af => ?_⟩, Below.heap_alloc _ _ _ an⟩;simp only [aD.dV] at af
    by_cases e : k = d
    · subst e; simp; omega
    · rw [cj _ _ e] at af
      simp only [e, if_false];exact ab.2 k ar af
  have ee : ∀ j, (∃ ar, s.mem j = some ar) → (if j = d then w.heap.size else ad j) = ad j := fun j ⟨ar, ae⟩ => by rw [if_neg (cn j ar ae)]
  refine ⟨h.pD, h.size, fun t av aE => ?_, fun k ar af => ?_, fun k k' c1 c2 af eJ e => ?_, h.below.then ((Below.refl _ _).alloc (dL _) _), h.up, fun k b af => ?_⟩
  · obtain ⟨v, h1, h2⟩ := h.gK t av aE
    exact ⟨v, h1, h2.map dy fun j ae => ee j (ok.gK t av j aE ae)⟩
  · simp only [aD.dV] at af
    by_cases e : k = d
    · subst e
      rw [cr] at af;cases af;refine ⟨vs, ty, ?_, hv.map dy fun j x aa ae => ee j (et x aa j ae), ?_⟩
      · show (w.heap.push _)[if k = k then w.heap.size else ad k]? = _; simp
      · simp only [if_true]; exact fun au => by have := B.lt _ au; have := h.below.size; omega
    · rw [cj _ _ e] at af
      obtain ⟨us, t, h1, h2, ap⟩ := h.du k ar af;refine ⟨us, t, ?_, h2.map dy fun j x aa ae => ee j (ok.du k ar x j af aa ae), ?_⟩
      · simp only [e, if_false]; rw [Below.heap_alloc _ _ _ (h.lt af)]; exact h1
      · simp only [e, if_false]; exact ap
  · simp only [aD.dV] at af eJ
    by_cases aI : k = d <;> by_cases aN : k' = d
    · rw [aI, aN]
    · rw [cj _ _ aN] at eJ
      have := h.lt eJ;simp [aI, aN] at e;omega
    · rw [cj _ _ aI] at af
      have := h.lt af;simp [aI, aN] at e;omega
    · rw [cj _ _ aI] at af
      rw [cj _ _ aN] at eJ;simp [aI, aN] at e;exact h.inj k k' _ _ af eJ e
  · obtain ⟨h1, h2⟩ := h.jQ k b af
    refine ⟨h1, ?_⟩;rw [if_neg (fun e => by subst e; exact absurd fP (Nat.not_lt.2 h1))];exact h2
theorem Rel.set {k : Nat} {cs ds : List AC} {us : List Value} (h : Rel B A s ad a w) (af : s.mem k = some cs) (hv : bP (s.free A ad) ad w ds us) : Rel B A (s.dV k ds) ad a (w.setRow (ad k) us.toArray) := by
  have jr : (s.dV k ds).free A ad = s.free A ad := by
    funext b;apply propext
    constructor
    · rintro ⟨dS, ab⟩
      refine ⟨dS, fun j ar ae => ?_⟩
      by_cases e : j = k
      · subst e; exact ab j ds (by simp [aD.dV, cr])
      · exact ab j ar (by simp only [aD.dV]; rw [cj _ _ e]; exact ae)
    · rintro ⟨dS, ab⟩
      refine ⟨dS, fun j ar ae => ?_⟩;simp only [aD.dV] at ae
      by_cases e : j = k
      · subst e; exact ab j cs af
      · rw [cj _ _ e] at ae; exact ab j ar ae
  obtain ⟨vs, ty, g1, g2, g3⟩ := h.du k cs af;have mF : (w.setRow (ad k) us.toArray).heap[ad k]? = some (.cells us.toArray ty (0, 0)) := setRow_heap w (ad k) vs.toArray us.toArray ty (0, 0) g1
  have uY : ∀ b, b ≠ ad k → (w.setRow (ad k) us.toArray).heap[b]? = w.heap[b]? := fun b ab => by
    simp only [World.setRow, tW]; rw [if_neg (Ne.symm ab)]
  have dy : ∀ b, s.free A ad b → b < w.heap.size → s.free A ad b ∧ (w.setRow (ad k) us.toArray).heap[b]? = w.heap[b]? := fun b ab _ => ⟨ab, uY b (Ne.symm (ab.2 k cs af))⟩;refine ⟨h.pD, h.size, fun t av aE => ?_, fun j ar ae => ?_, fun j eL c1 c2 ae jT e => ?_, ?_, h.up, h.jQ⟩
  · obtain ⟨v, h1, h2⟩ := h.gK t av aE
    exact ⟨v, h1, by rw [jr]; exact h2.map dy fun _ _ => rfl⟩
  · simp only [aD.dV] at ae
    rw [jr]
    by_cases e : j = k
    · subst e
      rw [cr] at ae;cases ae;exact ⟨us, ty, mF, hv.map dy fun _ _ _ _ => rfl, g3⟩
    · rw [cj _ _ e] at ae
      obtain ⟨vE, afe, h1, h2, ap⟩ := h.du j ar ae;exact ⟨vE, afe, by rw [uY _ (fun bu => e (h.inj j k _ _ ae af bu))]; exact h1, h2.map dy fun _ _ _ _ => rfl, ap⟩
  · have hold : ∀ i c, (s.dV k ds).mem i = some c → ∃ c', s.mem i = some c' := fun i c hi => by
      simp only [aD.dV] at hi
      by_cases e : i = k
      · exact ⟨cs, by rw [e]; exact af⟩
      · rw [cj _ _ e] at hi; exact ⟨c, hi⟩
    obtain ⟨d1, q1⟩ := hold j c1 ae;obtain ⟨d2, q2⟩ := hold eL c2 jT;exact h.inj j eL _ _ q1 q2 e
  · exact ⟨h.below.os, h.below.tape, h.below.output, by have := h.below.size; simpa [World.setRow] using this, fun b ab => (uY b (fun e => by subst e; exact g3 ab)).trans (h.below.block b ab)⟩
end
def ai.closed (x : ai) : Prop := ∀ j, ¬ x.owns j
def jO (U : Nat → Prop) (ad : Nat → Nat) (W : World) (xs : List ai) (vs : List Value) : Prop :=
  xs.length = vs.length ∧ ∀ (i : Nat) (x : ai) (v : Value), xs[i]? = some x → vs[i]? = some v → dc U ad W x v
structure aX (P : Program) (f : FuncId) (args : List ai) (r : ai) : Prop where
  jn : ∀ x ∈ args, x.closed
  cf : r.closed
  call : ∀ (U : Nat → Prop) (W : World) (vs : List Value), jO U id W args vs →
    Calls P f vs.toArray W fun e W' => ∃ v, e = .returned v ∧ dc (fun b => U b ∨ W.heap.size ≤ b) id W' r v ∧ Below W.heap.size W W'
structure vN (P : Program) (look : Operand → Option ai) (o : Oper) (av : ai) : Prop where
  aee : ∀ cs b, o.op ≠ .select cs b
  ops : ∀ x ∈ o.op.operands, ∃ a, look x = some a
  run : ∀ (U : Nat → Prop) (ad : Nat → Nat) (W : World) (env : Operand → Value), (∀ x ∈ o.op.operands, ∀ a, look x = some a → dc U ad W a (env x)) →
    ∃ v, (execOp env o).run P W = .ok (.value v) W ∧ dc U ad W av v
  own : ∀ j, av.owns j → ∃ x ∈ o.op.operands, ∃ a, look x = some a ∧ a.owns j
def pick (P : Program) (ty : TypeId) (cs : List AC) (off : Nat) : Option bG :=
  match P.underlying ty with
  | some (.struct _) | some (.array _ _) => (P.info? ty).bind fun i => if off + i.size ≤ cs.length then some (.agg ((cs.drop off).take i.size)) else none
  | some _ => (cs[off]?).map .one
  | none => none
def ey (cs : List AC) (off : Nat) (ds : List AC) : List AC := cs.take off ++ ds ++ cs.drop (off + ds.length)
inductive uk (P : Program) (look : Operand → Option ai) (o : Oper) : List AC → Prop
  | alloc (ty : TypeId) (i : TypeInfo) (z : Value) (cs : List AC) (ax : o.op = .alloc ty) (hi : P.info? ty = some i) (a6 : i.zero = some z) (ak : cs = z.cells.toList.map .c) (h1 : (z.cells.toList.all fun v => v.oneCell') = true) : uk P look o cs
  | box (ty : TypeId) (x : Operand) (z : bG) (ax : o.op = .box ty x) (aa : look x = some (.w z)) : uk P look o z.cells
def enters (P : Program) (f : FuncId) : Bool := match P.funcs[f]? with
  | some fn => fn.body.isSome && fn.name != "runtime.NumGoroutine"
  | none => false
def Bx : Value → Bool
  | .agg cs => cs.toList.all fun v => v.oneCell'
  | .tuple _ => false
  | _ => true
def FA (w : World) : AC → Value → Nat → Prop
  | .p R, x, b => R.la w x b
  | _, _, _ => False
def oU (fn : Fn) (cs : List AC) : eZ where
  holds w v := ∃ vs : List Value, v = .func fn #[] vs.toArray ∧ bP (fun _ => True) id w cs vs ∧ ∀ x ∈ cs, ∀ j, ¬ x.owns j
  la w v b := ∃ vs : List Value, v = .func fn #[] vs.toArray ∧ ∃ (i : Nat) (x : AC) (u : Value), cs[i]? = some x ∧ vs[i]? = some u ∧ FA w x u b
  frame w w' v := by
    rintro ⟨vs, rfl, an, ak⟩ au
    have key : ∀ (i : Nat) (x : AC) (u : Value), cs[i]? = some x → vs[i]? = some u → gm (fun _ => True) id w' x u ∧ ∀ b, FA w' x u b → FA w x u b := by
      intro i x u aa hu;have h := an.2 i x u aa hu;cases x with
      | c y => exact ⟨h, fun b ab => ab⟩
      | own k o => exact ⟨h, fun b ab => ab⟩
      | p R =>
        have := R.frame w w' u h.1 fun b ab => au b ⟨vs, rfl, i, _, u, aa, hu, ab⟩;exact ⟨⟨this.1, fun _ _ => trivial⟩, this.2⟩
    refine ⟨⟨vs, rfl, ⟨an.1, fun i x u aa hu => (key i x u aa hu).1⟩, ak⟩, ?_⟩;rintro b ⟨vE, e, i, x, u, aa, hu, ab⟩;have bu : vs = vE := by simpa using e
    subst bu;exact ⟨vs, rfl, i, x, u, aa, hu, (key i x u aa hu).2 b ab⟩
  ib w v b := by
    rintro ⟨vs, rfl, an, ak⟩ ⟨vE, e, i, x, u, aa, hu, ab⟩;have bu : vs = vE := by simpa using e
    subst bu;have h := an.2 i x u aa hu;cases x with
    | p R => exact R.ib _ _ _ h.1 ab
    | c y => cases ab
    | own k o => cases ab
  cell w v := by rintro ⟨vs, rfl, _⟩; rfl
theorem oU.Uc {U : Nat → Prop} {ad : Nat → Nat} {w : World} {v : Value} {fn : Fn} {cs : List AC} (h : gm U ad w (.p (oU fn cs)) v) : ∃ vs : List Value, v = .func fn #[] vs.toArray ∧ bP U id w cs vs := by
  obtain ⟨⟨vs, rfl, an, ak⟩, au⟩ := h;refine ⟨vs, rfl, an.1, fun i x u aa hu => ?_⟩;have h := an.2 i x u aa hu;cases x with
  | c y => exact h
  | own k o => exact h
  | p R => exact ⟨h.1, fun b ab => au b ⟨vs, rfl, i, _, u, aa, hu, ab⟩⟩
structure sP (P : Program) (look : Operand → Option ai) (o : Oper) (f : FuncId) (args : List ai) : Prop where
  ex : ∃ c g, o.op = .call c ∧ c.callee = .value g ∧
    ((∃ bs : List Value, look g = some (.w (.one (.c (.func (.func f) bs.toArray #[])))) ∧ bs.map (fun b => some (xi b)) ++ c.args.toList.map look = args.map some ∧ bs.all Bx = true) ∨
     ∃ cs : List AC, look g = some (.w (.one (.p (oU (.func f) cs)))) ∧ c.args.toList.map look ++ cs.map (fun x => some (.w (.one x))) = args.map some)
  enters : enters P f = true
structure vJ (P : Program) (look : Operand → Option ai) (o : Oper) (av : ai) : Prop where
  ops : ∀ x ∈ o.op.operands, ∃ a, look x = some a
  pa : av.closed
  run : ∀ (U : Nat → Prop) (ad : Nat → Nat) (W : World) (env : Operand → Value), (∀ x ∈ o.op.operands, ∀ a, look x = some a → dc U ad W a (env x)) →
    ∃ v W', (execOp env o).run P W = .ok (.value v) W' ∧ dc (fun b => U b ∨ W.heap.size ≤ b) ad W' av v ∧ Below W.heap.size W W'
inductive k0 (P : Program) (s : aD) (o : Oper) : aD → Prop
  | fresh (av : ai) (al : vJ P s.look o av) (hd : ∀ d, o.dst = some d → d < s.n) : k0 P s o (s.put o.dst av)
  | quiet (av : ai) (al : vN P s.look o av) (hd : ∀ d, o.dst = some d → d < s.n) : k0 P s o (s.put o.dst av)
  | load (ty : TypeId) (x : Operand) (k off : Nat) (cs : List AC) (av : bG) (ax : o.op = .load ty x) (aa : s.look x = some (.w (.one (.own k off)))) (hm : s.mem k = some cs) (hv : pick P ty cs off = some av) (hd : ∀ d, o.dst = some d → d < s.n) : k0 P s o (s.put o.dst (.w av))
  | store (ty : TypeId) (x y : Operand) (k off : Nat) (cs : List AC) (z : bG) (i : TypeInfo) (ax : o.op = .store ty x y) (aa : s.look x = some (.w (.one (.own k off)))) (ag : s.look y = some (.w z)) (hm : s.mem k = some cs) (hi : P.info? ty = some i) (hs : i.size = z.cells.length) (ab : off + z.cells.length ≤ cs.length) (hd : ∀ d, o.dst = some d → d < s.n) : k0 P s o ((s.put o.dst (.cZ [])).dV k (ey cs off z.cells))
  | new (cs : List AC) (d : Nat) (dt : o.dst = some d) (hm : s.mem d = none) (aF : uk P s.look o cs) (hd : d < s.n) : k0 P s o ((s.dV d cs).put (some d) (.w (.one (.own d 0))))
  | call (f : FuncId) (args : List ai) (r : ai) (ak : sP P s.look o f args) (hp : aX P f args r) (hd : ∀ d, o.dst = some d → d < s.n) : k0 P s o (s.put o.dst r)
section
variable {P : Program} {B : eS} {A : Nat → Prop} {s s' : aD} {ad : Nat → Nat} {a : Act} {w : World} {o : Oper} {Q : Exit → Act → World → Prop}
theorem dc.undef (U : Nat → Prop) : dc U ad w (.cZ []) undef := ⟨[], rfl, rfl, fun i x v h => by simp at h⟩
theorem Rel.look {x : Operand} {av : ai} (h : Rel B A s ad a w) (aa : s.look x = some av) : dc (s.free A ad) ad w av (a.eval x) := by
  cases x with
  | tmp t =>
    obtain ⟨v, h1, h2⟩ := h.gK t av aa;have : a.eval (.tmp t) = v := by simp [Act.eval, xq, h1]
    rw [this]; exact h2
  | const v =>
    simp only [aD.look] at aa
    split at aa
    · rename_i h1; cases aa; exact ⟨rfl, h1⟩
    · cases aa
  | global g => cases aa; exact ⟨rfl, rfl⟩
  | func f => cases aa; exact ⟨rfl, rfl⟩
theorem bP.cellAt {U : Nat → Prop} {W : World} {xs : List AC} {vs : List Value} {g : Nat} {ty : TypeId} (h : bP U ad W xs vs) (aw : W.heap[g]? = some (.cells vs.toArray ty (0, 0))) {i : Nat} {x : AC} (hi : xs[i]? = some x) :
    ∃ v, vs[i]? = some v ∧ W.cell? ⟨g, i, none⟩ = some v ∧ gm U ad W x v := by
  have bi : i < vs.length := by
    rw [← h.1];rcases iL i xs.length with q | q
    · exact q
    · rw [qL q] at hi; cases hi
  refine ⟨vs[i], cm bi, ?_, h.2 i x _ hi (cm bi)⟩;simp [World.cell?, aw, bi]
theorem bP.sub {U : Nat → Prop} {W : World} {xs : List AC} {vs : List Value} (h : bP U ad W xs vs) (off n : Nat) : bP U ad W ((xs.drop off).take n) ((vs.drop off).take n) := by
  refine ⟨by simp [h.1], fun i x v aa hv => ?_⟩;rw [List.getElem?_take] at aa hv
  split at aa
  · rename_i bi
    rw [if_pos bi] at hv;rw [gj] at aa hv;exact h.2 _ x v aa hv
  · cases aa
theorem bP.ey {U : Nat → Prop} {W : World} {xs ds : List AC} {vs us : List Value} (h : bP U ad W xs vs) (hd : bP U ad W ds us) (off : Nat) (ab : off + ds.length ≤ xs.length) : bP U ad W (ey xs off ds) (vs.take off ++ us ++ vs.drop (off + us.length)) := by
  have aI := h.1;have aN := hd.1;refine ⟨by simp [Proofs.YtpochbhajmbfdaaGreat.ey, aI, aN], fun i x v aa hv => ?_⟩;unfold Proofs.YtpochbhajmbfdaaGreat.ey at aa;have dl : (xs.take off).length = off := by simp; omega
  have Dj : (vs.take off).length = off := by simp; omega
  by_cases h1 : i < off
  · rw [ig, fV (by omega), fK h1] at aa
    rw [ig, fV (by omega), fK h1] at hv;exact h.2 i x v aa hv
  · by_cases h2 : i < off + ds.length
    · rw [ig, gr (by omega), fV (by omega), dl] at aa
      rw [ig, gr (by omega), fV (by omega), Dj] at hv;exact hd.2 _ x v aa hv
    · rw [gr (by simp; omega), gj] at aa hv
      simp only [cR, dl, Dj] at aa hv;rw [← aN] at hv;have e : off + ds.length + (i - (off + ds.length)) = i := by omega
      rw [e] at aa hv;exact h.2 i x v aa hv
theorem IE {ty : TypeId} {A : Addr} {v : Value} {d : TypeDesc} (hu : P.underlying ty = some d) (hs : ∀ bl, d ≠ .struct bl) (aK : ∀ n e, d ≠ .array n e) (ak : w.cell? A = some v) : (loadVar ty A).run P w = .ok v w := by
  have h1 : (isAgg ty).run P w = .ok false w := by
    unfold isAgg;simp only [Sem.run_bind, run_underlying hu, Result.andThen_ok];cases d <;> first | rfl | (exact absurd rfl (hs _)) | (exact absurd rfl (aK _ _))
  unfold loadVar;simp only [Sem.run_bind, h1, Result.andThen_ok, nG, if_false];simp [load, Sem.run, ak]
theorem hj {ty : TypeId} {i : TypeInfo} (hi : P.info? ty = some i) : (sizeOf ty).run P w = .ok i.size w := by
  simp [sizeOf, typeInfo, program, Sem.run_bind, Sem.run, hi, Result.andThen]
theorem ID {ty : TypeId} {A : Addr} {vs : List Value} {i : TypeInfo} {d : TypeDesc} (hu : P.underlying ty = some d) (hd : (∃ bl, d = .struct bl) ∨ ∃ n e, d = .array n e) (hi : P.info? ty = some i) (an : vs.length = i.size) (ak : ∀ j v, vs[j]? = some v → w.cell? (A.add j) = some v) :
    (loadVar ty A).run P w = .ok (.agg vs.toArray) w := by
  have h1 : (isAgg ty).run P w = .ok true w := by
    unfold isAgg;simp only [Sem.run_bind, run_underlying hu, Result.andThen_ok];rcases hd with ⟨bl, rfl⟩ | ⟨n, e, rfl⟩ <;> rfl
  unfold loadVar;simp only [Sem.run_bind, h1, Result.andThen_ok, if_true, hj hi, ← an, run_loadCells_list w A vs ak];rfl
end
section
variable {P : Program} {B : eS} {A : Nat → Prop} {s s' : aD} {ad : Nat → Nat} {a : Act} {w : World} {o : Oper} {Q : Exit → Act → World → Prop}
theorem Pv {U : Nat → Prop} {ty : TypeId} {cs : List AC} {off g : Nat} {av : bG} {vs : List Value} {t : TypeId} (hv : pick P ty cs off = some av) (aw : w.heap[g]? = some (.cells vs.toArray t (0, 0))) (an : bP U ad w cs vs) :
    ∃ v, (loadVar ty ⟨g, off, none⟩).run P w = .ok v w ∧ gx U ad w av v := by
  unfold pick at hv
  have key : ∀ d, P.underlying ty = some d → ((∃ bl, d = .struct bl) ∨ ∃ n e, d = .array n e) → ((P.info? ty).bind fun i => if off + i.size ≤ cs.length then some (bG.agg ((cs.drop off).take i.size)) else none) = some av → ∃ v, (loadVar ty ⟨g, off, none⟩).run P w = .ok v w ∧ gx U ad w av v := by
    intro d hu hd h;cases hi : P.info? ty with
    | none => rw [hi] at h; cases h
    | some i =>
      rw [hi] at h;simp only [j0] at h
      split at h
      · rename_i hle
        cases h;have hs := an.sub off i.size;have hlen : ((vs.drop off).take i.size).length = i.size := by have := an.1; simp; omega
        refine ⟨_, ID hu hd hi hlen (fun j v ae => ?_), _, rfl, hs⟩;have jT : j < i.size := by rw [← hlen]; exact (bS.1 ae).1
        rw [fK jT, gj] at ae;have kk : (⟨g, off, none⟩ : Addr).add j = ⟨g, off + j, none⟩ := by unfold Addr.add; split <;> simp_all
        rw [kk];simp only [World.cell?, aw];simpa using ae
      · cases h
  have HE : ∀ d, P.underlying ty = some d → (∀ bl, d ≠ .struct bl) → (∀ n e, d ≠ .array n e) → (cs[off]?).map bG.one = some av → ∃ v, (loadVar ty ⟨g, off, none⟩).run P w = .ok v w ∧ gx U ad w av v := by
    intro d hu h1 h2 h;cases aa : cs[off]? with
    | none => rw [aa] at h; cases h
    | some x =>
      rw [aa] at h;cases h;obtain ⟨v, q1, q2, b5⟩ := an.cellAt aw aa;exact ⟨v, IE hu h1 h2 q2, b5⟩
  cases hu : P.underlying ty with
  | none => rw [hu] at hv; cases hv
  | some d =>
    rw [hu] at hv;cases d <;> first | exact key _ hu (.inl ⟨_, rfl⟩) hv | exact key _ hu (.inr ⟨_, _, rfl⟩) hv | exact HE _ hu (fun _ h => by cases h) (fun _ _ h => by cases h) hv
theorem B0 {f : FuncId} {args : Array Value} (h : enters P f = true) : (callFunc f args).run P w = .ok (.enter f args) w := by
  unfold enters at h;cases au : P.funcs[f]? with
  | none => rw [au] at h; cases h
  | some fn =>
    rw [au] at h;simp only [dQ, bne_iff_ne, ne_eq] at h;obtain ⟨h1, h2⟩ := h;simp [callFunc, program, Sem.run_bind, Sem.run, au, Result.andThen, h2];intro ap;rw [ap] at h1;cases h1
def l3 (ro : Option Nat) : Fence := { Fence.wide with round := ro }
theorem Ub {ro : Option Nat} {n : Nat} {P : Program} {f : FuncId} {args : Array Value} {w : World} {R : Ending → World → Prop} (h : Calls P f args w R) : CallsIn (l3 ro) n P f args w R := callsIn_wide.2 h
theorem adS {ro : Option Nat} {n : Nat} {P : Program} {row : String} {args : Array Value} {w : World} {R : Value → World → Prop} (h : Rows P row args w R) : RowsIn (l3 ro) n P row args w R := fun c cs _ => by
  obtain ⟨v, w', aq, hs⟩ := h c cs;exact ⟨v, w', aq, stepsIn_wide.2 hs⟩
theorem xg {P : Program} {ad : Operand → Value} {o : Oper} {w w' : World} {x : Next} (h : (execOp ad o).run P w = .ok x w') (aa : ∀ d, x ≠ .defer d) : ∀ c, o.op ≠ .defer c := fun c ak => by
  simp only [execOp, ak, Sem.run_bind] at h;cases aq : (resolve ad c o.type).run P w with
  | ok d w2 => rw [aq] at h; simp only [Result.andThen_ok, Sem.run_pure, Result.ok.injEq] at h; exact aa d h.1.symm
  | halt r w2 => rw [aq] at h; simp [Result.andThen] at h
theorem Oper.Q8 {ro : Option Nat} {n : Nat} {P : Program} {o : Oper} {a : Act} {w : World} {K : Act → World → Prop} {Q : Exit → Act → World → Prop} (h : o.wp P a w K Q) (hd : ∀ c, o.op ≠ .defer c) : o.wpIn (l3 ro) n P a w K Q := by
  refine ⟨fun _ _ => trivial, ?_⟩;rw [Oper.semAt_eq _ _ _ hd];unfold Oper.wp at h;generalize (execOp a.eval o).run P w = r at *;have aF : (l3 ro).depth.isSome = true → 1 ≤ n := fun h => by simp [l3, Fence.wide] at h
  cases r with
  | ok x w' => cases x <;> first | exact h | exact ⟨aF, Ub h⟩ | exact ⟨aF, adS h⟩ | exact h.elim
  | halt x w' => cases x <;> exact h
def ka (P : Program) (c : Code) (Q : Exit → Act → World → Prop) (a : Act) (w : World) : Prop := ∀ ro, c.wpIn (l3 ro) 0 P Q a w
section
variable {P : Program} {Q Jy : Exit → Act → World → Prop} {a : Act} {w : World} {c x y : Code}
theorem ka.top (h : ka P c Q a w) : c.wp P Q a w := wpIn_wide.1 (h none)
theorem sL (h : ka P c Q a w) (al : ∀ e a w, Q e a w → Jy e a w) : ka P c Jy a w := fun ro => wpIn_mono (h ro) al
theorem Q4 (h : ka P x (Exit.then (ka P y Q) Q) a w) : ka P (.seq x y) Q a w := fun ro => wpIn_seq (wpIn_mono (h ro) fun e a w al => by cases e <;> first | exact al ro | exact al)
theorem Q5 (h : Q .normal a w) : ka P .skip Q a w := fun ro => wpIn_skip h
theorem QZ {id : Nat} (h : Q (.exit id) a w) : ka P (.exit id) Q a w := fun ro => wpIn_exit h
theorem Q3 (h : Q .ret a w) : ka P .ret Q a w := fun ro => wpIn_ret h
theorem QY {c : Operand} {t : Bool} (ak : a.eval c = .bool t) (h : ka P (if t then x else y) Q a w) : ka P (.cond c x y) Q a w := fun ro => wpIn_cond ak (h ro)
theorem QX {id : Nat} (h : ka P c (Exit.inBlock id Q) a w) : ka P (.block id c) Q a w := fun ro => wpIn_block (h ro)
theorem Q1 {id : Nat} {ops : Array Oper} (h : ∀ ro, wpOpsIn (l3 ro) 0 P ops Q (List.range ops.size) a w) : ka P (.region id ops false) Q a w := fun ro => wpIn_region (h ro)
theorem Q2 {id : Nat} {ops : Array Oper} (hm : P.follows .mixedOrders = true) (h : ∀ ro, wpAnyIn (l3 ro) 0 P .any ops Q ops.size (Array.replicate ops.size false) a { w with drawn := w.drawn + 1 }) : ka P (.region id ops true) Q a w := fun ro => wpIn_region_any hm (h ro)
end
theorem Oper.vF {v : Value} {w' : World} {next : Act → World → Prop} (h : (execOp a.eval o).run P w = .ok (.value v) w') (aF : next (a.put o.dst v) w') : o.wp P a w next Q := by
  unfold Oper.wp;rw [h];exact aF
theorem Rel.M2 {U : Nat → Prop} {x : ai} {v : Value} (ak : x.closed) (h : dc U ad w x v) : dc U id w x v := h.map (fun b ab _ => ⟨ab, rfl⟩) fun j ae => absurd ae (ak j)
theorem Qa {U : Nat → Prop} {v : Value} (h : Bx v = true) : dc U ad w (xi v) v := by
  cases v with
  | agg cs =>
    refine ⟨cs.toList, by simp, by simp, fun i x u aa hu => ?_⟩;rw [eD, hu] at aa;cases aa;exact ⟨rfl, cu.1 h u (dF hu)⟩
  | tuple vs => cases h
  | _ => exact ⟨rfl, rfl⟩
theorem k0.OC (h : k0 P s o s') (ay : Rel B A s ad a w) : ∀ c, o.op ≠ .defer c := by
  cases h with
  | quiet av al hd =>
    obtain ⟨v, h1, h2⟩ := al.run (s.free A ad) ad w a.eval (fun x aa b ab => ay.look ab);exact xg h1 (fun d h => by cases h)
  | fresh av al hd =>
    obtain ⟨v, W', h1, h2, ab⟩ := al.run (s.free A ad) ad w a.eval (fun x aa b ab => ay.look ab);exact xg h1 (fun d h => by cases h)
  | load ty x k off cs av ax => intro c ak; rw [ax] at ak; cases ak
  | store ty x y k off cs z i ax => intro c ak; rw [ax] at ak; cases ak
  | new cs d dt hm aF hd =>
    intro c ak;cases aF with
    | alloc ty i z cs ax => rw [ax] at ak; cases ak
    | box ty x z ax => rw [ax] at ak; cases ak
  | call f args r ak hp hd =>
    intro c ni;obtain ⟨⟨c', g, ax, _⟩, _⟩ := ak;rw [ax] at ni; cases ni
theorem k0.sound (h : k0 P s o s') (ay : Rel B A s ad a w) (ok : s.cN) : o.wp P a w (fun a' w' => ∃ bg, Rel B A s' bg a' w') Q := by
  cases h with
  | quiet av al hd =>
    obtain ⟨v, h1, h2⟩ := al.run (s.free A ad) ad w a.eval (fun x aa b ab => ay.look ab);exact Oper.vF h1 ⟨ad, ay.put hd h2⟩
  | fresh av al hd =>
    obtain ⟨v, W', h1, h2, ab⟩ := al.run (s.free A ad) ad w a.eval (fun x aa b ab => ay.look ab);refine Oper.vF h1 ⟨ad, (ay.call ab).put hd (h2.map (fun b c5 an => ⟨?_, rfl⟩) fun j ae => rfl)⟩;rcases c5 with h | h
    · exact h
    · refine ⟨ay.up b (ln ay.below.size h), fun k cs af e => ?_⟩
      have := ay.lt af;omega
  | load ty x k off cs av ax aa hm hv hd =>
    obtain ⟨vs, t, g1, g2, g3⟩ := ay.du k cs hm;obtain ⟨v, h1, h2⟩ := Pv hv g1 g2;have hp : a.eval x = .pointer (some ⟨ad k, off, none⟩) := ay.look aa;refine Oper.vF (v := v) (w' := w) ?_ ⟨ad, ay.put hd h2⟩;simp only [execOp, ax, Instr.loadAt, hp, Instr.sureAddr, Sem.run_bind, Sem.run_pure, Result.andThen_ok, h1]
  | store ty x y k off cs z i ax aa ag hm hi hs ab hd =>
    obtain ⟨vs, t, g1, g2, g3⟩ := ay.du k cs hm;have hp : a.eval x = .pointer (some ⟨ad k, off, none⟩) := ay.look aa;have a6 : gx (s.free A ad) ad w z (a.eval y) := ay.look ag;have ol := a6.cells;have u2 : (a.eval y).cells.size = z.cells.length := by have := ol.1; simp at this; exact this.symm
    have jx : (storeVar ty ⟨ad k, off, none⟩ (a.eval y)).run P w = .ok () (w.setRow (ad k) (vs.take off ++ (a.eval y).cells.toList ++ vs.drop (off + (a.eval y).cells.toList.length)).toArray) := by
      unfold storeVar;have cn : ¬ ((a.eval y).cells.size ≠ i.size) := by rw [u2, hs]; simp
      simp only [Sem.run_bind, hj hi, Result.andThen_ok, if_neg cn]
      have cX : ∀ v ∈ (a.eval y).cells.toList, v.oneCell' = true := fun v hv => by
        obtain ⟨j, ae⟩ := jX hv;have bi : j < z.cells.length := by rw [ol.1]; exact (bS.1 ae).1
        exact (ol.2 j _ v (cm bi) ae).cell
      have := run_storeCells_at (P := P) (ad k) off t (a.eval y).cells.toList 0 vs.toArray w g1 (by have := g2.1; simp; omega) cX;simpa using this
    have hrel := (Rel.set (k := k) (ds := ey cs off z.cells) (ay.put (dst := o.dst) hd (dc.undef _)) (by rw [aD.xb]; exact hm) (by rw [aD.V2]; exact g2.ey ol off ab));unfold Oper.wp
    have gp : (execOp a.eval o).run P w = .ok .skip (w.setRow (ad k) (vs.take off ++ (a.eval y).cells.toList ++ vs.drop (off + (a.eval y).cells.toList.length)).toArray) := by
      simp only [execOp, ax, Instr.storeAt, hp, Instr.sureAddr, Sem.run_bind, Sem.run_pure, Result.andThen_ok, jx]
    rw [gp];exact ⟨ad, hrel⟩
  | new cs d dt hm aF hd =>
    have main : ∀ (vs : List Value) (ty : TypeId), bP (s.free A ad) ad w cs vs → (∀ x ∈ cs, ∀ j, x.owns j → ∃ ar, s.mem j = some ar) → (execOp a.eval o).run P w = .ok (.value (.pointer (some ⟨w.heap.size, 0, none⟩))) (w.alloc (.cells vs.toArray ty)) →
        o.wp P a w (fun a' w' => ∃ bg, Rel B A ((s.dV d cs).put (some d) (.w (.one (.own d 0)))) bg a' w') Q := by
      intro vs ty an ee gp;refine Oper.vF gp ⟨fun k => if k = d then w.heap.size else ad k, ?_⟩;rw [dt];refine (ay.new ok hd hm an ee).put (fun d' e => by cases e; exact hd) ?_;show Value.pointer _ = Value.pointer _;simp
    cases aF with
    | alloc ty i z cs ax hi a6 ak h1 =>
      subst ak;refine main z.cells.toList ty ⟨by simp, fun j x v aa hv => ?_⟩ (fun x aa j ae => ?_) ?_
      · rw [eD, hv] at aa
        cases aa;exact ⟨rfl, cu.1 h1 v (dF hv)⟩
      · obtain ⟨v, _, rfl⟩ := hU.1 aa
        cases ae
      · have r4 : (zeroValue ty).run P w = .ok z w := by simp [zeroValue, typeInfo, program, Sem.run_bind, Sem.run, hi, Result.andThen, a6]
        simp only [execOp, ax, Instr.alloc, Sem.run_bind, r4, Result.andThen_ok, newVar, newRow, newObj, Sem.run];rfl
    | box ty x z ax aa =>
      have a6 : gx (s.free A ad) ad w z (a.eval x) := ay.look aa;refine main (a.eval x).cells.toList ty a6.cells (fun y ag j ae => ?_) ?_
      · cases x with
        | tmp t => exact ok.gK t _ j aa ⟨y, ag, ae⟩
        | const v =>
          simp only [aD.look] at aa
          split at aa
          · cases aa; simp [bG.cells] at ag; subst ag; cases ae
          · cases aa
        | global g => cases aa; simp [bG.cells] at ag; subst ag; cases ae
        | func g => cases aa; simp [bG.cells] at ag; subst ag; cases ae
      · simp only [execOp, ax, Instr.box, newVar, newRow, newObj, Sem.run_bind, Sem.run, Result.andThen_ok]
        rfl
  | call f args r ak hp hd =>
    obtain ⟨⟨c, g, ax, yO, aY⟩, yR⟩ := ak;have cQ : ∀ {y : Operand} {x : ai}, x ∈ args → s.look y = some x → dc (s.free A ad) id w x (a.eval y) := fun {y x} aa ag => Rel.M2 (ad := ad) (hp.jn x aa) (ay.look ag)
    obtain ⟨us, dH, gp⟩ : ∃ us : List Value, jO (s.free A ad) id w args us ∧ (execOp a.eval o).run P w = .ok (.enter f us.toArray) w := by
      rcases aY with ⟨bs, aw, n8, wP⟩ | ⟨cs, aw, n8⟩
      · have kl : a.eval g = .func (.func f) bs.toArray #[] := (ay.look aw).1
        refine ⟨bs ++ c.args.toList.map a.eval, ?_, ?_⟩
        · refine ⟨by have := congrArg List.length n8; simpa using this.symm, fun i x v aa hv => ?_⟩
          have h1 : (bs.map (fun b => some (xi b)) ++ c.args.toList.map s.look)[i]? = some (some x) := by rw [n8, eD, aa]; rfl
          rcases iL i bs.length with bi | ld
          · rw [fV (by simpa using bi), eD] at h1
            rw [fV bi] at hv;rw [hv] at h1;simp only [gH, hR] at h1;subst h1;exact Qa (cu.1 wP v (dF hv))
          · rw [gr (by simpa using ld), eD] at h1
            rw [gr ld, eD] at hv;simp only [lU] at h1;cases ag : c.args.toList[i - bs.length]? with
            | none => rw [ag] at hv; cases hv
            | some y =>
              rw [ag] at h1 hv;simp only [gH, hR] at h1 hv;subst hv;exact cQ (dF aa) h1
        · have e : bs.toArray ++ c.args.map a.eval ++ #[] = (bs ++ c.args.toList.map a.eval).toArray := by
            rw [Array.append_empty];apply Array.ext';simp
          simp only [execOp, ax, resolve, yO, Deferred.ofValue, kl];simp only [Sem.run_bind, Sem.run_pure, Result.andThen_ok, invoke];rw [e];exact B0 yR
      · obtain ⟨vs, kl, cO⟩ := oU.Uc (ad := ad) (ay.look aw)
        refine ⟨c.args.toList.map a.eval ++ vs, ?_, ?_⟩
        · refine ⟨by have := congrArg List.length n8; have h2 := cO.1; simp at this ⊢; omega, fun i x v aa hv => ?_⟩
          have h1 : (c.args.toList.map s.look ++ cs.map (fun x => some (.w (.one x))))[i]? = some (some x) := by rw [n8, eD, aa]; rfl
          rcases iL i c.args.toList.length with bi | ld
          · rw [fV (by simpa using bi), eD] at h1
            rw [fV (by simpa using bi), eD] at hv;cases ag : c.args.toList[i]? with
            | none => rw [ag] at hv; cases hv
            | some y =>
              rw [ag] at h1 hv;simp only [gH, hR] at h1 hv;subst hv;exact cQ (dF aa) h1
          · rw [gr (by simpa using ld), eD] at h1
            rw [gr (by simpa using ld)] at hv;simp only [lU] at h1 hv;cases ag : cs[i - c.args.toList.length]? with
            | none => rw [ag] at h1; cases h1
            | some y =>
              rw [ag] at h1;simp only [gH, hR] at h1;subst h1;exact cO.2 _ y v ag hv
        · have e : (#[] : Array Value) ++ c.args.map a.eval ++ vs.toArray = (c.args.toList.map a.eval ++ vs).toArray := by
            apply Array.ext';simp
          simp only [execOp, ax, resolve, yO, Deferred.ofValue, kl];simp only [Sem.run_bind, Sem.run_pure, Result.andThen_ok, invoke];rw [e];exact B0 yR
    unfold Oper.wp;rw [gp];refine (hp.call (s.free A ad) w _ dH).mono ?_;rintro e w' ⟨v, rfl, hv, ab⟩;refine ⟨ad, (ay.call ab).put hd (hv.map (fun b c5 an => ⟨?_, rfl⟩) fun j ae => absurd ae (hp.cf j))⟩;rcases c5 with h | h
    · exact h
    · refine ⟨ay.up b (ln ay.below.size h), fun k cs af e => ?_⟩
      have := ay.lt af;omega
end
def afk : ai := .cZ []
def want (ops : Array Oper) (o : Oper) (s : aD) : Option Bool :=
  match o.guard with
  | none => some true
  | some (g, b) =>
    match (ops[g]?).bind (·.dst) with
    | some d => match s.tmps d with
      | some (.w (.one (.c (.bool x)))) => some (some x == some b)
      | some (.cZ _) => some false
      | _ => none
    | none => none
def lP (o : Oper) : Nat :=
  match o.op with
  | .load .. => 1
  | .store .. => 2
  | _ => 0
def ve (x y : Oper) : Bool := !(lP x == 2 && lP y != 0) && !(lP x != 0 && lP y == 2)
def addrOf (o : Oper) : Option Operand :=
  match o.op with
  | .load _ x => some x
  | .store _ x _ => some x
  | _ => none
def ya : ai → ai → Bool
  | .w (.one (.own k _)), .w (.one (.own j _)) => !Nat.beq k j
  | .w (.one (.own _ _)), .w (.one (.p _)) => true
  | .w (.one (.p _)), .w (.one (.own _ _)) => true
  | _, _ => false
theorem Fo {k j o p : Nat} (h : ya (.w (.one (.own k o))) (.w (.one (.own j p))) = true) : k ≠ j := fun e => by
  subst e;simp [ya, Nat.beq_refl] at h
def xR (s : aD) (x y : Oper) : Prop := ve x y = true ∨ ∃ a b u v, addrOf x = some a ∧ addrOf y = some b ∧ s.look a = some u ∧ s.look b = some v ∧ ya u v = true
section
variable {P : Program} {B : eS} {A : Nat → Prop} {s s1 s2 s' : aD} {ad : Nat → Nat} {a : Act} {w : World} {o bm bk : Oper} {ops : Array Oper}
theorem NR {x : Operand} {dst : Option Nat} {v : ai} (h : ∀ d, dst = some d → x ≠ .tmp d) : (s.put dst v).look x = s.look x := by
  cases dst with
  | none => rfl
  | some d =>
    cases x with
    | tmp t => simp only [aD.look, aD.put]; exact cj _ _ (fun e => h d rfl (by rw [e]))
    | _ => rfl
theorem aaf {x : Operand} {k : Nat} {cs : List AC} : (s.dV k cs).look x = s.look x := by cases x <;> rfl
theorem vN.congr {look gi : Operand → Option ai} {av : ai} (h : vN P look o av) (e : ∀ x ∈ o.op.operands, gi x = look x) : vN P gi o av :=
  ⟨h.aee, fun x aa => by rw [e x aa]; exact h.ops x aa, fun U ad W env he => h.run U ad W env fun x aa a aK => he x aa a (by rw [e x aa]; exact aK), fun j ae => by
    obtain ⟨x, aa, a, aK, W6⟩ := h.own j ae;exact ⟨x, aa, a, by rw [e x aa]; exact aK, W6⟩⟩
theorem vJ.congr {look gi : Operand → Option ai} {av : ai} (h : vJ P look o av) (e : ∀ x ∈ o.op.operands, gi x = look x) : vJ P gi o av :=
  ⟨fun x aa => by rw [e x aa]; exact h.ops x aa, h.pa, fun U ad W env he => h.run U ad W env fun x aa a aK => he x aa a (by rw [e x aa]; exact aK)⟩
theorem uk.congr {look gi : Operand → Option ai} {cs : List AC} (h : uk P look o cs) (e : ∀ x ∈ o.op.operands, gi x = look x) : uk P gi o cs := by
  cases h with
  | alloc ty i z cs ax hi a6 ak h1 => exact .alloc ty i z cs ax hi a6 ak h1
  | box ty x z ax aa => exact .box ty x z ax (by rw [e x (by simp [ax, Op.operands])]; exact aa)
theorem sP.congr {look gi : Operand → Option ai} {f : FuncId} {args : List ai} (h : sP P look o f args) (e : ∀ x ∈ o.op.operands, gi x = look x) : sP P gi o f args := by
  obtain ⟨⟨c, g, ax, ak, aY⟩, he⟩ := h;have K9 : gi g = look g := e g (by simp [ax, Op.operands, Call.operands, ak]);have h3 : c.args.toList.map gi = c.args.toList.map look := pG fun x aa => e x (by simp [ax, Op.operands, Call.operands, ak]; exact .inr (by simpa using aa));refine ⟨⟨c, g, ax, ak, ?_⟩, he⟩;rcases aY with ⟨bs, aw, aK, ab⟩ | ⟨cs, aw, aK⟩
  · exact .inl ⟨bs, by rw [K9]; exact aw, by rw [h3]; exact aK, ab⟩
  · exact .inr ⟨cs, by rw [K9]; exact aw, by rw [h3]; exact aK⟩
theorem aD.put_comm (s : aD) {x y : Option Nat} (v u : ai) (h : ∀ d, x = some d → y ≠ some d) : (s.put x v).put y u = (s.put y u).put x v := by
  cases x with
  | none => rfl
  | some d =>
    cases y with
    | none => rfl
    | some e =>
      have cn : e ≠ d := fun he => h d rfl (by rw [he]);simp only [aD.put];rw [QP _ _ _ cn]
theorem aD.xn (s : aD) (x : Option Nat) (v : ai) (k : Nat) (cs : List AC) : (s.put x v).dV k cs = (s.dV k cs).put x v := by cases x <;> rfl
theorem aD.aeg (s : aD) {k j : Nat} (cs ds : List AC) (h : j ≠ k) : (s.dV k cs).dV j ds = (s.dV j ds).dV k cs := by
  simp only [aD.dV];rw [QP _ _ _ h]
structure ck where
  v : ai
  m : Option (Nat × List AC)
def ck.on (e : ck) (dst : Option Nat) (s : aD) : aD :=
  match e.m with
  | some (k, cs) => (s.dV k cs).put dst e.v
  | none => s.put dst e.v
inductive eQ (P : Program) (n : Nat) (look : Operand → Option ai) (mem : Nat → Option (List AC)) (o : Oper) : Bool → ck → Prop
  | skip : eQ P n look mem o false ⟨.cZ [], none⟩
  | quiet (av : ai) (al : vN P look o av) : eQ P n look mem o true ⟨av, none⟩
  | fresh (av : ai) (al : vJ P look o av) : eQ P n look mem o true ⟨av, none⟩
  | load (ty : TypeId) (x : Operand) (k off : Nat) (cs : List AC) (av : bG) (ax : o.op = .load ty x) (aa : look x = some (.w (.one (.own k off)))) (hm : mem k = some cs) (hv : pick P ty cs off = some av) : eQ P n look mem o true ⟨.w av, none⟩
  | store (ty : TypeId) (x y : Operand) (k off : Nat) (cs : List AC) (z : bG) (i : TypeInfo) (ax : o.op = .store ty x y) (aa : look x = some (.w (.one (.own k off)))) (ag : look y = some (.w z)) (hm : mem k = some cs) (hi : P.info? ty = some i) (hs : i.size = z.cells.length) (ab : off + z.cells.length ≤ cs.length) : eQ P n look mem o true ⟨.cZ [], some (k, ey cs off z.cells)⟩
  | new (cs : List AC) (d : Nat) (dt : o.dst = some d) (hm : mem d = none) (aF : uk P look o cs) : eQ P n look mem o true ⟨.w (.one (.own d 0)), some (d, cs)⟩
  | call (f : FuncId) (args : List ai) (r : ai) (ak : sP P look o f args) (hp : aX P f args r) : eQ P n look mem o true ⟨r, none⟩
theorem eQ.step {e : ck} (h : eQ P s.n s.look s.mem o true e) (hd : ∀ d, o.dst = some d → d < s.n) : k0 P s o (e.on o.dst s) := by
  cases h with
  | quiet av al => exact .quiet av al hd
  | fresh av al => exact .fresh av al hd
  | load ty x k off cs av ax aa hm hv => exact .load ty x k off cs av ax aa hm hv hd
  | store ty x y k off cs z i ax aa ag hm hi hs ab =>
    have := k0.store (P := P) (s := s) ty x y k off cs z i ax aa ag hm hi hs ab hd;rw [aD.xn] at this;exact this
  | new cs d dt hm aF =>
    have := k0.new (P := P) (s := s) cs d dt hm aF (hd d dt);rw [← dt] at this;exact this
  | call f args r ak hp => exact .call f args r ak hp hd
theorem ck.qG (e : ck) (dst : Option Nat) (s : aD) : (e.on dst s).mem = match e.m with | some (k, cs) => bM s.mem k cs | none => s.mem := by
  unfold ck.on
  split
  · rename_i h; rw [aD.xb]; simp [aD.dV]
  · rename_i h; rw [aD.xb]
theorem ck.qF (e : ck) (dst : Option Nat) (s : aD) {x : Operand} (h : ∀ d, dst = some d → x ≠ .tmp d) : (e.on dst s).look x = s.look x := by
  unfold ck.on
  split
  · rw [NR h, aaf]
  · rw [NR h]
theorem ck.tS (e : ck) (dst : Option Nat) (s : aD) : (e.on dst s).n = s.n := by
  unfold ck.on
  split
  · rw [aD.sf]; rfl
  · rw [aD.sf]
theorem ck.zS (e f : ck) (x y : Option Nat) (s : aD) (h : ∀ d, x = some d → y ≠ some d) (af : ∀ k cs j ds, e.m = some (k, cs) → f.m = some (j, ds) → j ≠ k) : f.on y (e.on x s) = e.on x (f.on y s) := by
  unfold ck.on;cases he : e.m with
  | none =>
    cases au : f.m with
    | none => simp only [he, au]; exact aD.put_comm s _ _ h
    | some q => obtain ⟨j, ds⟩ := q; simp only [he, au]; rw [aD.xn]; exact aD.put_comm _ _ _ h
  | some p =>
    obtain ⟨k, cs⟩ := p;cases au : f.m with
    | none => simp only [he, au]; rw [aD.xn]; exact aD.put_comm _ _ _ h
    | some q =>
      obtain ⟨j, ds⟩ := q;simp only [he, au];rw [aD.xn, aD.xn, aD.aeg s _ _ (af k cs j ds he au)];exact aD.put_comm _ _ _ h
theorem tH {x : Operand} {d : Nat} {y : Oper} (h : d ∉ y.looksAt ops) (aa : x ∈ y.op.operands) : x ≠ .tmp d := fun e => h (by
  subst e;exact List.mem_append_left _ (List.mem_filterMap.2 ⟨.tmp d, by simpa using aa, rfl⟩))
theorem eQ.swap {b c : Bool} {e f : ck} (ok : s.cN) (he : eQ P s.n s.look s.mem bm b e) (au : eQ P (e.on bm.dst s).n (e.on bm.dst s).look (e.on bm.dst s).mem bk c f) (pq : bm.apart ops bk = true) (l9 : xR s bm bk) :
    eQ P s.n s.look s.mem bk c f ∧ eQ P (f.on bk.dst s).n (f.on bk.dst s).look (f.on bk.dst s).mem bm b e ∧ f.on bk.dst (e.on bm.dst s) = e.on bm.dst (f.on bk.dst s) := by
  obtain ⟨a1, a2, a3⟩ := Oper.apart_spec pq;have mg : ∀ x ∈ bk.op.operands, (e.on bm.dst s).look x = s.look x := fun x aa => ck.qF _ _ _ fun d hd => tH (a1 d hd) aa;have cM := ck.qG e bm.dst s
 
  have uS : ∀ k cs, e.m = some (k, cs) → (∃ ar, s.mem k = some ar) ∨ s.mem k = none := fun k cs _ => by
    cases h : s.mem k with
    | none => exact .inr rfl
    | some c => exact .inl ⟨c, rfl⟩
  have O4 : ∀ x k off, s.look x = some (.w (.one (.own k off))) → ∃ cs, s.mem k = some cs := fun x k off aa => by
    cases x with
    | tmp t => exact ok.gK t _ k aa ⟨.own k off, by simp [bG.cells], rfl⟩
    | const v => simp only [aD.look] at aa; split at aa <;> cases aa
    | global g => cases aa
    | func g => cases aa
 
  have Ob : ∀ x k off, addrOf bk = some x → lP bk ≠ 0 → s.look x = some (.w (.one (.own k off))) → (e.on bm.dst s).mem k = s.mem k := by
    intro x k off Gx GP aa;rw [cM];cases he with
    | skip => rfl
    | quiet av al => rfl
    | fresh av al => rfl
    | load => rfl
    | call => rfl
    | store ty x' y' k' OS cs z i ax kp ag hm hi hs ab =>
      rcases l9 with l9 | ⟨a, b, q, p, aK, c5, h3, lF, cn⟩
      · exfalso
        have : lP bm = 2 := by simp [lP, ax]
        simp [ve, this, GP] at l9
      · simp only [addrOf, ax, hR] at aK
        subst aK;rw [kp] at h3;cases h3;rw [Gx] at c5;cases c5;rw [aa] at lF;cases lF;show bM s.mem k' _ k = s.mem k;exact cj _ _ (Ne.symm (Fo cn))
    | new cs d dt hm aF =>
      obtain ⟨c, ak⟩ := O4 x k off aa;show bM s.mem d cs k = s.mem k;exact cj _ _ (fun e => by subst e; rw [hm] at ak; cases ak)
  have lJ : eQ P s.n s.look s.mem bk c f := by
    cases au with
    | skip => exact .skip
    | quiet av al => exact .quiet av (al.congr fun x aa => (mg x aa).symm)
    | fresh av al => exact .fresh av (al.congr fun x aa => (mg x aa).symm)
    | load ty x k off cs av ax aa hm hv =>
      have kp : s.look x = some (.w (.one (.own k off))) := by rw [← mg x (by simp [ax, Op.operands])]; exact aa
      exact .load ty x k off cs av ax kp (by rw [← Ob x k off (by simp [addrOf, ax]) (by simp [lP, ax]) kp]; exact hm) hv
    | store ty x y k off cs z i ax aa ag hm hi hs ab =>
      have kp : s.look x = some (.w (.one (.own k off))) := by rw [← mg x (by simp [ax, Op.operands])]; exact aa
      exact .store ty x y k off cs z i ax kp (by rw [← mg y (by simp [ax, Op.operands])]; exact ag) (by rw [← Ob x k off (by simp [addrOf, ax]) (by simp [lP, ax]) kp]; exact hm) hi hs ab
    | new cs d dt hm aF =>
      refine .new cs d dt ?_ (aF.congr fun x aa => (mg x aa).symm);rw [cM] at hm;cases l8 : e.m with
      | none => rw [l8] at hm; exact hm
      | some p =>
        obtain ⟨k, c⟩ := p;rw [l8] at hm
        by_cases gU : d = k
        · subst gU
          change bM s.mem d c d = none at hm
          rw [cr] at hm;cases hm
        · change bM s.mem k c d = none at hm
          rwa [cj _ _ gU] at hm
    | call g args r ak hp => exact .call g args r (ak.congr fun x aa => (mg x aa).symm) hp
  have kS : ∀ x ∈ bm.op.operands, (f.on bk.dst s).look x = s.look x := fun x aa => ck.qF _ _ _ fun d hd => tH (a3 d hd) aa;have N6 := ck.qG f bk.dst s
  have GG : eQ P (f.on bk.dst s).n (f.on bk.dst s).look (f.on bk.dst s).mem bm b e := by
    have N9 : ∀ x k off, addrOf bm = some x → lP bm ≠ 0 → s.look x = some (.w (.one (.own k off))) → (f.on bk.dst s).mem k = s.mem k := by
      intro x k off Gx GP aa;rw [N6];cases lJ with
      | skip => rfl
      | quiet av al => rfl
      | fresh av al => rfl
      | load => rfl
      | call => rfl
      | store ty x' y' k' OS cs z i ax kp ag hm hi hs ab =>
        rcases l9 with l9 | ⟨a, b, q, p, aK, c5, h3, lF, cn⟩
        · exfalso
          have : lP bk = 2 := by simp [lP, ax]
          simp [ve, this, GP] at l9
        · simp only [addrOf, ax, hR] at c5
          subst c5;rw [kp] at lF;cases lF;rw [Gx] at aK;cases aK;rw [aa] at h3;cases h3;show bM s.mem k' _ k = s.mem k;exact cj _ _ (Fo cn)
      | new cs d dt hm aF =>
        obtain ⟨c, ak⟩ := O4 x k off aa;show bM s.mem d cs k = s.mem k;exact cj _ _ (fun e => by subst e; rw [hm] at ak; cases ak)
    cases he with
    | skip => exact .skip
    | quiet av al => exact .quiet av (al.congr fun x aa => kS x aa)
    | fresh av al => exact .fresh av (al.congr fun x aa => kS x aa)
    | load ty x k off cs av ax aa hm hv => exact .load ty x k off cs av ax (by rw [kS x (by simp [ax, Op.operands])]; exact aa) (by rw [N9 x k off (by simp [addrOf, ax]) (by simp [lP, ax]) aa]; exact hm) hv
    | store ty x y k off cs z i ax aa ag hm hi hs ab => exact .store ty x y k off cs z i ax (by rw [kS x (by simp [ax, Op.operands])]; exact aa) (by rw [kS y (by simp [ax, Op.operands])]; exact ag) (by rw [N9 x k off (by simp [addrOf, ax]) (by simp [lP, ax]) aa]; exact hm) hi hs ab
    | new cs d dt hm aF =>
      refine .new cs d dt ?_ (aF.congr fun x aa => kS x aa);rw [N6];cases lJ with
      | skip => exact hm
      | quiet av al => exact hm
      | fresh av al => exact hm
      | load => exact hm
      | call => exact hm
      | store ty x' y' k' OS ar z i ax kp ag fR hi hs ab =>
        show bM s.mem k' _ d = none;rw [cj _ _ (fun e => by subst e; rw [hm] at fR; cases fR)];exact hm
      | new ar d' Xt fR GY =>
        show bM s.mem d' _ d = none;rw [cj _ _ (fun e => a2 d dt (by rw [Xt, e]))];exact hm
    | call g args r ak hp => exact .call g args r (ak.congr fun x aa => kS x aa) hp
  refine ⟨lJ, GG, ck.zS e f bm.dst bk.dst s a2 ?_⟩;intro k cs j ds h1 h2 Vl;subst Vl;cases he with
  | skip => cases h1
  | quiet => cases h1
  | fresh => cases h1
  | load => cases h1
  | call => cases h1
  | store ty x y k' off ar z i ax aa ag hm hi hs ab =>
    cases h1;cases lJ with
    | skip => cases h2
    | quiet => cases h2
    | fresh => cases h2
    | load => cases h2
    | call => cases h2
    | store aff dq q3 b9 abz s5 z2 i2 wW Hm =>
      cases h2;rcases l9 with l9 | ⟨a, b, q, p, aK, c5, h3, lF, cn⟩
      · simp [ve, lP, ax, wW] at l9
      · simp only [addrOf, ax, wW, hR] at aK c5
        subst aK;subst c5;rw [aa] at h3;rw [Hm] at lF;cases h3;cases lF;exact Fo cn rfl
    | new s5 d2 Me nl GZ => cases h2; rw [nl] at hm; cases hm
  | new ar d dt hm aF =>
    cases h1;cases lJ with
    | skip => cases h2
    | quiet => cases h2
    | fresh => cases h2
    | load => cases h2
    | call => cases h2
    | store aff dq q3 b9 abz s5 z2 i2 wW Hm zk nl => cases h2; rw [nl] at hm; cases hm
    | new s5 d2 Me nl GZ => cases h2; exact a2 _ dt Me
end
section
variable {P : Program} {B : eS} {A : Nat → Prop} {s s1 s2 s' : aD} {ad : Nat → Nat} {a : Act} {w : World} {o bm bk : Oper} {ops : Array Oper} {md : Region.Mode}
theorem look_ok {x : Operand} {av : ai} {j : Nat} (ok : s.cN) (aa : s.look x = some av) (ae : av.owns j) : ∃ cs, s.mem j = some cs := by
  have none : ∀ v, ¬ (ai.w (.one (.c v))).owns j := fun v ⟨y, ag, h⟩ => by simp [bG.cells] at ag; subst ag; cases h
  cases x with
  | tmp t => exact ok.gK t av j aa ae
  | const v =>
    simp only [aD.look] at aa
    split at aa
    · cases aa; exact absurd ae (none _)
    · cases aa
  | global g => cases aa; exact absurd ae (none _)
  | func g => cases aa; exact absurd ae (none _)
theorem aD.cN.put {dst : Option Nat} {av : ai} (ok : s.cN) (h : ∀ j, av.owns j → ∃ cs, s.mem j = some cs) : (s.put dst av).cN := by
  cases dst with
  | none => exact ok
  | some d =>
    refine ⟨fun t bv j aE ae => ?_, ok.du⟩;simp only [aD.put] at aE ⊢
    by_cases e : t = d
    · subst e; rw [cr] at aE; cases aE; exact h j ae
    · rw [cj _ _ e] at aE; exact ok.gK t bv j aE ae
theorem aD.cN.dV {k : Nat} {cs : List AC} (ok : s.cN) (h : ∀ x ∈ cs, ∀ j, x.owns j → ∃ ar, s.mem j = some ar) : (s.dV k cs).cN := by
  have up : ∀ j, (∃ c, s.mem j = some c) → ∃ c, (s.dV k cs).mem j = some c := fun j ⟨c, ak⟩ => by
    by_cases e : j = k
    · exact ⟨cs, by rw [e]; exact cr _ _ _⟩
    · exact ⟨c, by simp only [aD.dV]; rw [cj _ _ e]; exact ak⟩
  refine ⟨fun t bv j aE ae => up j (ok.gK t bv j aE ae), fun k' c x j af aa ae => up j ?_⟩;simp only [aD.dV] at af
  by_cases e : k' = k
  · subst e; rw [cr] at af; cases af; exact h x aa j ae
  · rw [cj _ _ e] at af; exact ok.du k' c x j af aa ae
theorem ac3 {ty : TypeId} {cs : List AC} {off : Nat} {av : bG} (h : pick P ty cs off = some av) : ∀ x ∈ av.cells, x ∈ cs := by
  unfold pick at h
  split at h
  · cases hi : P.info? ty with
    | none => rw [hi] at h; cases h
    | some i =>
      rw [hi] at h;simp only [j0] at h
      split at h
      · cases h; exact fun x aa => mO (oM aa)
      · cases h
  · cases hi : P.info? ty with
    | none => rw [hi] at h; cases h
    | some i =>
      rw [hi] at h;simp only [j0] at h
      split at h
      · cases h; exact fun x aa => mO (oM aa)
      · cases h
  · cases aa : cs[off]? with
    | none => rw [aa] at h; cases h
    | some y => rw [aa] at h; cases h; intro x kp; simp [bG.cells] at kp; subst kp; exact dF aa
  · cases h
theorem k0.ok (h : k0 P s o s') (ok : s.cN) : s'.cN := by
  cases h with
  | quiet av al hd =>
    refine ok.put fun j ae => ?_;obtain ⟨x, aa, b, ab, Xe⟩ := al.own j ae;exact look_ok ok ab Xe
  | fresh av al hd => exact ok.put fun j ae => absurd ae (al.pa j)
  | load ty x k off cs av ax aa hm hv hd =>
    refine ok.put fun j ae => ?_;obtain ⟨y, ag, lM⟩ := ae;exact ok.du k cs y j hm (ac3 hv y ag) lM
  | store ty x y k off cs z i ax aa ag hm hi hs ab hd =>
    rw [aD.xn];refine aD.cN.put (ok.dV fun x aa j ae => ?_) fun j ae => (by obtain ⟨y, ag, _⟩ := ae; cases ag);unfold ey at aa;simp only [kt] at aa;rcases aa with (h1 | h1) | h1
    · exact ok.du k cs x j hm (oM h1) ae
    · exact look_ok ok ag ⟨x, h1, ae⟩
    · exact ok.du k cs x j hm (mO h1) ae
  | new cs d dt hm aF hd =>
    refine aD.cN.put (ok.dV fun x aa j ae => ?_) fun j ae => ?_
    · cases aF with
      | alloc ty i z cs ax hi a6 ak h1 => subst ak; obtain ⟨v, _, rfl⟩ := hU.1 aa; cases ae
      | box ty y z ax ag => exact look_ok ok ag ⟨x, aa, ae⟩
    · obtain ⟨y, ag, lM⟩ := ae
      simp [bG.cells] at ag;subst ag;cases lM;exact ⟨cs, cr _ _ _⟩
  | call f args r ak hp hd => exact ok.put fun j ae => absurd ae (hp.cf j)
def rr (P : Program) (ops : Array Oper) (o : Oper) (K : aD → Prop) (s : aD) : Prop :=
  ∃ b, want ops o s = some b ∧ ∃ e, eQ P s.n s.look s.mem o b e ∧ (∀ d, o.dst = some d → d < s.n) ∧ K (e.on o.dst s)
def x0 (P : Program) (md : Region.Mode) (ops : Array Oper) (K : aD → Prop) : Nat → Array Bool → aD → Prop
  | 0, bw, s => Region.ready md ops bw = [] ∧ K s
  | fa + 1, bw, s => (Region.ready md ops bw = [] → K s) ∧
    ∀ i ∈ Region.ready md ops bw, ∀ o, ops[i]? = some o → rr P ops o (x0 P md ops K fa (bw.setIfInBounds i true)) s
theorem Q6 {b : Bool} (h : want ops o s = some b) (ay : Rel B A s ad a w) : Region.wanted o (yielded ops a.tmps) = b := by
  unfold want at h;unfold Region.wanted
  split at h
  · rename_i aw; rw [aw]; cases h; rfl
  · rename_i g bK aw
    rw [aw]
    split at h
    · rename_i d hd
      split at h
      · rename_i x aa
        cases h;obtain ⟨v, h1, h2⟩ := ay.gK d _ aa;obtain ⟨rfl, _⟩ := h2;simp [yielded, hd, h1]
      · rename_i xs aa
        cases h;obtain ⟨v, h1, h2⟩ := ay.gK d _ aa;obtain ⟨vs, rfl, _⟩ := h2;simp [yielded, hd, h1]
      · cases h
    · cases h
theorem yq {b : Bool} {e : ck} (ok : s.cN) (he : eQ P s.n s.look s.mem o b e) (hd : ∀ d, o.dst = some d → d < s.n) : (e.on o.dst s).cN := by
  cases b with
  | true => exact (he.step hd).ok ok
  | false => cases he; exact ok.put fun j ae => (by obtain ⟨y, ag, _⟩ := ae; cases ag)
theorem J0 {ro : Option Nat} {K : aD → Prop} {iu : Act → World → Prop} {Q : Exit → Act → World → Prop} {i : Nat} (hi : ops[i]? = some o) (ok : s.cN) (ay : Rel B A s ad a w) (h : rr P ops o K s)
    (dT : ∀ s' bg a' w', s'.cN → Rel B A s' bg a' w' → K s' → iu a' w') : wpOpIn (l3 ro) 0 P ops Q i iu a w := by
  obtain ⟨b, hw, e, he, hd, af⟩ := h;have oi := Q6 hw ay;unfold wpOpIn;simp only [hi];cases b with
  | true =>
    rw [oi];simp only [if_true];have dB := (he.step hd).ok ok;exact Oper.Q8 (Oper.wp_mono (fun a' w' ⟨bg, aq⟩ => dT _ bg a' w' dB aq af) (k0.sound (he.step hd) ay ok)) ((he.step hd).OC ay)
  | false =>
    rw [oi];simp only [nG, if_false];cases he;exact ⟨fun _ _ => trivial, dT _ ad _ _ (ok.put fun j ae => (by obtain ⟨y, ag, _⟩ := ae; cases ag)) (ay.put hd (dc.undef _)) af⟩
theorem JX {ro : Option Nat} {K : aD → Prop} {Q : Exit → Act → World → Prop} (lc : ∀ s' bg a' w', s'.cN → Rel B A s' bg a' w' → K s' → Q .normal a' w') : ∀ (fa : Nat) (bw : Array Bool) (s : aD) (ad : Nat → Nat) (a : Act) (w : World), s.cN → Rel B A s ad a w →
    x0 P md ops K fa bw s → wpAnyIn (l3 ro) 0 P md ops Q fa bw a w
  | 0, _, _, _, _, _, ok, ay, h => ⟨h.1, lc _ _ _ _ ok ay h.2⟩
  | fa + 1, bw, s, ad, a, w, ok, ay, h => ⟨fun aG => lc _ _ _ _ ok ay (h.1 aG), fun i hi => by
      obtain ⟨aG, o, ax, _⟩ := mem_ready.1 hi;exact J0 ax ok ay (h.2 i hi o ax) fun s' bg a' w' dB cw af => JX lc fa _ s' bg a' w' dB cw af⟩
theorem xF {b : Option Bool} {e : ck} {dst : Option Nat} (an : ∀ d, dst = some d → d ∉ o.looksAt ops) : want ops o (e.on dst s) = want ops o s := by
  have aE : ∀ d, (∀ d', dst = some d' → d ≠ d') → (e.on dst s).tmps d = s.tmps d := fun d h => by
    have := ck.qF e dst s (x := .tmp d) (fun d' rS bu => h d' rS (by cases bu; rfl));exact this
  unfold want;cases aw : o.guard with
  | none => rfl
  | some p =>
    obtain ⟨g, bK⟩ := p;simp only;cases hd : (ops[g]?).bind (·.dst) with
    | none => rfl
    | some d =>
      simp only
      rw [aE d (fun d' rS bu => an d' rS (by
        subst bu;unfold Oper.looksAt;rw [aw];exact List.mem_append_right _ (by simp [hd])))]
theorem SE {b : Bool} {e : ck} {K : aD → Prop} (ok : s.cN) (hw : want ops bm s = some b) (he : eQ P s.n s.look s.mem bm b e) (tu : ∀ d, bm.dst = some d → d < s.n) (pq : bm.apart ops bk = true) (l9 : xR s bm bk) (h : rr P ops bk K (e.on bm.dst s)) :
    rr P ops bk (fun t => (want ops bm t = some b ∧ eQ P t.n t.look t.mem bm b e ∧ (∀ d, bm.dst = some d → d < t.n) ∧ t.cN) ∧ K (e.on bm.dst t)) s := by
  obtain ⟨a1, a2, a3⟩ := Oper.apart_spec pq;obtain ⟨c, r1, f, au, qq, af⟩ := h;obtain ⟨h1, h2, ap⟩ := eQ.swap ok he au pq l9;rw [xF (b := none) a1] at r1;have uO : ∀ d, bk.dst = some d → d < s.n := fun d hd => by have := qq d hd; rwa [ck.tS] at this
  refine ⟨c, r1, f, h1, uO, ⟨?_, h2, fun d hd => by rw [ck.tS]; exact tu d hd, yq ok h1 uO⟩, by rw [← ap]; exact af⟩;rw [xF (b := none) a3];exact hw
theorem SD {K iu : aD → Prop} (h : ∀ s, K s → iu s) (aY : rr P ops o K s) : rr P ops o iu s :=
  let ⟨b, h1, e, h2, ap, aL⟩ := aY
  ⟨b, h1, e, h2, ap, h _ aL⟩
def o3 (ops : Array Oper) (bw : Array Bool) (x y : Oper) (s : aD) : Prop :=
  ve x y = true ∨ ∃ t u o p, addrOf x = some (.tmp t) ∧ addrOf y = some (.tmp u) ∧ s.tmps t = some o ∧ s.tmps u = some p ∧ ya o p = true ∧
    ∀ i bm, ops[i]? = some bm → bw.getD i true = false → bm.dst ≠ some t ∧ bm.dst ≠ some u
theorem o3.sep {bw : Array Bool} (h : o3 ops bw bm bk s) : xR s bm bk := by
  rcases h with h | ⟨t, u, o, p, h1, h2, ap, aL, dx, _⟩
  · exact .inl h
  · exact .inr ⟨_, _, o, p, h1, h2, ap, aL, dx⟩
theorem ck.xj {e : ck} {dst : Option Nat} {t : Nat} (h : dst ≠ some t) : (e.on dst s).tmps t = s.tmps t := by
  have := ck.qF e dst s (x := .tmp t) (fun d hd bu => by cases bu; exact h hd);exact this
theorem o3.on {bw : Array Bool} {f : ck} {o : Oper} {i : Nat} (h : o3 ops bw bm bk s) (ax : ops[i]? = some o) (h8 : bw.getD i true = false) : o3 ops (bw.setIfInBounds i true) bm bk (f.on o.dst s) := by
  rcases h with h | ⟨t, u, q, p, h1, h2, ap, aL, dx, gd⟩
  · exact .inl h
  · obtain ⟨hP, iI⟩ := gd i o ax h8
    refine .inr ⟨t, u, q, p, h1, h2, by rw [ck.xj hP]; exact ap, by rw [ck.xj iI]; exact aL, dx, fun ft fu gB tE => gd ft fu gB ?_⟩
    by_cases e : i = ft
    · subst e; exact h8
    · rwa [getD_set_ne true e] at tE
theorem SF {b : Bool} {e : ck} {K : aD → Prop} (ok : s.cN) (hw : want ops bm s = some b) (he : eQ P s.n s.look s.mem bm b e) (tu : ∀ d, bm.dst = some d → d < s.n) (pq : bm.apart ops bk = true) (l9 : xR s bm bk) (h : rr P ops bk K (e.on bm.dst s)) :
    rr P ops bk (fun t => (∃ f : ck, t = f.on bk.dst s) ∧ (want ops bm t = some b ∧ eQ P t.n t.look t.mem bm b e ∧ (∀ d, bm.dst = some d → d < t.n) ∧ t.cN) ∧ K (e.on bm.dst t)) s := by
  obtain ⟨c, h1, f, h2, ap, aL⟩ := SE ok hw he tu pq l9 h;exact ⟨c, h1, f, h2, ap, ⟨f, rfl⟩, aL⟩
def waits (md : Region.Mode) (ops : Array Oper) : Nat → Nat → Nat → Bool
  | 0, _, _ => false
  | f + 1, j, i => match ops[j]? with
    | some o => o.after.any fun e => Region.binds md e && (e.on == i || waits md ops f e.on i)
    | none => false
def Down (md : Region.Mode) (ops : Array Oper) (bw : Array Bool) : Prop := ∀ k o, bw.getD k false = true → ops[k]? = some o → ∀ e ∈ o.after, Region.binds md e = true → bw.getD e.on false = true
theorem I6 {bw : Array Bool} (hd : Down md ops bw) : ∀ (f j i : Nat) (o : Oper), ops[j]? = some o → (∀ e ∈ o.after, Region.binds md e = true → bw.getD e.on false = true) → waits md ops f j i = true → bw.getD i false = true
  | 0, _, _, _, _, _, h => by cases h
  | f + 1, j, i, o, ax, cX, h => by
    simp only [waits, ax] at h;obtain ⟨e, he, ab⟩ := Array.any_eq_true'.1 h;simp only [dQ, qM, beq_iff_eq] at ab;obtain ⟨h1, h2⟩ := ab;have an := cX e he h1;rcases h2 with h2 | h2
    · rw [← h2]; exact an
    · cases gB : ops[e.on]? with
      | none => cases f <;> simp [waits, gB] at h2
      | some fu => exact I6 hd f e.on i fu gB (fun bu GG c5 => hd e.on fu an gB bu GG c5) h2
theorem Down.set {bw : Array Bool} (hd : Down md ops bw) {j : Nat} (ae : j ∈ Region.ready md ops bw) : Down md ops (bw.setIfInBounds j true) := by
  intro k o af ax e he ab;obtain ⟨_, bk, fD, cX⟩ := mem_ready.1 ae
  by_cases bu : j = k
  · subst bu
    rw [fD] at ax;cases ax;exact getD_set_true (cX e he ab)
  · refine getD_set_true (hd k o ?_ ax e he ab)
    have : (bw.setIfInBounds j true).getD k false = bw.getD k false := by simp [Array.getElem?_setIfInBounds_ne bu]
    rwa [this] at af
theorem SC {K : aD → Prop} {i : Nat} {b : Bool} {e : ck} (hi : ops[i]? = some bm) : ∀ (fa : Nat) (bw : Array Bool) (s : aD),
      (∀ j bk, ops[j]? = some bk → j ≠ i → bw.getD j true = false → (∀ e ∈ bk.after, Region.binds md e = true → e.on ≠ i) → waits md ops 4 j i = false → bm.apart ops bk = true ∧ o3 ops bw bm bk s) →
      Down md ops bw → i ∈ Region.ready md ops bw → s.cN → want ops bm s = some b → eQ P s.n s.look s.mem bm b e → (∀ d, bm.dst = some d → d < s.n) →
      x0 P md ops K fa (bw.setIfInBounds i true) (e.on bm.dst s) → x0 P md ops K (fa + 1) bw s := by
  intro fa
  induction fa with
  | zero =>
    intro bw s _ fP aq ok hw he hd H;refine ⟨fun h => (by rw [h] at aq; cases aq), fun j ae bk fD => ?_⟩
    by_cases gh : j = i
    · subst gh; rw [hi] at fD; cases fD; exact ⟨b, hw, e, he, hd, H⟩
    · have := ready_mono ae gh
      rw [H.1] at this;cases this
  | succ fa cp =>
    intro bw s jr fP aq ok hw he hd H;refine ⟨fun h => (by rw [h] at aq; cases aq), fun j ae bk fD => ?_⟩
    by_cases gh : j = i
    · subst gh; rw [hi] at fD; cases fD; exact ⟨b, hw, e, he, hd, H⟩
    · have h1 := H.2 j (ready_mono ae gh) bk fD
      obtain ⟨uR, abA, y3, cX⟩ := mem_ready.1 ae;rw [fD] at y3;cases y3
      have rW : ∀ e ∈ bk.after, Region.binds md e = true → e.on ≠ i := fun e he ab rV => by
        have h1 := cX e he ab;have aG := (mem_ready.1 aq).1;rw [rV] at h1;rcases iL i bw.size with aC | aC
        · simp [aC] at aG h1; rw [aG] at h1; cases h1
        · simp [vo aC] at h1
      have r2 : waits md ops 4 j i = false := by
        cases r1 : waits md ops 4 j i with
        | false => rfl
        | true =>
          have h1 := I6 fP 4 j i bk fD cX r1;have aG := (mem_ready.1 aq).1;rcases iL i bw.size with aC | aC
          · simp [aC] at aG h1; rw [aG] at h1; cases h1
          · simp [vo aC] at h1
      obtain ⟨g1, g2⟩ := jr j bk fD gh uR rW r2;have h2 := SF ok hw he hd g1 g2.sep h1;refine SD (fun t ap => ?_) h2;obtain ⟨⟨f, rfl⟩, ap⟩ := ap
      have GI : ∀ k ok, ops[k]? = some ok → k ≠ i → (bw.setIfInBounds j true).getD k true = false →
          (∀ e ∈ ok.after, Region.binds md e = true → e.on ≠ i) → waits md ops 4 k i = false → bm.apart ops ok = true ∧ o3 ops (bw.setIfInBounds j true) bm ok (f.on bk.dst s) := fun k ok af kn h8 js CT => by
        have tE : bw.getD k true = false := by
          by_cases kM : j = k
          · subst kM; exact uR
          · rwa [getD_set_ne true kM] at h8
        obtain ⟨q1, q2⟩ := jr k ok af kn tE js CT;exact ⟨q1, q2.on fD uR⟩
      refine cp (bw.setIfInBounds j true) _ GI (fP.set ae) (ready_mono aq (Ne.symm gh)) ap.1.2.2.2 ap.1.1 ap.1.2.1 ap.1.2.2.1 ?_;rw [Array.setIfInBounds_comm _ _ gh];exact ap.2
def bj (P : Program) (ops : Array Oper) (K : aD → Prop) : List Oper → aD → Prop
  | [], s => K s
  | o :: rest, s => rr P ops o (bj P ops K rest) s
def Il (x y : Oper) : Option (Nat × Nat) :=
  match addrOf x, addrOf y with
  | some (.tmp t), some (.tmp u) => some (t, u)
  | _, _ => none
def oB (ops : Array Oper) (bw : Array Bool) (t : Nat) : Bool := (List.range ops.size).all fun j => bw.getD j true || match ops[j]? with
  | some o => o.dst != some t
  | none => true
def lV (s : aD) (p : Nat × Nat) : Bool :=
  match s.tmps p.1, s.tmps p.2 with
  | some x, some y => ya x y
  | _, _ => false
def Dl (md : Region.Mode) (ops : Array Oper) (hz : List (Nat × Nat)) (bw : Array Bool) (i : Nat) : Bool :=
  match ops[i]? with
  | none => false
  | some bm => (List.range ops.size).all fun j => j == i || bw.getD j true || match ops[j]? with
      | some bk => ve bm bk || waits md ops 4 j i || match Il bm bk with
        | some (t, u) => hz.contains (t, u) && oB ops bw t && oB ops bw u
        | none => false
      | none => true
theorem Dx {bw : Array Bool} {t : Nat} (h : oB ops bw t = true) (j : Nat) (o : Oper) (ax : ops[j]? = some o) (h8 : bw.getD j true = false) : o.dst ≠ some t := by
  unfold oB at h;simp only [cu, qN] at h;have := h j (ku.1 ax).1;simp only [ax, h8, Bool.false_or, bne_iff_ne, ne_eq] at this;exact this
theorem N7 {i : Nat} {hz : List (Nat × Nat)} {bw : Array Bool} (hi : ops[i]? = some bm) (h : Dl md ops hz bw i = true) (hs : ∀ p ∈ hz, oB ops bw p.1 = true → oB ops bw p.2 = true → lV s p = true) (j : Nat) (bk : Oper)
    (ae : ops[j]? = some bk) (cn : j ≠ i) (h8 : bw.getD j true = false) (js : waits md ops 4 j i = false) : o3 ops bw bm bk s := by
  simp only [Dl, hi, cu, qN] at h;have h1 := h j (ku.1 ae).1;simp only [ae, qM, beq_iff_eq, cn, false_or, h8, nG] at h1;rcases h1 with (h1 | h1) | h1
  · exact .inl h1
  · rw [js] at h1; cases h1
  · split at h1
    · rename_i t u hp
      simp only [dQ] at h1;obtain ⟨⟨c1, c2⟩, ke⟩ := h1;have lL := hs (t, u) (by simpa using c1) c2 ke;unfold Il at hp
      split at hp
      · rename_i nL kx aI aN
        cases hp;unfold lV at lL
        split at lL
        · rename_i o fF q1 q2
          exact .inr ⟨t, u, o, fF, aI, aN, q1, q2, lL, fun ft fu gB tE => ⟨Dx c2 ft fu gB tE, Dx ke ft fu gB tE⟩⟩
        · cases lL
      · cases hp
    · cases h1
def zC (md : Region.Mode) (ops : Array Oper) (hz : List (Nat × Nat)) : List Nat → Array Bool → Bool
  | [], bw => (Region.ready md ops bw).isEmpty
  | k :: ord, bw => (Region.ready md ops bw).contains k && Region.free md ops bw k && Dl md ops hz bw k && zC md ops hz ord (bw.setIfInBounds k true)
def getAll (l : List Oper) : List Nat → Option (List Oper)
  | [] => some []
  | i :: ord => match l[i]?, getAll l ord with
    | some o, some r => some (o :: r)
    | _, _ => none
theorem F9 {l : List Oper} : ∀ (ord : List Nat) (r : List Oper), getAll l ord = some r → r.length = ord.length ∧ ∀ (j : Nat), r[j]? = (ord[j]?).bind (l[·]?)
  | [], r, h => by cases h; exact ⟨rfl, fun j => by simp⟩
  | i :: ord, r, h => by
    simp only [getAll] at h
    split at h
    · rename_i o a8 ax aq
      cases h;obtain ⟨h1, h2⟩ := F9 ord a8 aq;refine ⟨by simp [h1], fun j => ?_⟩;cases j with
      | zero => simp [ax]
      | succ j => simpa using h2 j
    · cases h
theorem JY {K : aD → Prop} : ∀ (l : List Oper) (s : aD), bj P ops K l s → ∃ s', K s' ∧ ∀ t, (∀ o ∈ l, o.dst ≠ some t) → s'.tmps t = s.tmps t
  | [], s, h => ⟨s, h, fun _ _ => rfl⟩
  | o :: l, s, ⟨b, hw, e, he, hd, dT⟩ => by
    obtain ⟨s', h1, h2⟩ := JY l _ dT;exact ⟨s', h1, fun t aE => (h2 t fun fu gB => aE fu (by simp [gB])).trans (ck.xj (aE o (by simp)))⟩
theorem JW {K : aD → Prop} {hz : List (Nat × Nat)} : ∀ (ord : List Nat) (l : List Oper) (bw : Array Bool) (s : aD), l.length = ord.length → (∀ (j : Nat), l[j]? = (ord[j]?).bind (ops[·]?)) → (∀ k ∈ ord, bw.getD k true = false) → (∀ k, k < ops.size → bw.getD k true = false → k ∈ ord) → ord.Nodup → Down md ops bw → s.cN →
    zC md ops hz ord bw = true → bj P ops (fun s => hz.all (lV s) = true ∧ K s) l s → x0 P md ops K l.length bw s
  | [], [], _, _, _, _, _, _, _, _, _, fi, h => ⟨by simpa [zC] using fi, h.2⟩
  | [], _ :: _, _, _, hlen, _, _, _, _, _, _, _, _ => by cases hlen
  | _ :: _, [], _, _, hlen, _, _, _, _, _, _, _, _ => by cases hlen
  | k :: ord, o :: l, bw, s, hlen, an, h8, GF, gN, fP, ok, fi, h => by
    have aG : ops[k]? = some o := by simpa using (an 0).symm
    have rU := JY _ _ h;simp only [zC, dQ] at fi;obtain ⟨⟨⟨aq, au⟩, hm⟩, Gi⟩ := fi;obtain ⟨b, hw, e, he, hd, dT⟩ := h
    have hs : ∀ p ∈ hz, oB ops bw p.1 = true → oB ops bw p.2 = true → lV s p = true := fun p hp hP iI => by
      obtain ⟨s', ⟨h1, _⟩, h2⟩ := rU
      have gR : ∀ t, oB ops bw t = true → ∀ fu ∈ o :: l, fu.dst ≠ some t := fun t aE fu gB => by
        obtain ⟨j, ae⟩ := jX gB;rw [an j] at ae;cases al : (k :: ord)[j]? with
        | none => rw [al] at ae; cases ae
        | some q => rw [al] at ae; exact Dx aE q fu ae (h8 _ (dF al))
      have := cu.1 h1 p hp;unfold lV at this ⊢;rw [h2 p.1 (gR _ hP), h2 p.2 (gR _ iI)] at this;exact this
    rw [List.nodup_cons] at gN;have cn : ∀ q ∈ ord, k ≠ q := fun q al e => gN.1 (by rw [e]; exact al);refine SC aG l.length bw s (fun j bk h1 h2 ap aL dx => ⟨Region.free_spec aG au j bk h1 h2 ap aL, N7 aG hm hs j bk h1 h2 ap dx⟩) fP (by simpa using aq) ok hw he hd ?_;refine JW ord l _ _ (by simpa using hlen) (fun j => by simpa using an (j + 1)) (fun q al => by rw [getD_set_ne true (cn q al)]; exact h8 q (by simp [al])) (fun q al uT => ?_) gN.2 (fP.set (by simpa using aq)) (yq ok he hd) Gi dT
    by_cases bu : k = q
    · subst bu
      have : k < bw.size := by
        have := h8 k (by simp);rcases iL k bw.size with aC | aC
        · exact aC
        · simp [vo aC] at this
      simp [this] at uT
    · rw [getD_set_ne true bu] at uT
      rcases gI.1 (GF q al uT) with aC | aC
      · exact absurd aC.symm bu
      · exact aC
def vg (ops : Array Oper) (ord : List Nat) : List (Nat × Nat) :=
  match ord with
  | [] => []
  | i :: rest => (match ops[i]? with
    | some bm => bif lP bm != 0 then rest.filterMap fun j => match ops[j]? with
        | some bk => bif ve bm bk || waits .any ops 4 j i then none else Il bm bk
        | none => none
      else []
    | none => []) ++ vg ops rest
def early (o : Oper) : Bool := (match o.op with | .alloc _ => true | _ => false) && o.after.isEmpty && o.guard.isNone
def qH (l : List Oper) : List Nat := ((List.range l.length).filter fun i => match l[i]? with | some o => early o | none => false) ++ (List.range l.length).filter fun i => match l[i]? with | some o => !early o | none => false
def fo (P : Program) (c : Code) (Q : Exit → aD → Prop) (s : aD) : Prop :=
  s.cN → ∀ B A ad a w, Rel B A s ad a w → ka P c (fun e a' w' => ∃ s' bg, s'.cN ∧ Rel B A s' bg a' w' ∧ Q e s') a w
def zK : List Nat → Bool
  | [] => true
  | x :: xs => !xs.contains x && zK xs
theorem H8 : ∀ (l : List Nat), zK l = true → l.Nodup
  | [], _ => List.nodup_nil
  | x :: xs, h => by
    simp only [zK, dQ, so, List.contains_eq_mem, ll] at h;exact List.nodup_cons.2 ⟨h.1, H8 xs h.2⟩
def K3 (l : List Oper) : Bool := Nat.beq (qH l).length l.length && zK (qH l) && (List.range l.length).all (fun i => (qH l).contains i) && (qH l).all (fun i => Nat.blt i l.length) && zC .any l.toArray (vg l.toArray (qH l)) (qH l) (Array.replicate l.length false)
theorem h0 {id : Nat} {l cx : List Oper} {Q : Exit → aD → Prop} (hm : P.follows .mixedOrders = true) (fi : K3 l = true) (an : getAll l (qH l) = some cx)
    (h : bj P l.toArray (fun s => (vg l.toArray (qH l)).all (lV s) = true ∧ Q .normal s) cx s) : fo P (.region id l.toArray true) Q s := by
  intro ok B A ad a w ay;refine Q2 hm fun ro => ?_;unfold K3 at fi;simp only [dQ, cu, qN, List.contains_eq_mem, cB] at fi;obtain ⟨⟨⟨⟨n1, b1⟩, b2⟩, ed⟩, dD⟩ := fi;obtain ⟨g1, g2⟩ := F9 _ _ an;have hd : Rel B A s ad a { w with drawn := w.drawn + 1 } := ay.call ((Below.refl _ w).drew);refine JX (K := Q .normal) (fun s' bg a' w' dB cw af => ⟨s', bg, dB, cw, af⟩) _ _ s ad a _ ok hd ?_;have nd := H8 _ b1;have hlen : (qH l).length = l.length := gS n1;have := JW (md := .any) (ops := l.toArray) (qH l) cx (Array.replicate l.length false) s g1 (by simpa using g2) (fun q al => by have := ed q al; simp [Nat.blt_eq] at this; simp [this]) (fun q al _ => b2 q (by simpa using al)) nd (fun k o af => by exfalso; rcases iL k l.length with q | q <;> simp [Array.getElem?_replicate, q] at af) ok dD h;rw [g1, hlen] at this;simpa using this
theorem JZ {ro : Option Nat} {K : aD → Prop} {Q : Exit → Act → World → Prop} (lc : ∀ s' bg a' w', s'.cN → Rel B A s' bg a' w' → K s' → Q .normal a' w') : ∀ (l : List Oper) (k : Nat) (s : aD) (ad : Nat → Nat) (a : Act) (w : World), (∀ (j : Nat), l[j]? = ops[k + j]?) → s.cN → Rel B A s ad a w →
    bj P ops K l s → wpOpsIn (l3 ro) 0 P ops Q ((List.range l.length).map (k + ·)) a w
  | [], _, _, _, _, _, _, ok, ay, h => lc _ _ _ _ ok ay h
  | o :: l, k, s, ad, a, w, an, ok, ay, h => by
    have aG : ops[k]? = some o := by simpa using (an 0).symm
    have e : (List.range (o :: l).length).map (k + ·) = k :: (List.range l.length).map (k + 1 + ·) := by
      rw [lm, List.range_succ_eq_map, kv, List.map_map];congr 1;apply pG;intro j _;simp [Nat.add_assoc, Nat.add_comm 1 j]
    rw [e, wpOpsIn_cons];refine J0 aG ok ay h fun s' bg a' w' dB cw af => JZ lc l (k + 1) s' bg a' w' (fun j => by have := an (j + 1); simpa [Nat.add_assoc, Nat.add_comm 1 j] using this) dB cw af
theorem bV {id : Nat} {l : List Oper} {Q : Exit → aD → Prop} (h : bj P l.toArray (Q .normal) l s) : fo P (.region id l.toArray false) Q s := by
  intro ok B A ad a w ay;refine Q1 fun ro => ?_;have := JZ (ro := ro) (ops := l.toArray) (K := Q .normal) (Q := fun e a' w' => ∃ s' bg, s'.cN ∧ Rel B A s' bg a' w' ∧ Q e s') (fun s' bg a' w' dB cw af => ⟨s', bg, dB, cw, af⟩) l 0 s ad a w (by simp) ok ay h;simpa using this
end
section
variable {P : Program} {B : eS} {A : Nat → Prop} {s s1 s2 s' : aD} {ad : Nat → Nat} {a : Act} {w : World} {Q : Exit → aD → Prop} {x y : Code}
def rA (next : aD → Prop) (Q : Exit → aD → Prop) : Exit → aD → Prop
  | .normal, s => next s
  | e, s => Q e s
theorem bX (h : fo P x (rA (fun s' => fo P y Q s') Q) s) : fo P (.seq x y) Q s := by
  intro ok B A ad a w ay;refine Q4 (sL (h ok B A ad a w ay) ?_);rintro e a' w' ⟨s', bg, dB, cw, al⟩;cases e <;> first | exact al dB B A bg a' w' cw | exact ⟨s', bg, dB, cw, al⟩
theorem fr (h : Q .normal s) : fo P .skip Q s := fun ok B A ad a w ay => Q5 ⟨s, ad, ok, ay, h⟩
theorem wb {id : Nat} (h : Q (.exit id) s) : fo P (.exit id) Q s := fun ok B A ad a w ay => QZ ⟨s, ad, ok, ay, h⟩
theorem cd (h : Q .ret s) : fo P .ret Q s := fun ok B A ad a w ay => Q3 ⟨s, ad, ok, ay, h⟩
theorem Kj {c : Operand} {t : Bool} (ak : s.look c = some (.w (.one (.c (.bool t))))) (h1 : t = true → fo P x Q s) (aG : t = false → fo P y Q s) : fo P (.cond c x y) Q s := by
  intro ok B A ad a w ay;have hv : a.eval c = .bool t := (ay.look ak).1;refine QY hv ?_;cases t with
  | true => exact h1 rfl ok B A ad a w ay
  | false => exact aG rfl ok B A ad a w ay
theorem kE {c : Operand} (ak : s.look c = some (.w (.one (.c (.bool true))))) (h1 : fo P x Q s) : fo P (.cond c x y) Q s := Kj ak (fun _ => h1) (fun e => by cases e)
theorem jm {c : Operand} (ak : s.look c = some (.w (.one (.c (.bool false))))) (aG : fo P y Q s) : fo P (.cond c x y) Q s := Kj ak (fun e => by cases e) (fun _ => aG)
def vV (id : Nat) (Q : Exit → aD → Prop) : Exit → aD → Prop
  | .exit pB, s => bif Nat.beq pB id then Q .normal s else Q (.exit pB) s
  | e, s => Q e s
theorem iS {id : Nat} (h : fo P x (vV id Q) s) : fo P (.block id x) Q s := by
  intro ok B A ad a w ay;refine QX (sL (h ok B A ad a w ay) ?_);rintro e a' w' ⟨s', bg, dB, cw, al⟩;cases e with
  | exit pB =>
    simp only [Exit.inBlock];simp only [vV] at al;cases ab : Nat.beq pB id with
    | true => rw [ab] at al; rw [if_pos (gS ab)]; exact ⟨s', bg, dB, cw, al⟩
    | false =>
      rw [ab] at al;have : pB ≠ id := fun e => by subst e; rw [Nat.beq_refl] at ab; cases ab
      rw [if_neg this]; exact ⟨s', bg, dB, cw, al⟩
  | _ => exact ⟨s', bg, dB, cw, al⟩
structure aD.bo (s s' : aD) : Prop where
  n : s'.n = s.n
  gK : ∀ t av, s'.tmps t = some av → s.tmps t = some av
  du : ∀ k cs, s'.mem k = some cs → s.mem k = some cs
theorem Rel.le (h : Rel B A s ad a w) (l : s.bo s') : Rel B A s' ad a w := by
  have au : ∀ b, s.free A ad b → b < w.heap.size → s'.free A ad b ∧ w.heap[b]? = w.heap[b]? := fun b ab _ => ⟨⟨ab.1, fun k cs af => ab.2 k cs (l.du k cs af)⟩, rfl⟩;refine ⟨h.pD, by rw [l.n]; exact h.size, fun t av aE => ?_, fun k cs af => ?_, fun k k' c c' af eJ e => h.inj k k' c c' (l.du _ _ af) (l.du _ _ eJ) e, h.below, h.up, fun k b af => by rw [l.n]; exact h.jQ k b af⟩
  · obtain ⟨v, h1, h2⟩ := h.gK t av (l.gK t av aE)
    exact ⟨v, h1, h2.map au fun _ _ => rfl⟩
  · obtain ⟨vs, ty, h1, h2, ap⟩ := h.du k cs (l.du k cs af)
    exact ⟨vs, ty, h1, h2.map au fun _ _ _ _ => rfl, ap⟩
theorem Q0 {c : Code} {Q : Exit → Act → World → Prop} (I : Nat → Act → World → Prop) {n : Nat} (h₀ : I n a w)
    (round : ∀ n a w, I n a w → ka P c (Exit.then (fun a' w' => ∃ m, m < n ∧ I m a' w') Q) a w) : ka P (Code.loop c) Q a w := by
  intro ro b k cs iE ab lK
  have key : ∀ n a w, I n a w →
      ∃ e a' w', Q e a' w' ∧ ArrivesIn (Machine.fenced P (l3 ro)) P (lone (b.atR a (.code c :: .inLoop c :: k)) cs w) b k cs e a' w' := by
    intro n
    induction n using Nat.strongRecOn with
    | _ n cp =>
      intro a w bq;obtain ⟨e, we, xH, al, tp⟩ := round n a w bq ro b (.inLoop c :: k) cs iE ab lK;cases e with
      | normal =>
        obtain ⟨m, bi, WO⟩ := al;obtain ⟨VD, TI, afz, Yi, W7⟩ := cp m bi we xH WO;exact ⟨VD, TI, afz, Yi, .of_steps (StepsIn.trans tp (.one (fenced_calm ab lK rfl) stepR_inLoop)) W7⟩
      | exit id => exact ⟨_, we, xH, al, .pass (x := .inLoop c) rfl (fun _ _ => .inl (by simp)) tp⟩
      | goto l => exact ⟨_, we, xH, al, .pass (x := .inLoop c) rfl (fun _ _ => .inl (by simp)) tp⟩
      | ret => exact ⟨_, we, xH, al, .pass (x := .inLoop c) rfl (fun _ _ => .inl (by simp)) tp⟩
      | panic ch => exact ⟨_, we, xH, al, .pass (x := .inLoop c) rfl (fun _ _ => .inl (by simp)) tp⟩
      | outgrown => exact ⟨_, we, xH, al, .pass (x := .inLoop c) rfl (fun _ _ => .inl (by simp)) tp⟩
  obtain ⟨e, a', w', al, tp⟩ := key _ a w h₀;exact ⟨e, a', w', al, .of_steps (.one (fenced_calm ab lK rfl) stepR_loop) tp⟩
theorem Kl (I : Nat → aD → Prop) (n : Nat) (eF : aD) (qz : s.bo eF) (abB : eF.cN) (aG : I n eF)
    (round : ∀ n s, I n s → fo P x (rA (fun s' => ∃ m, m < n ∧ ∃ Ai, s'.bo Ai ∧ Ai.cN ∧ I m Ai) Q) s) : fo P (.loop x) Q s := by
  intro ok B A ad a w ay;refine Q0 (fun n a w => ∃ s ad, s.cN ∧ Rel B A s ad a w ∧ I n s) ⟨eF, ad, abB, ay.le qz, aG⟩ ?_;rintro n a w ⟨s, ad, ok, ay, bq⟩;refine sL (round n s bq ok B A ad a w ay) ?_;rintro e a' w' ⟨s', bg, dB, cw, al⟩;cases e with
  | normal =>
    obtain ⟨m, hm, Ai, an, vj, cg⟩ := al;exact ⟨m, hm, Ai, bg, vj, cw.le an, cg⟩
  | _ => exact ⟨s', bg, dB, cw, al⟩
def ai.bo (x y : ai) : Prop := ∀ U ad W v, dc U ad W x v → dc U ad W y v
theorem ai.bo.refl (x : ai) : x.bo x := fun _ _ _ _ h => h
theorem ai.bo.of_eq {x y : ai} (h : x = y) : x.bo y := by subst h; exact .refl x
def ik (P : Program) (s : aD) : ResultVar → Option bG
  | .tmp t => match s.tmps t with
    | some (.w x) => some x
    | _ => none
  | .cell a ty => match s.tmps a with
    | some (.w (.one (.own k off))) => (s.mem k).bind (pick P ty · off)
    | _ => none
def packed : List bG → ai
  | [x] => .w x
  | xs => .cZ xs
def yb (P : Program) (fn : Func) (r : ai) : Exit → aD → Prop
  | .normal, s | .ret, s => ∃ xs, fn.results.toList.map (ik P s) = xs.map some ∧ (packed xs).bo r
  | _, _ => False
theorem Qg {α : Type} {f : α → Sem Value} : ∀ (l : List α) (vs : List Value), l.length = vs.length → (∀ (i : Nat) x v, l[i]? = some x → vs[i]? = some v → (f x).run P w = .ok v w) → (l.mapM f).run P w = .ok vs w
  | [], [], _, _ => rfl
  | [], _ :: _, h, _ => by cases h
  | _ :: _, [], h, _ => by cases h
  | x :: l, v :: vs, an, h => by
    have aG := h 0 x v rfl rfl;have cp := Qg l vs (by simpa using an) (fun i x v aa hv => h (i + 1) x v (by simpa using aa) (by simpa using hv));rw [List.mapM_cons];simp only [Sem.run_bind, aG, Result.andThen_ok, cp];rfl
def Aa (a : Act) : ResultVar → Sem Value
  | .tmp t => pure (a.tmps.getD t undef)
  | .cell b t => do loadVar t (← asAddr (a.tmps.getD b undef))
theorem adx (fn : Func) (a : Act) : results fn a.tmps = (do let vs ← fn.results.mapM (Aa a); pure (if h : vs.size = 1 then vs[0] else .tuple vs)) := rfl
theorem adw {v : ResultVar} {z : bG} (ay : Rel B A s ad a w) (h : ik P s v = some z) : ∃ u, (Aa a v).run P w = .ok u w ∧ gx (s.free A ad) ad w z u := by
  cases v with
  | tmp t =>
    simp only [ik] at h
    split at h
    · rename_i x aa
      cases h;obtain ⟨v, h1, h2⟩ := ay.gK t _ aa;refine ⟨v, ?_, h2⟩;simp [Aa, xq, h1]
    · cases h
  | cell b ty =>
    simp only [ik] at h
    split at h
    · rename_i k off aa
      cases hm : s.mem k with
      | none => rw [hm] at h; cases h
      | some cs =>
        rw [hm] at h;obtain ⟨vs, t, g1, g2, g3⟩ := ay.du k cs hm;obtain ⟨u, h1, h2⟩ := Pv h g1 g2;obtain ⟨p, q1, q2⟩ := ay.gK b _ aa;cases q2;refine ⟨u, ?_, h2⟩;simp only [Aa, xq, q1, Option.getD_some, asAddr, Sem.run_bind, Sem.run_pure, Result.andThen_ok, h1]
    · cases h
theorem PY {fn : Func} {xs : List bG} (ay : Rel B A s ad a w) (h : fn.results.toList.map (ik P s) = xs.map some) : ∃ v, (results fn a.tmps).run P w = .ok v w ∧ dc (s.free A ad) ad w (packed xs) v := by
  have key : ∀ (l : List ResultVar) (xs : List bG), l.map (ik P s) = xs.map some → ∃ vs : List Value, vs.length = xs.length ∧ l.length = vs.length ∧ (∀ (i : Nat) r u, l[i]? = some r → vs[i]? = some u → (Aa a r).run P w = .ok u w) ∧ ∀ (i : Nat) x u, xs[i]? = some x → vs[i]? = some u → gx (s.free A ad) ad w x u := by
    intro l
    induction l with
    | nil => intro xs h; cases xs with
      | nil => exact ⟨[], rfl, rfl, fun i r u h => by simp at h, fun i x u h => by simp at h⟩
      | cons => cases h
    | cons r l cp =>
      intro xs h;cases xs with
      | nil => cases h
      | cons x xs =>
        simp only [kv, List.cons.injEq] at h;obtain ⟨vs, aI, aN, cC, eH⟩ := cp xs h.2;obtain ⟨u, q1, q2⟩ := adw ay h.1;refine ⟨u :: vs, by simp [aI], by simp [aN], fun i a8 kx h1 h2 => ?_, fun i x' kx h1 h2 => ?_⟩
        · cases i with
          | zero => simp at h1 h2; subst h1; subst h2; exact q1
          | succ i => exact cC i a8 kx (by simpa using h1) (by simpa using h2)
        · cases i with
          | zero => simp at h1 h2; subst h1; subst h2; exact q2
          | succ i => exact eH i x' kx (by simpa using h1) (by simpa using h2)
  obtain ⟨vs, aI, aN, cC, eH⟩ := key _ _ h;have hm := Qg (P := P) (w := w) _ vs aN cC
  have gp : (results fn a.tmps).run P w = .ok (if h : vs.toArray.size = 1 then vs.toArray[0] else .tuple vs.toArray) w := by
    rw [adx, Array.mapM_eq_mapM_toList];simp only [map_eq_pure_bind, bind_assoc, Sem.run_bind];rw [hm];simp only [Result.andThen_ok, Sem.run_bind, Sem.run_pure]
  refine ⟨_, gp, ?_⟩
  match vs, xs, aI, eH with
  | [], [], _, _ => exact ⟨[], rfl, rfl, fun i x v h => by simp at h⟩
  | [v], [x], _, eH => exact eH 0 x v rfl rfl
  | v1 :: v2 :: vs, c7 :: dq :: xs, aI, eH =>
    rw [dif_neg (by simp)];exact ⟨v1 :: v2 :: vs, rfl, aI.symm, eH⟩
def start (n : Nat) (args : List ai) : aD := ⟨n, fun t => args[t]?, fun _ => none⟩
def sN (P : Program) (c : Code) (Q : Exit → aD → Prop) (s : aD) : Prop :=
  s.cN → ∀ W A ad a w, Rel (eS.all W) A s ad a w → c.wp P (fun e a' w' => ∃ s' bg, s'.cN ∧ Rel (eS.all W) A s' bg a' w' ∧ Q e s') a w
theorem Pu {f : FuncId} {fn : Func} {c : Code} {args : List ai} {r : ai} (au : P.funcs[f]? = some fn) (ab : fn.body = some c) (aF : args.length ≤ fn.ntmps) (jn : ∀ x ∈ args, x.closed) (cf : r.closed)
    (h : sN P c (yb P fn r) (start fn.ntmps args)) : aX P f args r := by
  refine ⟨jn, cf, fun U W vs dH => ?_⟩;have an := dH.1
 
  refine calls_of_wp au ab ?_;have ok : (start fn.ntmps args).cN := ⟨fun t av j aE ae => absurd ae (jn av (dF aE) j), fun k cs x j af => by cases af⟩
  have ay : Rel (eS.all W) (fun b => U b ∨ W.heap.size ≤ b) (start fn.ntmps args) id { tmps := vs.toArray ++ Array.replicate (fn.ntmps - vs.toArray.size) undef, defers := [] } W := by
    refine ⟨rfl, by simp [start]; omega, fun t av aE => ?_, (fun k cs af => by cases af), (fun k k' cs ar af => by cases af), jK.refl (eS.all W), fun b ab => .inr ab, fun k b af => (by cases af)⟩;have bi : t < vs.length := by rw [← an]; exact (bS.1 aE).1
    refine ⟨vs[t], by simp [Array.getElem?_append, bi], ?_⟩;exact (dH.2 t av _ aE (cm bi)).map (fun b ab _ => ⟨⟨.inl ab, fun k cs af => by cases af⟩, rfl⟩) fun _ _ => rfl
  refine wp_mono (h ok W _ id _ W ay) ?_;rintro e a' w' ⟨s', bg, dB, cw, al⟩
  have fin : (∃ xs, fn.results.toList.map (ik P s') = xs.map some ∧ (packed xs).bo r) → a'.defers = [] ∧ ∃ v, (results fn a'.tmps).run P w' = .ok v w' ∧ ∃ u, Ending.returned v = .returned u ∧ dc (fun b => U b ∨ W.heap.size ≤ b) id w' r u ∧ Below W.heap.size W w' := by
    rintro ⟨xs, h1, h2⟩;obtain ⟨v, q1, q2⟩ := PY cw h1;exact ⟨cw.pD, v, q1, v, rfl, (h2 _ _ _ _ q2).map (fun b ab _ => ⟨ab.1, rfl⟩) fun j ae => absurd ae (cf j), cw.below.all⟩
  cases e with
  | normal => exact fin al
  | ret => exact fin al
  | _ => exact al.elim
theorem acX {f : FuncId} {fn : Func} {c : Code} {args : List ai} {r : ai} (au : P.funcs[f]? = some fn) (ab : fn.body = some c) (aF : args.length ≤ fn.ntmps) (jn : ∀ x ∈ args, x.closed) (cf : r.closed)
    (h : fo P c (yb P fn r) (start fn.ntmps args)) : aX P f args r :=
  Pu au ab aF jn cf fun ok W A ad a w ay => (h ok (eS.all W) A ad a w ay).top
end
end Go.Proofs.YtpochbhajmbfdaaGreat
