/-
  My own texts, without what this claim does not need. My own text.
-/
import Derived.Below
import Derived.Still
import Derived.OrdersIn
import Derived.Laws.CopyRow
import Derived.Laws.Cells
import Derived.Test.YtbcecodakfejaaaGreatSKeepsK1
set_option maxRecDepth 100000
set_option maxHeartbeats 64000000
set_option linter.unusedVariables false
set_option linter.unusedSimpArgs false
set_option linter.unusedSectionVars false
namespace Go.Proofs.YtbcecodakfejaaaGreat
open Go.RowKit
structure e4 where
  holds : World → Value → Prop
  lu : World → Value → Nat → Prop
  frame : ∀ w w' v, holds w v → (∀ b, lu w v b → w'.heap[b]? = w.heap[b]?) → holds w' v ∧ ∀ b, lu w' v b → lu w v b
  iR : ∀ w v b, holds w v → lu w v b → b < w.heap.size
  cell : ∀ w v, holds w v → v.oneCell' = true
inductive AC where
  | c (v : Value)
  | own (k off : Nat)
  | p (R : e4)
inductive bA where
  | one (x : AC)
  | agg (xs : List AC)
inductive ah where
  | w (x : bA)
  | cz (xs : List bA)
def bA.cells : bA → List AC
  | .one x => [x]
  | .agg xs => xs
def gx (U : Nat → Prop) (ad : Nat → Nat) (W : World) : AC → Value → Prop
  | .c v, x => x = v ∧ v.oneCell' = true
  | .own k off, x => x = .pointer (some ⟨ad k, off, none⟩)
  | .p R, x => R.holds W x ∧ ∀ b, R.lu W x b → U b
def bM (U : Nat → Prop) (ad : Nat → Nat) (W : World) (xs : List AC) (vs : List Value) : Prop :=
  xs.length = vs.length ∧ ∀ (i : Nat) (x : AC) (v : Value), xs[i]? = some x → vs[i]? = some v → gx U ad W x v
def gh (U : Nat → Prop) (ad : Nat → Nat) (W : World) : bA → Value → Prop
  | .one x, v => gx U ad W x v
  | .agg xs, v => ∃ vs : List Value, v = .agg vs.toArray ∧ bM U ad W xs vs
def de (U : Nat → Prop) (ad : Nat → Nat) (W : World) : ah → Value → Prop
  | .w x, v => gh U ad W x v
  | .cz xs, v => ∃ vs : List Value, v = .tuple vs.toArray ∧ xs.length = vs.length ∧ ∀ (i : Nat) (x : bA) (v : Value), xs[i]? = some x → vs[i]? = some v → gh U ad W x v
def AC.owns : AC → Nat → Prop
  | .own k _, j => j = k
  | _, _ => False
def bA.owns (x : bA) (j : Nat) : Prop := ∃ y ∈ x.cells, y.owns j
def ah.owns : ah → Nat → Prop
  | .w x, j => x.owns j
  | .cz xs, j => ∃ x ∈ xs, x.owns j
section
variable {U cR : Nat → Prop} {ad aX : Nat → Nat} {W bk : World}
theorem gx.cell {x : AC} {v : Value} (h : gx U ad W x v) : v.oneCell' = true := by
  cases x with
  | c u => obtain ⟨rfl, h⟩ := h; exact h
  | own k off => cases h; rfl
  | p R => exact R.cell _ _ h.1
theorem gx.map {x : AC} {v : Value} (h : gx U ad W x v) (dx : ∀ b, U b → b < W.heap.size → cR b ∧ bk.heap[b]? = W.heap[b]?) (jU : ∀ j, x.owns j → aX j = ad j) : gx cR aX bk x v := by
  cases x with
  | c u => exact h
  | own k off => simp only [gx] at h ⊢; rw [h, jU k rfl]
  | p R =>
    obtain ⟨h1, h2⟩ := h;have h3 := R.frame W bk v h1 (fun b ab => (dx b (h2 b ab) (R.iR _ _ _ h1 ab)).2);exact ⟨h3.1, fun b ab => (dx b (h2 b (h3.2 b ab)) (R.iR _ _ _ h1 (h3.2 b ab))).1⟩
theorem bM.map {xs : List AC} {vs : List Value} (h : bM U ad W xs vs) (dx : ∀ b, U b → b < W.heap.size → cR b ∧ bk.heap[b]? = W.heap[b]?) (jU : ∀ j x, x ∈ xs → x.owns j → aX j = ad j) : bM cR aX bk xs vs :=
  ⟨h.1, fun i x v aa hv => (h.2 i x v aa hv).map dx fun j ae => jU j x (dc aa) ae⟩
theorem gh.map {x : bA} {v : Value} (h : gh U ad W x v) (dx : ∀ b, U b → b < W.heap.size → cR b ∧ bk.heap[b]? = W.heap[b]?) (jU : ∀ j, x.owns j → aX j = ad j) : gh cR aX bk x v := by
  cases x with
  | one x => exact gx.map h dx fun j ae => jU j ⟨x, by simp [bA.cells], ae⟩
  | agg xs =>
    obtain ⟨vs, e, h⟩ := h;exact ⟨vs, e, h.map dx fun j x aa ae => jU j ⟨x, aa, ae⟩⟩
theorem de.map {x : ah} {v : Value} (h : de U ad W x v) (dx : ∀ b, U b → b < W.heap.size → cR b ∧ bk.heap[b]? = W.heap[b]?) (jU : ∀ j, x.owns j → aX j = ad j) : de cR aX bk x v := by
  cases x with
  | w x => exact gh.map h dx jU
  | cz xs =>
    obtain ⟨vs, e, hl, h⟩ := h;exact ⟨vs, e, hl, fun i x v aa hv => (h i x v aa hv).map dx fun j ae => jU j ⟨x, dc aa, ae⟩⟩
theorem gh.cells {x : bA} {v : Value} (h : gh U ad W x v) : bM U ad W x.cells v.cells.toList := by
  cases x with
  | one x =>
    have aj : v.cells = #[v] := by
      have := gx.cell h;cases v <;> simp_all [Value.cells, Value.oneCell']
    rw [aj];refine ⟨rfl, fun i y u ai hu => ?_⟩;simp only [bA.cells] at ai;cases i with
    | zero => simp at ai hu; subst ai; subst hu; exact h
    | succ i => simp at ai
  | agg xs =>
    obtain ⟨vs, rfl, h⟩ := h;exact h
end
def bI {α : Type} (f : Nat → Option α) (k : Nat) (v : α) : Nat → Option α := fun j => bif Nat.beq j k then some v else f j
theorem cF {α : Type} (f : Nat → Option α) (k : Nat) (v : α) : bI f k v k = some v := by simp [bI]
theorem ct {α : Type} (f : Nat → Option α) {k j : Nat} (v : α) (h : j ≠ k) : bI f k v j = f j := by
  have : Nat.beq j k = false := by
    cases ab : Nat.beq j k with
    | false => rfl
    | true => exact absurd (gL ab) h
  simp [bI, this]
theorem TP {α : Type} (f : Nat → Option α) {k j : Nat} (v u : α) (h : j ≠ k) : bI (bI f k v) j u = bI (bI f j u) k v := by
  funext i
  by_cases h1 : i = j
  · subst h1; rw [cF, ct _ _ h, cF]
  · by_cases h2 : i = k
    · subst h2; rw [ct _ _ h1, cF, cF]
    · rw [ct _ _ h1, ct _ _ h2, ct _ _ h2, ct _ _ h1]
structure aC where
  n : Nat
  tmps : Nat → Option ah
  mem : Nat → Option (List AC)
def aC.put (s : aC) (dst : Option Nat) (v : ah) : aC :=
  match dst with
  | some d => { s with tmps := bI s.tmps d v }
  | none => s
def aC.ej (s : aC) (k : Nat) (cs : List AC) : aC := { s with mem := bI s.mem k cs }
def Re : Value → bA
  | .agg cs => .agg (cs.toList.map .c)
  | v => .one (.c v)
def yg : Value → ah
  | .tuple vs => .cz (vs.toList.map Re)
  | v => .w (Re v)
def aC.look (s : aC) : Operand → Option ah
  | .tmp t => s.tmps t
  | .const v => if v.oneCell' then some (.w (.one (.c v))) else none
  | .global g => some (.w (.one (.c (.pointer (some ⟨g, 0, none⟩)))))
  | .func f => some (.w (.one (.c (.func (.func f) #[] #[]))))
def aC.free (s : aC) (A : Nat → Prop) (ad : Nat → Nat) (b : Nat) : Prop := A b ∧ ∀ k cs, s.mem k = some cs → ad k ≠ b
structure aC.cQ (s : aC) : Prop where
  hz : ∀ t av j, s.tmps t = some av → av.owns j → ∃ cs, s.mem j = some cs
  dz : ∀ k cs x j, s.mem k = some cs → x ∈ cs → x.owns j → ∃ ar, s.mem j = some ar
structure eL where
  W : World
  F : Nat → Prop
  lt : ∀ b, F b → b < W.heap.size
  N : Nat → Option Nat
  marks : List Deferred := []
def eL.all (W : World) : eL := ⟨W, fun b => b < W.heap.size, fun _ h => h, fun _ => none, []⟩
def sg (B : eL) (s : aC) (ad : Nat → Nat) : Prop := ∀ k b, B.N k = some b → s.n ≤ k ∧ ad k = b
structure jr (B : eL) (w : World) : Prop where
  os : w.os = B.W.os
  tape : w.tape = B.W.tape
  output : w.output = B.W.output
  size : B.W.heap.size ≤ w.heap.size
  block : ∀ b, B.F b → w.heap[b]? = B.W.heap[b]?
theorem jr.then {B : eL} {w w' : World} (h : jr B w) (ab : Below w.heap.size w w') : jr B w' :=
  ⟨ab.os.trans h.os, ab.tape.trans h.tape, ab.output.trans h.output, ht h.size ab.size, fun b ap => (ab.block b (qQ (B.lt b ap) h.size)).trans (h.block b ap)⟩
theorem jr.refl (B : eL) : jr B B.W := ⟨rfl, rfl, rfl, dI _, fun _ _ => rfl⟩
theorem jr.all {W w : World} (h : jr (eL.all W) w) : Below W.heap.size W w := ⟨h.os, h.tape, h.output, h.size, fun k af => h.block k af⟩
structure Rel (B : eL) (A : Nat → Prop) (s : aC) (ad : Nat → Nat) (a : Act) (w : World) : Prop where
  qL : a.defers = B.marks
  size : a.tmps.size = s.n
  hz : ∀ t av, s.tmps t = some av → ∃ v, a.tmps[t]? = some v ∧ de (s.free A ad) ad w av v
  dz : ∀ k cs, s.mem k = some cs → ∃ (vs : List Value) (ty : TypeId), w.heap[ad k]? = some (.cells vs.toArray ty (0, 0)) ∧ bM (s.free A ad) ad w cs vs ∧ ¬ B.F (ad k)
  inj : ∀ k k' cs ar, s.mem k = some cs → s.mem k' = some ar → ad k = ad k' → k = k'
  below : jr B w
  up : ∀ b, B.W.heap.size ≤ b → A b
  j8 : sg B s ad
section
variable {B : eL} {A : Nat → Prop} {s : aC} {ad : Nat → Nat} {a : Act} {w w' : World}
theorem aC.YK (s : aC) (dst : Option Nat) (v : ah) (A : Nat → Prop) (ad : Nat → Nat) : (s.put dst v).free A ad = s.free A ad := by cases dst <;> rfl
theorem aC.x9 (s : aC) (dst : Option Nat) (v : ah) : (s.put dst v).mem = s.mem := by cases dst <;> rfl
theorem aC.th (s : aC) (dst : Option Nat) (v : ah) : (s.put dst v).n = s.n := by cases dst <;> rfl
theorem Rel.put {dst : Option Nat} {av : ah} {v : Value} (h : Rel B A s ad a w) (hd : ∀ d, dst = some d → d < s.n) (hv : de (s.free A ad) ad w av v) : Rel B A (s.put dst av) ad (a.put dst v) w := by
  cases dst with
  | none => exact h
  | some d =>
    have bb := hd d rfl;refine ⟨h.qL, by simp [aC.put, Act.put, h.size], fun t bv aB => ?_, h.dz, h.inj, h.below, h.up, h.j8⟩;simp only [aC.put] at aB
    by_cases e : t = d
    · subst e
      rw [cF] at aB;cases aB;exact ⟨v, by simp [Act.put, h.size, bb], hv⟩
    · rw [ct _ _ e] at aB
      obtain ⟨u, h1, h2⟩ := h.hz t bv aB;exact ⟨u, by simp only [Act.put]; rw [Array.getElem?_setIfInBounds_ne (Ne.symm e)]; exact h1, h2⟩
theorem Rel.lt {k : Nat} {cs : List AC} (h : Rel B A s ad a w) (af : s.mem k = some cs) : ad k < w.heap.size := by
  obtain ⟨vs, ty, h1, _⟩ := h.dz k cs af;exact (j2.1 h1).1
theorem Rel.call (h : Rel B A s ad a w) (ab : Below w.heap.size w w') : Rel B A s ad a w' := by
  have dx : ∀ b, s.free A ad b → b < w.heap.size → s.free A ad b ∧ w'.heap[b]? = w.heap[b]? := fun b cL hl => ⟨cL, ab.block b hl⟩;refine ⟨h.qL, h.size, fun t av aB => ?_, fun k cs af => ?_, h.inj, h.below.then ab, h.up, h.j8⟩
  · obtain ⟨v, h1, h2⟩ := h.hz t av aB
    exact ⟨v, h1, h2.map dx fun _ _ => rfl⟩
  · obtain ⟨vs, ty, h1, h2, h3⟩ := h.dz k cs af
    exact ⟨vs, ty, by rw [ab.block _ (h.lt af)]; exact h1, h2.map dx fun _ _ _ _ => rfl, h3⟩
theorem Rel.new {d : Nat} {cs : List AC} {vs : List Value} {ty : TypeId} (h : Rel B A s ad a w) (ok : s.cQ) (gj : d < s.n) (hm : s.mem d = none) (hv : bM (s.free A ad) ad w cs vs) (eb : ∀ x ∈ cs, ∀ j, x.owns j → ∃ ar, s.mem j = some ar) :
    Rel B A (s.ej d cs) (fun k => if k = d then w.heap.size else ad k) a (w.alloc (.cells vs.toArray ty)) := by
  have b7 : ∀ k ar, s.mem k = some ar → k ≠ d := fun k ar af e => by subst e; rw [hm] at af; cases af
  have dx : ∀ b, s.free A ad b → b < w.heap.size → (s.ej d cs).free A (fun k => if k = d then w.heap.size else ad k) b ∧ (w.alloc (.cells vs.toArray ty)).heap[b]? = w.heap[b]? := by
    intro b ab hl;refine ⟨⟨ab.1, fun k ar af => ?_⟩, Below.heap_alloc _ _ _ hl⟩;simp only [aC.ej] at af
    by_cases e : k = d
    · subst e; simp; omega
    · rw [ct _ _ e] at af
      simp only [e, if_false];exact ab.2 k ar af
  have cy : ∀ j, (∃ ar, s.mem j = some ar) → (if j = d then w.heap.size else ad j) = ad j := fun j ⟨ar, ae⟩ => by rw [if_neg (b7 j ar ae)]
  refine ⟨h.qL, h.size, fun t av aB => ?_, fun k ar af => ?_, fun k k' c1 c2 af eP e => ?_, h.below.then ((Below.refl _ _).alloc (dI _) _), h.up, fun k b af => ?_⟩
  · obtain ⟨v, h1, h2⟩ := h.hz t av aB
    exact ⟨v, h1, h2.map dx fun j ae => cy j (ok.hz t av j aB ae)⟩
  · simp only [aC.ej] at af
    by_cases e : k = d
    · subst e
      rw [cF] at af;cases af;refine ⟨vs, ty, ?_, hv.map dx fun j x aa ae => cy j (eb x aa j ae), ?_⟩
      · show (w.heap.push _)[if k = k then w.heap.size else ad k]? = _; simp
      · simp only [if_true]; exact fun ap => by have := B.lt _ ap; have := h.below.size; omega
    · rw [ct _ _ e] at af
      obtain ⟨us, t, h1, h2, h3⟩ := h.dz k ar af;refine ⟨us, t, ?_, h2.map dx fun j x aa ae => cy j (ok.dz k ar x j af aa ae), ?_⟩
      · simp only [e, if_false]; rw [Below.heap_alloc _ _ _ (h.lt af)]; exact h1
      · simp only [e, if_false]; exact h3
  · simp only [aC.ej] at af eP
    by_cases aG : k = d <;> by_cases aO : k' = d
    · rw [aG, aO]
    · rw [ct _ _ aO] at eP
      have := h.lt eP;simp [aG, aO] at e;omega
    · rw [ct _ _ aG] at af
      have := h.lt af;simp [aG, aO] at e;omega
    · rw [ct _ _ aG] at af
      rw [ct _ _ aO] at eP;simp [aG, aO] at e;exact h.inj k k' _ _ af eP e
  · obtain ⟨h1, h2⟩ := h.j8 k b af
    refine ⟨h1, ?_⟩;rw [if_neg (fun e => by subst e; exact absurd gj (Nat.not_lt.2 h1))];exact h2
theorem Rel.set {k : Nat} {cs ds : List AC} {us : List Value} (h : Rel B A s ad a w) (af : s.mem k = some cs) (hv : bM (s.free A ad) ad w ds us) : Rel B A (s.ej k ds) ad a (w.setRow (ad k) us.toArray) := by
  have ke : (s.ej k ds).free A ad = s.free A ad := by
    funext b;apply propext
    constructor
    · rintro ⟨dn, ab⟩
      refine ⟨dn, fun j ar ae => ?_⟩
      by_cases e : j = k
      · subst e; exact ab j ds (by simp [aC.ej, cF])
      · exact ab j ar (by simp only [aC.ej]; rw [ct _ _ e]; exact ae)
    · rintro ⟨dn, ab⟩
      refine ⟨dn, fun j ar ae => ?_⟩;simp only [aC.ej] at ae
      by_cases e : j = k
      · subst e; exact ab j cs af
      · rw [ct _ _ e] at ae; exact ab j ar ae
  obtain ⟨vs, ty, g1, g2, g3⟩ := h.dz k cs af;have nQ : (w.setRow (ad k) us.toArray).heap[ad k]? = some (.cells us.toArray ty (0, 0)) := setRow_heap w (ad k) vs.toArray us.toArray ty (0, 0) g1
  have v7 : ∀ b, b ≠ ad k → (w.setRow (ad k) us.toArray).heap[b]? = w.heap[b]? := fun b ab => by
    simp only [World.setRow, u0]; rw [if_neg (Ne.symm ab)]
  have dx : ∀ b, s.free A ad b → b < w.heap.size → s.free A ad b ∧ (w.setRow (ad k) us.toArray).heap[b]? = w.heap[b]? := fun b ab _ => ⟨ab, v7 b (Ne.symm (ab.2 k cs af))⟩;refine ⟨h.qL, h.size, fun t av aB => ?_, fun j ar ae => ?_, fun j dH c1 c2 ae iu e => ?_, ?_, h.up, h.j8⟩
  · obtain ⟨v, h1, h2⟩ := h.hz t av aB
    exact ⟨v, h1, by rw [ke]; exact h2.map dx fun _ _ => rfl⟩
  · simp only [aC.ej] at ae
    rw [ke]
    by_cases e : j = k
    · subst e
      rw [cF] at ae;cases ae;exact ⟨us, ty, nQ, hv.map dx fun _ _ _ _ => rfl, g3⟩
    · rw [ct _ _ e] at ae
      obtain ⟨wW, aiZ, h1, h2, h3⟩ := h.dz j ar ae;exact ⟨wW, aiZ, by rw [v7 _ (fun bm => e (h.inj j k _ _ ae af bm))]; exact h1, h2.map dx fun _ _ _ _ => rfl, h3⟩
  · have hold : ∀ i c, (s.ej k ds).mem i = some c → ∃ c', s.mem i = some c' := fun i c hi => by
      simp only [aC.ej] at hi
      by_cases e : i = k
      · exact ⟨cs, by rw [e]; exact af⟩
      · rw [ct _ _ e] at hi; exact ⟨c, hi⟩
    obtain ⟨d1, q1⟩ := hold j c1 ae;obtain ⟨d2, q2⟩ := hold dH c2 iu;exact h.inj j dH _ _ q1 q2 e
  · exact ⟨h.below.os, h.below.tape, h.below.output, by have := h.below.size; simpa [World.setRow] using this, fun b ab => (v7 b (fun e => by subst e; exact g3 ab)).trans (h.below.block b ab)⟩
end
def ah.closed (x : ah) : Prop := ∀ j, ¬ x.owns j
def kD (U : Nat → Prop) (ad : Nat → Nat) (W : World) (xs : List ah) (vs : List Value) : Prop :=
  xs.length = vs.length ∧ ∀ (i : Nat) (x : ah) (v : Value), xs[i]? = some x → vs[i]? = some v → de U ad W x v
structure au (P : Program) (f : FuncId) (args : List ah) (r : ah) : Prop where
  j9 : ∀ x ∈ args, x.closed
  bW : r.closed
  call : ∀ (U : Nat → Prop) (W : World) (vs : List Value), kD U id W args vs →
    Calls P f vs.toArray W fun e bk => ∃ v, e = .returned v ∧ de (fun b => U b ∨ W.heap.size ≤ b) id bk r v ∧ Below W.heap.size W bk
structure w9 (P : Program) (look : Operand → Option ah) (o : Oper) (av : ah) : Prop where
  ahS : ∀ cs b, o.op ≠ .select cs b
  ops : ∀ x ∈ o.op.operands, ∃ a, look x = some a
  run : ∀ (U : Nat → Prop) (ad : Nat → Nat) (W : World) (env : Operand → Value), (∀ x ∈ o.op.operands, ∀ a, look x = some a → de U ad W a (env x)) →
    ∃ v, (execOp env o).run P W = .ok (.value v) W ∧ de U ad W av v
  own : ∀ j, av.owns j → ∃ x ∈ o.op.operands, ∃ a, look x = some a ∧ a.owns j
def pick (P : Program) (ty : TypeId) (cs : List AC) (off : Nat) : Option bA :=
  match P.underlying ty with
  | some (.struct _) | some (.array _ _) => (P.info? ty).bind fun i => if off + i.size ≤ cs.length then some (.agg ((cs.drop off).take i.size)) else none
  | some _ => (cs[off]?).map .one
  | none => none
def eI (cs : List AC) (off : Nat) (ds : List AC) : List AC := cs.take off ++ ds ++ cs.drop (off + ds.length)
inductive vr (P : Program) (look : Operand → Option ah) (o : Oper) : List AC → Prop
  | alloc (ty : TypeId) (i : TypeInfo) (z : Value) (cs : List AC) (az : o.op = .alloc ty) (hi : P.info? ty = some i) (aN : i.zero = some z) (aj : cs = z.cells.toList.map .c) (h1 : (z.cells.toList.all fun v => v.oneCell') = true) : vr P look o cs
  | box (ty : TypeId) (x : Operand) (z : bA) (az : o.op = .box ty x) (aa : look x = some (.w z)) : vr P look o z.cells
def enters (P : Program) (f : FuncId) : Bool := match P.funcs[f]? with
  | some fn => fn.body.isSome && fn.name != "runtime.NumGoroutine"
  | none => false
def CB : Value → Bool
  | .agg cs => cs.toList.all fun v => v.oneCell'
  | .tuple _ => false
  | _ => true
def GW (w : World) : AC → Value → Nat → Prop
  | .p R, x, b => R.lu w x b
  | _, _, _ => False
def pX (fn : Fn) (cs : List AC) : e4 where
  holds w v := ∃ vs : List Value, v = .func fn #[] vs.toArray ∧ bM (fun _ => True) id w cs vs ∧ ∀ x ∈ cs, ∀ j, ¬ x.owns j
  lu w v b := ∃ vs : List Value, v = .func fn #[] vs.toArray ∧ ∃ (i : Nat) (x : AC) (u : Value), cs[i]? = some x ∧ vs[i]? = some u ∧ GW w x u b
  frame w w' v := by
    rintro ⟨vs, rfl, hl, aj⟩ ap
    have key : ∀ (i : Nat) (x : AC) (u : Value), cs[i]? = some x → vs[i]? = some u → gx (fun _ => True) id w' x u ∧ ∀ b, GW w' x u b → GW w x u b := by
      intro i x u aa hu;have h := hl.2 i x u aa hu;cases x with
      | c y => exact ⟨h, fun b ab => ab⟩
      | own k o => exact ⟨h, fun b ab => ab⟩
      | p R =>
        have := R.frame w w' u h.1 fun b ab => ap b ⟨vs, rfl, i, _, u, aa, hu, ab⟩;exact ⟨⟨this.1, fun _ _ => trivial⟩, this.2⟩
    refine ⟨⟨vs, rfl, ⟨hl.1, fun i x u aa hu => (key i x u aa hu).1⟩, aj⟩, ?_⟩;rintro b ⟨wW, e, i, x, u, aa, hu, ab⟩;have bm : vs = wW := by simpa using e
    subst bm;exact ⟨vs, rfl, i, x, u, aa, hu, (key i x u aa hu).2 b ab⟩
  iR w v b := by
    rintro ⟨vs, rfl, hl, aj⟩ ⟨wW, e, i, x, u, aa, hu, ab⟩;have bm : vs = wW := by simpa using e
    subst bm;have h := hl.2 i x u aa hu;cases x with
    | p R => exact R.iR _ _ _ h.1 ab
    | c y => cases ab
    | own k o => cases ab
  cell w v := by rintro ⟨vs, rfl, _⟩; rfl
theorem pX.Xh {U : Nat → Prop} {ad : Nat → Nat} {w : World} {v : Value} {fn : Fn} {cs : List AC} (h : gx U ad w (.p (pX fn cs)) v) : ∃ vs : List Value, v = .func fn #[] vs.toArray ∧ bM U id w cs vs := by
  obtain ⟨⟨vs, rfl, hl, aj⟩, ap⟩ := h;refine ⟨vs, rfl, hl.1, fun i x u aa hu => ?_⟩;have h := hl.2 i x u aa hu;cases x with
  | c y => exact h
  | own k o => exact h
  | p R => exact ⟨h.1, fun b ab => ap b ⟨vs, rfl, i, _, u, aa, hu, ab⟩⟩
structure tH (P : Program) (look : Operand → Option ah) (o : Oper) (f : FuncId) (args : List ah) : Prop where
  ex : ∃ c g, o.op = .call c ∧ c.callee = .value g ∧
    ((∃ bs : List Value, look g = some (.w (.one (.c (.func (.func f) bs.toArray #[])))) ∧ bs.map (fun b => some (yg b)) ++ c.args.toList.map look = args.map some ∧ bs.all CB = true) ∨
     ∃ cs : List AC, look g = some (.w (.one (.p (pX (.func f) cs)))) ∧ c.args.toList.map look ++ cs.map (fun x => some (.w (.one x))) = args.map some)
  enters : enters P f = true
structure w5 (P : Program) (look : Operand → Option ah) (o : Oper) (av : ah) : Prop where
  ops : ∀ x ∈ o.op.operands, ∃ a, look x = some a
  qh : av.closed
  run : ∀ (U : Nat → Prop) (ad : Nat → Nat) (W : World) (env : Operand → Value), (∀ x ∈ o.op.operands, ∀ a, look x = some a → de U ad W a (env x)) →
    ∃ v bk, (execOp env o).run P W = .ok (.value v) bk ∧ de (fun b => U b ∨ W.heap.size ≤ b) ad bk av v ∧ Below W.heap.size W bk
inductive lP (P : Program) (s : aC) (o : Oper) : aC → Prop
  | fresh (av : ah) (ak : w5 P s.look o av) (hd : ∀ d, o.dst = some d → d < s.n) : lP P s o (s.put o.dst av)
  | quiet (av : ah) (ak : w9 P s.look o av) (hd : ∀ d, o.dst = some d → d < s.n) : lP P s o (s.put o.dst av)
  | load (ty : TypeId) (x : Operand) (k off : Nat) (cs : List AC) (av : bA) (az : o.op = .load ty x) (aa : s.look x = some (.w (.one (.own k off)))) (hm : s.mem k = some cs) (hv : pick P ty cs off = some av) (hd : ∀ d, o.dst = some d → d < s.n) : lP P s o (s.put o.dst (.w av))
  | store (ty : TypeId) (x y : Operand) (k off : Nat) (cs : List AC) (z : bA) (i : TypeInfo) (az : o.op = .store ty x y) (aa : s.look x = some (.w (.one (.own k off)))) (ai : s.look y = some (.w z)) (hm : s.mem k = some cs) (hi : P.info? ty = some i) (hs : i.size = z.cells.length) (ab : off + z.cells.length ≤ cs.length) (hd : ∀ d, o.dst = some d → d < s.n) : lP P s o ((s.put o.dst (.cz [])).ej k (eI cs off z.cells))
  | new (cs : List AC) (d : Nat) (dP : o.dst = some d) (hm : s.mem d = none) (aw : vr P s.look o cs) (hd : d < s.n) : lP P s o ((s.ej d cs).put (some d) (.w (.one (.own d 0))))
  | call (f : FuncId) (args : List ah) (r : ah) (aj : tH P s.look o f args) (hp : au P f args r) (hd : ∀ d, o.dst = some d → d < s.n) : lP P s o (s.put o.dst r)
section
variable {P : Program} {B : eL} {A : Nat → Prop} {s s' : aC} {ad : Nat → Nat} {a : Act} {w : World} {o : Oper} {Q : Exit → Act → World → Prop}
theorem de.undef (U : Nat → Prop) : de U ad w (.cz []) undef := ⟨[], rfl, rfl, fun i x v h => by simp at h⟩
theorem Rel.look {x : Operand} {av : ah} (h : Rel B A s ad a w) (aa : s.look x = some av) : de (s.free A ad) ad w av (a.eval x) := by
  cases x with
  | tmp t =>
    obtain ⟨v, h1, h2⟩ := h.hz t av aa;have : a.eval (.tmp t) = v := by simp [Act.eval, Array.getD_eq_getD_getElem?, h1]
    rw [this]; exact h2
  | const v =>
    simp only [aC.look] at aa
    split at aa
    · rename_i h1; cases aa; exact ⟨rfl, h1⟩
    · cases aa
  | global g => cases aa; exact ⟨rfl, rfl⟩
  | func f => cases aa; exact ⟨rfl, rfl⟩
theorem bM.cellAt {U : Nat → Prop} {W : World} {xs : List AC} {vs : List Value} {g : Nat} {ty : TypeId} (h : bM U ad W xs vs) (an : W.heap[g]? = some (.cells vs.toArray ty (0, 0))) {i : Nat} {x : AC} (hi : xs[i]? = some x) :
    ∃ v, vs[i]? = some v ∧ W.cell? ⟨g, i, none⟩ = some v ∧ gx U ad W x v := by
  have bb : i < vs.length := by
    rw [← h.1];rcases gK i xs.length with q | q
    · exact q
    · rw [lJ q] at hi; cases hi
  refine ⟨vs[i], bN bb, ?_, h.2 i x _ hi (bN bb)⟩;simp [World.cell?, an, bb]
theorem bM.sub {U : Nat → Prop} {W : World} {xs : List AC} {vs : List Value} (h : bM U ad W xs vs) (off n : Nat) : bM U ad W ((xs.drop off).take n) ((vs.drop off).take n) := by
  refine ⟨by simp [h.1], fun i x v aa hv => ?_⟩;rw [List.getElem?_take] at aa hv
  split at aa
  · rename_i bb
    rw [if_pos bb] at hv;rw [fY] at aa hv;exact h.2 _ x v aa hv
  · cases aa
theorem bM.eI {U : Nat → Prop} {W : World} {xs ds : List AC} {vs us : List Value} (h : bM U ad W xs vs) (hd : bM U ad W ds us) (off : Nat) (ab : off + ds.length ≤ xs.length) : bM U ad W (eI xs off ds) (vs.take off ++ us ++ vs.drop (off + us.length)) := by
  have aG := h.1;have aO := hd.1;refine ⟨by simp [Proofs.YtbcecodakfejaaaGreat.eI, aG, aO], fun i x v aa hv => ?_⟩;unfold Proofs.YtbcecodakfejaaaGreat.eI at aa;have c5 : (xs.take off).length = off := by simp; omega
  have Ef : (vs.take off).length = off := by simp; omega
  by_cases h1 : i < off
  · rw [hK, fZ (by omega), fJ h1] at aa
    rw [hK, fZ (by omega), fJ h1] at hv;exact h.2 i x v aa hv
  · by_cases h2 : i < off + ds.length
    · rw [hK, gM (by omega), fZ (by omega), c5] at aa
      rw [hK, gM (by omega), fZ (by omega), Ef] at hv;exact hd.2 _ x v aa hv
    · rw [gM (by simp; omega), fY] at aa hv
      simp only [cO, c5, Ef] at aa hv;rw [← aO] at hv;have e : off + ds.length + (i - (off + ds.length)) = i := by omega
      rw [e] at aa hv;exact h.2 i x v aa hv
theorem Km {ty : TypeId} {A : Addr} {v : Value} {d : TypeDesc} (hu : P.underlying ty = some d) (hs : ∀ bi, d ≠ .struct bi) (aF : ∀ n e, d ≠ .array n e) (aj : w.cell? A = some v) : (loadVar ty A).run P w = .ok v w := by
  have h1 : (isAgg ty).run P w = .ok false w := by
    unfold isAgg;simp only [Sem.run_bind, run_underlying hu, Result.andThen_ok];cases d <;> first | rfl | (exact absurd rfl (hs _)) | (exact absurd rfl (aF _ _))
  unfold loadVar;simp only [Sem.run_bind, h1, Result.andThen_ok, n3, if_false];simp [load, Sem.run, aj]
theorem h5 {ty : TypeId} {i : TypeInfo} (hi : P.info? ty = some i) : (sizeOf ty).run P w = .ok i.size w := by
  simp [sizeOf, typeInfo, program, Sem.run_bind, Sem.run, hi, Result.andThen]
theorem Kl {ty : TypeId} {A : Addr} {vs : List Value} {i : TypeInfo} {d : TypeDesc} (hu : P.underlying ty = some d) (hd : (∃ bi, d = .struct bi) ∨ ∃ n e, d = .array n e) (hi : P.info? ty = some i) (hl : vs.length = i.size) (aj : ∀ j v, vs[j]? = some v → w.cell? (A.add j) = some v) :
    (loadVar ty A).run P w = .ok (.agg vs.toArray) w := by
  have h1 : (isAgg ty).run P w = .ok true w := by
    unfold isAgg;simp only [Sem.run_bind, run_underlying hu, Result.andThen_ok];rcases hd with ⟨bi, rfl⟩ | ⟨n, e, rfl⟩ <;> rfl
  unfold loadVar;simp only [Sem.run_bind, h1, Result.andThen_ok, if_true, h5 hi, ← hl, run_loadCells_list w A vs aj];rfl
end
section
variable {P : Program} {B : eL} {A : Nat → Prop} {s s' : aC} {ad : Nat → Nat} {a : Act} {w : World} {o : Oper} {Q : Exit → Act → World → Prop}
theorem R8 {U : Nat → Prop} {ty : TypeId} {cs : List AC} {off g : Nat} {av : bA} {vs : List Value} {t : TypeId} (hv : pick P ty cs off = some av) (an : w.heap[g]? = some (.cells vs.toArray t (0, 0))) (hl : bM U ad w cs vs) :
    ∃ v, (loadVar ty ⟨g, off, none⟩).run P w = .ok v w ∧ gh U ad w av v := by
  unfold pick at hv
  have key : ∀ d, P.underlying ty = some d → ((∃ bi, d = .struct bi) ∨ ∃ n e, d = .array n e) → ((P.info? ty).bind fun i => if off + i.size ≤ cs.length then some (bA.agg ((cs.drop off).take i.size)) else none) = some av → ∃ v, (loadVar ty ⟨g, off, none⟩).run P w = .ok v w ∧ gh U ad w av v := by
    intro d hu hd h;cases hi : P.info? ty with
    | none => rw [hi] at h; cases h
    | some i =>
      rw [hi] at h;simp only [kU] at h
      split at h
      · rename_i hle
        cases h;have hs := hl.sub off i.size;have hlen : ((vs.drop off).take i.size).length = i.size := by have := hl.1; simp; omega
        refine ⟨_, Kl hu hd hi hlen (fun j v ae => ?_), _, rfl, hs⟩;have iu : j < i.size := by rw [← hlen]; exact (bL.1 ae).1
        rw [fJ iu, fY] at ae;have k6 : (⟨g, off, none⟩ : Addr).add j = ⟨g, off + j, none⟩ := by unfold Addr.add; split <;> simp_all
        rw [k6];simp only [World.cell?, an];simpa using ae
      · cases h
  have Jg : ∀ d, P.underlying ty = some d → (∀ bi, d ≠ .struct bi) → (∀ n e, d ≠ .array n e) → (cs[off]?).map bA.one = some av → ∃ v, (loadVar ty ⟨g, off, none⟩).run P w = .ok v w ∧ gh U ad w av v := by
    intro d hu h1 h2 h;cases aa : cs[off]? with
    | none => rw [aa] at h; cases h
    | some x =>
      rw [aa] at h;cases h;obtain ⟨v, q1, q2, bB⟩ := hl.cellAt an aa;exact ⟨v, Km hu h1 h2 q2, bB⟩
  cases hu : P.underlying ty with
  | none => rw [hu] at hv; cases hv
  | some d =>
    rw [hu] at hv;cases d <;> first | exact key _ hu (.inl ⟨_, rfl⟩) hv | exact key _ hu (.inr ⟨_, _, rfl⟩) hv | exact Jg _ hu (fun _ h => by cases h) (fun _ _ h => by cases h) hv
theorem CT {f : FuncId} {args : Array Value} (h : enters P f = true) : (callFunc f args).run P w = .ok (.enter f args) w := by
  unfold enters at h;cases ap : P.funcs[f]? with
  | none => rw [ap] at h; cases h
  | some fn =>
    rw [ap] at h;simp only [c6, bne_iff_ne, ne_eq] at h;obtain ⟨h1, h2⟩ := h;simp [callFunc, program, Sem.run_bind, Sem.run, ap, Result.andThen, h2];intro h3;rw [h3] at h1;cases h1
def lW (ro : Option Nat) : Fence := { Fence.wide with round := ro }
theorem Xg {ro : Option Nat} {n : Nat} {P : Program} {f : FuncId} {args : Array Value} {w : World} {R : Ending → World → Prop} (h : Calls P f args w R) : CallsIn (lW ro) n P f args w R := callsIn_wide.2 h
theorem ahl {ro : Option Nat} {n : Nat} {P : Program} {row : String} {args : Array Value} {w : World} {R : Value → World → Prop} (h : Rows P row args w R) : RowsIn (lW ro) n P row args w R := fun c cs _ => by
  obtain ⟨v, w', al, hs⟩ := h c cs;exact ⟨v, w', al, stepsIn_wide.2 hs⟩
theorem ye {P : Program} {ad : Operand → Value} {o : Oper} {w w' : World} {x : Next} (h : (execOp ad o).run P w = .ok x w') (aa : ∀ d, x ≠ .defer d) : ∀ c, o.op ≠ .defer c := fun c aj => by
  simp only [execOp, aj, Sem.run_bind] at h;cases al : (resolve ad c o.type).run P w with
  | ok d w2 => rw [al] at h; simp only [Result.andThen_ok, Sem.run_pure, Result.ok.injEq] at h; exact aa d h.1.symm
  | halt r w2 => rw [al] at h; simp [Result.andThen] at h
theorem Oper.KY {ro : Option Nat} {n : Nat} {P : Program} {o : Oper} {a : Act} {w : World} {K : Act → World → Prop} {Q : Exit → Act → World → Prop} (h : o.wp P a w K Q) (hd : ∀ c, o.op ≠ .defer c) : o.wpIn (lW ro) n P a w K Q := by
  refine ⟨fun _ _ => trivial, ?_⟩;rw [Oper.semAt_eq _ _ _ hd];unfold Oper.wp at h;generalize (execOp a.eval o).run P w = r at *;have aw : (lW ro).depth.isSome = true → 1 ≤ n := fun h => by simp [lW, Fence.wide] at h
  cases r with
  | ok x w' => cases x <;> first | exact h | exact ⟨aw, Xg h⟩ | exact ⟨aw, ahl h⟩ | exact h.elim
  | halt x w' => cases x <;> exact h
def kA (P : Program) (c : Code) (Q : Exit → Act → World → Prop) (a : Act) (w : World) : Prop := ∀ ro, c.wpIn (lW ro) 0 P Q a w
section
variable {P : Program} {Q Lm : Exit → Act → World → Prop} {a : Act} {w : World} {c x y : Code}
theorem kA.top (h : kA P c Q a w) : c.wp P Q a w := wpIn_wide.1 (h none)
theorem nw (h : kA P c Q a w) (ak : ∀ e a w, Q e a w → Lm e a w) : kA P c Lm a w := fun ro => wpIn_mono (h ro) ak
theorem KU (h : kA P x (Exit.then (kA P y Q) Q) a w) : kA P (.seq x y) Q a w := fun ro => wpIn_seq (wpIn_mono (h ro) fun e a w ak => by cases e <;> first | exact ak ro | exact ak)
theorem TX (h : Q .normal a w) : kA P .skip Q a w := fun ro => wpIn_skip h
theorem TU {id : Nat} (h : Q (.exit id) a w) : kA P (.exit id) Q a w := fun ro => wpIn_exit h
theorem TW (h : Q .ret a w) : kA P .ret Q a w := fun ro => wpIn_ret h
theorem KR {c : Operand} {t : Bool} (aj : a.eval c = .bool t) (h : kA P (if t then x else y) Q a w) : kA P (.cond c x y) Q a w := fun ro => wpIn_cond aj (h ro)
theorem KQ {id : Nat} (h : kA P c (Exit.inBlock id Q) a w) : kA P (.block id c) Q a w := fun ro => wpIn_block (h ro)
theorem KT {id : Nat} {ops : Array Oper} (h : ∀ ro, wpOpsIn (lW ro) 0 P ops Q (List.range ops.size) a w) : kA P (.region id ops false) Q a w := fun ro => wpIn_region (h ro)
theorem TV {id : Nat} {ops : Array Oper} (hm : P.follows .mixedOrders = true) (h : ∀ ro, wpAnyIn (lW ro) 0 P .any ops Q ops.size (Array.replicate ops.size false) a { w with drawn := w.drawn + 1 }) : kA P (.region id ops true) Q a w := fun ro => wpIn_region_any hm (h ro)
end
theorem Oper.vd {v : Value} {w' : World} {next : Act → World → Prop} (h : (execOp a.eval o).run P w = .ok (.value v) w') (aw : next (a.put o.dst v) w') : o.wp P a w next Q := by
  unfold Oper.wp;rw [h];exact aw
theorem Rel.Pu {U : Nat → Prop} {x : ah} {v : Value} (aj : x.closed) (h : de U ad w x v) : de U id w x v := h.map (fun b ab _ => ⟨ab, rfl⟩) fun j ae => absurd ae (aj j)
theorem S6 {U : Nat → Prop} {v : Value} (h : CB v = true) : de U ad w (yg v) v := by
  cases v with
  | agg cs =>
    refine ⟨cs.toList, by simp, by simp, fun i x u aa hu => ?_⟩;rw [dL, hu] at aa;cases aa;exact ⟨rfl, cB.1 h u (dc hu)⟩
  | tuple vs => cases h
  | _ => exact ⟨rfl, rfl⟩
theorem lP.QY (h : lP P s o s') (aq : Rel B A s ad a w) : ∀ c, o.op ≠ .defer c := by
  cases h with
  | quiet av ak hd =>
    obtain ⟨v, h1, h2⟩ := ak.run (s.free A ad) ad w a.eval (fun x aa b ab => aq.look ab);exact ye h1 (fun d h => by cases h)
  | fresh av ak hd =>
    obtain ⟨v, bk, h1, h2, ab⟩ := ak.run (s.free A ad) ad w a.eval (fun x aa b ab => aq.look ab);exact ye h1 (fun d h => by cases h)
  | load ty x k off cs av az => intro c aj; rw [az] at aj; cases aj
  | store ty x y k off cs z i az => intro c aj; rw [az] at aj; cases aj
  | new cs d dP hm aw hd =>
    intro c aj;cases aw with
    | alloc ty i z cs az => rw [az] at aj; cases aj
    | box ty x z az => rw [az] at aj; cases aj
  | call f args r aj hp hd =>
    intro c lZ;obtain ⟨⟨c', g, az, _⟩, _⟩ := aj;rw [az] at lZ; cases lZ
theorem lP.sound (h : lP P s o s') (aq : Rel B A s ad a w) (ok : s.cQ) : o.wp P a w (fun a' w' => ∃ aX, Rel B A s' aX a' w') Q := by
  cases h with
  | quiet av ak hd =>
    obtain ⟨v, h1, h2⟩ := ak.run (s.free A ad) ad w a.eval (fun x aa b ab => aq.look ab);exact Oper.vd h1 ⟨ad, aq.put hd h2⟩
  | fresh av ak hd =>
    obtain ⟨v, bk, h1, h2, ab⟩ := ak.run (s.free A ad) ad w a.eval (fun x aa b ab => aq.look ab);refine Oper.vd h1 ⟨ad, (aq.call ab).put hd (h2.map (fun b cL hl => ⟨?_, rfl⟩) fun j ae => rfl)⟩;rcases cL with h | h
    · exact h
    · refine ⟨aq.up b (ht aq.below.size h), fun k cs af e => ?_⟩
      have := aq.lt af;omega
  | load ty x k off cs av az aa hm hv hd =>
    obtain ⟨vs, t, g1, g2, g3⟩ := aq.dz k cs hm;obtain ⟨v, h1, h2⟩ := R8 hv g1 g2;have hp : a.eval x = .pointer (some ⟨ad k, off, none⟩) := aq.look aa;refine Oper.vd (v := v) (w' := w) ?_ ⟨ad, aq.put hd h2⟩;simp only [execOp, az, Instr.loadAt, hp, Instr.sureAddr, Sem.run_bind, Sem.run_pure, Result.andThen_ok, h1]
  | store ty x y k off cs z i az aa ai hm hi hs ab hd =>
    obtain ⟨vs, t, g1, g2, g3⟩ := aq.dz k cs hm;have hp : a.eval x = .pointer (some ⟨ad k, off, none⟩) := aq.look aa;have aN : gh (s.free A ad) ad w z (a.eval y) := aq.look ai;have pt := aN.cells;have wh : (a.eval y).cells.size = z.cells.length := by have := pt.1; simp at this; exact this.symm
    have kj : (storeVar ty ⟨ad k, off, none⟩ (a.eval y)).run P w = .ok () (w.setRow (ad k) (vs.take off ++ (a.eval y).cells.toList ++ vs.drop (off + (a.eval y).cells.toList.length)).toArray) := by
      unfold storeVar;have b7 : ¬ ((a.eval y).cells.size ≠ i.size) := by rw [wh, hs]; simp
      simp only [Sem.run_bind, h5 hi, Result.andThen_ok, if_neg b7]
      have dD : ∀ v ∈ (a.eval y).cells.toList, v.oneCell' = true := fun v hv => by
        obtain ⟨j, ae⟩ := j1 hv;have bb : j < z.cells.length := by rw [pt.1]; exact (bL.1 ae).1
        exact (pt.2 j _ v (bN bb) ae).cell
      have := run_storeCells_at (P := P) (ad k) off t (a.eval y).cells.toList 0 vs.toArray w g1 (by have := g2.1; simp; omega) dD;simpa using this
    have hrel := (Rel.set (k := k) (ds := eI cs off z.cells) (aq.put (dst := o.dst) hd (de.undef _)) (by rw [aC.x9]; exact hm) (by rw [aC.YK]; exact g2.eI pt off ab));unfold Oper.wp
    have fW : (execOp a.eval o).run P w = .ok .skip (w.setRow (ad k) (vs.take off ++ (a.eval y).cells.toList ++ vs.drop (off + (a.eval y).cells.toList.length)).toArray) := by
      simp only [execOp, az, Instr.storeAt, hp, Instr.sureAddr, Sem.run_bind, Sem.run_pure, Result.andThen_ok, kj]
    rw [fW];exact ⟨ad, hrel⟩
  | new cs d dP hm aw hd =>
    have main : ∀ (vs : List Value) (ty : TypeId), bM (s.free A ad) ad w cs vs → (∀ x ∈ cs, ∀ j, x.owns j → ∃ ar, s.mem j = some ar) → (execOp a.eval o).run P w = .ok (.value (.pointer (some ⟨w.heap.size, 0, none⟩))) (w.alloc (.cells vs.toArray ty)) →
        o.wp P a w (fun a' w' => ∃ aX, Rel B A ((s.ej d cs).put (some d) (.w (.one (.own d 0)))) aX a' w') Q := by
      intro vs ty hl cy fW;refine Oper.vd fW ⟨fun k => if k = d then w.heap.size else ad k, ?_⟩;rw [dP];refine (aq.new ok hd hm hl cy).put (fun d' e => by cases e; exact hd) ?_;show Value.pointer _ = Value.pointer _;simp
    cases aw with
    | alloc ty i z cs az hi aN aj h1 =>
      subst aj;refine main z.cells.toList ty ⟨by simp, fun j x v aa hv => ?_⟩ (fun x aa j ae => ?_) ?_
      · rw [dL, hv] at aa
        cases aa;exact ⟨rfl, cB.1 h1 v (dc hv)⟩
      · obtain ⟨v, _, rfl⟩ := gV.1 aa
        cases ae
      · have s7 : (zeroValue ty).run P w = .ok z w := by simp [zeroValue, typeInfo, program, Sem.run_bind, Sem.run, hi, Result.andThen, aN]
        simp only [execOp, az, Instr.alloc, Sem.run_bind, s7, Result.andThen_ok, newVar, newRow, newObj, Sem.run];rfl
    | box ty x z az aa =>
      have aN : gh (s.free A ad) ad w z (a.eval x) := aq.look aa;refine main (a.eval x).cells.toList ty aN.cells (fun y ai j ae => ?_) ?_
      · cases x with
        | tmp t => exact ok.hz t _ j aa ⟨y, ai, ae⟩
        | const v =>
          simp only [aC.look] at aa
          split at aa
          · cases aa; simp [bA.cells] at ai; subst ai; cases ae
          · cases aa
        | global g => cases aa; simp [bA.cells] at ai; subst ai; cases ae
        | func g => cases aa; simp [bA.cells] at ai; subst ai; cases ae
      · simp only [execOp, az, Instr.box, newVar, newRow, newObj, Sem.run_bind, Sem.run, Result.andThen_ok]
        rfl
  | call f args r aj hp hd =>
    obtain ⟨⟨c, g, az, zH, aR⟩, zN⟩ := aj;have db : ∀ {y : Operand} {x : ah}, x ∈ args → s.look y = some x → de (s.free A ad) id w x (a.eval y) := fun {y x} aa ai => Rel.Pu (ad := ad) (hp.j9 x aa) (aq.look ai)
    obtain ⟨us, cW, fW⟩ : ∃ us : List Value, kD (s.free A ad) id w args us ∧ (execOp a.eval o).run P w = .ok (.enter f us.toArray) w := by
      rcases aR with ⟨bs, an, pe, xP⟩ | ⟨cs, an, pe⟩
      · have jd : a.eval g = .func (.func f) bs.toArray #[] := (aq.look an).1
        refine ⟨bs ++ c.args.toList.map a.eval, ?_, ?_⟩
        · refine ⟨by have := congrArg List.length pe; simpa using this.symm, fun i x v aa hv => ?_⟩
          have h1 : (bs.map (fun b => some (yg b)) ++ c.args.toList.map s.look)[i]? = some (some x) := by rw [pe, dL, aa]; rfl
          rcases gK i bs.length with bb | jR
          · rw [fZ (by simpa using bb), dL] at h1
            rw [fZ bb] at hv;rw [hv] at h1;simp only [hr, iT] at h1;subst h1;exact S6 (cB.1 xP v (dc hv))
          · rw [gM (by simpa using jR), dL] at h1
            rw [gM jR, dL] at hv;simp only [iD] at h1;cases ai : c.args.toList[i - bs.length]? with
            | none => rw [ai] at hv; cases hv
            | some y =>
              rw [ai] at h1 hv;simp only [hr, iT] at h1 hv;subst hv;exact db (dc aa) h1
        · have e : bs.toArray ++ c.args.map a.eval ++ #[] = (bs ++ c.args.toList.map a.eval).toArray := by
            rw [Array.append_empty];apply Array.ext';simp
          simp only [execOp, az, resolve, zH, Deferred.ofValue, jd];simp only [Sem.run_bind, Sem.run_pure, Result.andThen_ok, invoke];rw [e];exact CT zN
      · obtain ⟨vs, jd, c4⟩ := pX.Xh (ad := ad) (aq.look an)
        refine ⟨c.args.toList.map a.eval ++ vs, ?_, ?_⟩
        · refine ⟨by have := congrArg List.length pe; have h2 := c4.1; simp at this ⊢; omega, fun i x v aa hv => ?_⟩
          have h1 : (c.args.toList.map s.look ++ cs.map (fun x => some (.w (.one x))))[i]? = some (some x) := by rw [pe, dL, aa]; rfl
          rcases gK i c.args.toList.length with bb | jR
          · rw [fZ (by simpa using bb), dL] at h1
            rw [fZ (by simpa using bb), dL] at hv;cases ai : c.args.toList[i]? with
            | none => rw [ai] at hv; cases hv
            | some y =>
              rw [ai] at h1 hv;simp only [hr, iT] at h1 hv;subst hv;exact db (dc aa) h1
          · rw [gM (by simpa using jR), dL] at h1
            rw [gM (by simpa using jR)] at hv;simp only [iD] at h1 hv;cases ai : cs[i - c.args.toList.length]? with
            | none => rw [ai] at h1; cases h1
            | some y =>
              rw [ai] at h1;simp only [hr, iT] at h1;subst h1;exact c4.2 _ y v ai hv
        · have e : (#[] : Array Value) ++ c.args.map a.eval ++ vs.toArray = (c.args.toList.map a.eval ++ vs).toArray := by
            apply Array.ext';simp
          simp only [execOp, az, resolve, zH, Deferred.ofValue, jd];simp only [Sem.run_bind, Sem.run_pure, Result.andThen_ok, invoke];rw [e];exact CT zN
    unfold Oper.wp;rw [fW];refine (hp.call (s.free A ad) w _ cW).mono ?_;rintro e w' ⟨v, rfl, hv, ab⟩;refine ⟨ad, (aq.call ab).put hd (hv.map (fun b cL hl => ⟨?_, rfl⟩) fun j ae => absurd ae (hp.bW j))⟩;rcases cL with h | h
    · exact h
    · refine ⟨aq.up b (ht aq.below.size h), fun k cs af e => ?_⟩
      have := aq.lt af;omega
end
def ai6 : ah := .cz []
def want (ops : Array Oper) (o : Oper) (s : aC) : Option Bool :=
  match o.guard with
  | none => some true
  | some (g, b) =>
    match (ops[g]?).bind (·.dst) with
    | some d => match s.tmps d with
      | some (.w (.one (.c (.bool x)))) => some (some x == some b)
      | some (.cz _) => some false
      | _ => none
    | none => none
def mD (o : Oper) : Nat :=
  match o.op with
  | .load .. => 1
  | .store .. => 2
  | _ => 0
def wy (x y : Oper) : Bool := !(mD x == 2 && mD y != 0) && !(mD x != 0 && mD y == 2)
def addrOf (o : Oper) : Option Operand :=
  match o.op with
  | .load _ x => some x
  | .store _ x _ => some x
  | _ => none
def zc : ah → ah → Bool
  | .w (.one (.own k _)), .w (.one (.own j _)) => !Nat.beq k j
  | .w (.one (.own _ _)), .w (.one (.p _)) => true
  | .w (.one (.p _)), .w (.one (.own _ _)) => true
  | _, _ => false
theorem GO {k j o p : Nat} (h : zc (.w (.one (.own k o))) (.w (.one (.own j p))) = true) : k ≠ j := fun e => by
  subst e;simp [zc, Nat.beq_refl] at h
def yT (s : aC) (x y : Oper) : Prop := wy x y = true ∨ ∃ a b u v, addrOf x = some a ∧ addrOf y = some b ∧ s.look a = some u ∧ s.look b = some v ∧ zc u v = true
section
variable {P : Program} {B : eL} {A : Nat → Prop} {s s1 s2 s' : aC} {ad : Nat → Nat} {a : Act} {w : World} {o bp bz : Oper} {ops : Array Oper}
theorem Qd {x : Operand} {dst : Option Nat} {v : ah} (h : ∀ d, dst = some d → x ≠ .tmp d) : (s.put dst v).look x = s.look x := by
  cases dst with
  | none => rfl
  | some d =>
    cases x with
    | tmp t => simp only [aC.look, aC.put]; exact ct _ _ (fun e => h d rfl (by rw [e]))
    | _ => rfl
theorem acX {x : Operand} {k : Nat} {cs : List AC} : (s.ej k cs).look x = s.look x := by cases x <;> rfl
theorem w9.congr {look gI : Operand → Option ah} {av : ah} (h : w9 P look o av) (e : ∀ x ∈ o.op.operands, gI x = look x) : w9 P gI o av :=
  ⟨h.ahS, fun x aa => by rw [e x aa]; exact h.ops x aa, fun U ad W env he => h.run U ad W env fun x aa a aF => he x aa a (by rw [e x aa]; exact aF), fun j ae => by
    obtain ⟨x, aa, a, aF, Zx⟩ := h.own j ae;exact ⟨x, aa, a, by rw [e x aa]; exact aF, Zx⟩⟩
theorem w5.congr {look gI : Operand → Option ah} {av : ah} (h : w5 P look o av) (e : ∀ x ∈ o.op.operands, gI x = look x) : w5 P gI o av :=
  ⟨fun x aa => by rw [e x aa]; exact h.ops x aa, h.qh, fun U ad W env he => h.run U ad W env fun x aa a aF => he x aa a (by rw [e x aa]; exact aF)⟩
theorem vr.congr {look gI : Operand → Option ah} {cs : List AC} (h : vr P look o cs) (e : ∀ x ∈ o.op.operands, gI x = look x) : vr P gI o cs := by
  cases h with
  | alloc ty i z cs az hi aN aj h1 => exact .alloc ty i z cs az hi aN aj h1
  | box ty x z az aa => exact .box ty x z az (by rw [e x (by simp [az, Op.operands])]; exact aa)
theorem tH.congr {look gI : Operand → Option ah} {f : FuncId} {args : List ah} (h : tH P look o f args) (e : ∀ x ∈ o.op.operands, gI x = look x) : tH P gI o f args := by
  obtain ⟨⟨c, g, az, aj, aR⟩, he⟩ := h;have CR : gI g = look g := e g (by simp [az, Op.operands, Call.operands, aj]);have ih : c.args.toList.map gI = c.args.toList.map look := np fun x aa => e x (by simp [az, Op.operands, Call.operands, aj]; exact .inr (by simpa using aa));refine ⟨⟨c, g, az, aj, ?_⟩, he⟩;rcases aR with ⟨bs, an, aF, ab⟩ | ⟨cs, an, aF⟩
  · exact .inl ⟨bs, by rw [CR]; exact an, by rw [ih]; exact aF, ab⟩
  · exact .inr ⟨cs, by rw [CR]; exact an, by rw [ih]; exact aF⟩
theorem aC.put_comm (s : aC) {x y : Option Nat} (v u : ah) (h : ∀ d, x = some d → y ≠ some d) : (s.put x v).put y u = (s.put y u).put x v := by
  cases x with
  | none => rfl
  | some d =>
    cases y with
    | none => rfl
    | some e =>
      have b7 : e ≠ d := fun he => h d rfl (by rw [he]);simp only [aC.put];rw [TP _ _ _ b7]
theorem aC.ym (s : aC) (x : Option Nat) (v : ah) (k : Nat) (cs : List AC) : (s.put x v).ej k cs = (s.ej k cs).put x v := by cases x <;> rfl
theorem aC.ahU (s : aC) {k j : Nat} (cs ds : List AC) (h : j ≠ k) : (s.ej k cs).ej j ds = (s.ej j ds).ej k cs := by
  simp only [aC.ej];rw [TP _ _ _ h]
structure cu where
  v : ah
  m : Option (Nat × List AC)
def cu.on (e : cu) (dst : Option Nat) (s : aC) : aC :=
  match e.m with
  | some (k, cs) => (s.ej k cs).put dst e.v
  | none => s.put dst e.v
inductive eZ (P : Program) (n : Nat) (look : Operand → Option ah) (mem : Nat → Option (List AC)) (o : Oper) : Bool → cu → Prop
  | skip : eZ P n look mem o false ⟨.cz [], none⟩
  | quiet (av : ah) (ak : w9 P look o av) : eZ P n look mem o true ⟨av, none⟩
  | fresh (av : ah) (ak : w5 P look o av) : eZ P n look mem o true ⟨av, none⟩
  | load (ty : TypeId) (x : Operand) (k off : Nat) (cs : List AC) (av : bA) (az : o.op = .load ty x) (aa : look x = some (.w (.one (.own k off)))) (hm : mem k = some cs) (hv : pick P ty cs off = some av) : eZ P n look mem o true ⟨.w av, none⟩
  | store (ty : TypeId) (x y : Operand) (k off : Nat) (cs : List AC) (z : bA) (i : TypeInfo) (az : o.op = .store ty x y) (aa : look x = some (.w (.one (.own k off)))) (ai : look y = some (.w z)) (hm : mem k = some cs) (hi : P.info? ty = some i) (hs : i.size = z.cells.length) (ab : off + z.cells.length ≤ cs.length) : eZ P n look mem o true ⟨.cz [], some (k, eI cs off z.cells)⟩
  | new (cs : List AC) (d : Nat) (dP : o.dst = some d) (hm : mem d = none) (aw : vr P look o cs) : eZ P n look mem o true ⟨.w (.one (.own d 0)), some (d, cs)⟩
  | call (f : FuncId) (args : List ah) (r : ah) (aj : tH P look o f args) (hp : au P f args r) : eZ P n look mem o true ⟨r, none⟩
theorem eZ.step {e : cu} (h : eZ P s.n s.look s.mem o true e) (hd : ∀ d, o.dst = some d → d < s.n) : lP P s o (e.on o.dst s) := by
  cases h with
  | quiet av ak => exact .quiet av ak hd
  | fresh av ak => exact .fresh av ak hd
  | load ty x k off cs av az aa hm hv => exact .load ty x k off cs av az aa hm hv hd
  | store ty x y k off cs z i az aa ai hm hi hs ab =>
    have := lP.store (P := P) (s := s) ty x y k off cs z i az aa ai hm hi hs ab hd;rw [aC.ym] at this;exact this
  | new cs d dP hm aw =>
    have := lP.new (P := P) (s := s) cs d dP hm aw (hd d dP);rw [← dP] at this;exact this
  | call f args r aj hp => exact .call f args r aj hp hd
theorem cu.r2 (e : cu) (dst : Option Nat) (s : aC) : (e.on dst s).mem = match e.m with | some (k, cs) => bI s.mem k cs | none => s.mem := by
  unfold cu.on
  split
  · rename_i h; rw [aC.x9]; simp [aC.ej]
  · rename_i h; rw [aC.x9]
theorem cu.r1 (e : cu) (dst : Option Nat) (s : aC) {x : Operand} (h : ∀ d, dst = some d → x ≠ .tmp d) : (e.on dst s).look x = s.look x := by
  unfold cu.on
  split
  · rw [Qd h, acX]
  · rw [Qd h]
theorem cu.uR (e : cu) (dst : Option Nat) (s : aC) : (e.on dst s).n = s.n := by
  unfold cu.on
  split
  · rw [aC.th]; rfl
  · rw [aC.th]
theorem cu.A0 (e f : cu) (x y : Option Nat) (s : aC) (h : ∀ d, x = some d → y ≠ some d) (af : ∀ k cs j ds, e.m = some (k, cs) → f.m = some (j, ds) → j ≠ k) : f.on y (e.on x s) = e.on x (f.on y s) := by
  unfold cu.on;cases he : e.m with
  | none =>
    cases ap : f.m with
    | none => simp only [he, ap]; exact aC.put_comm s _ _ h
    | some q => obtain ⟨j, ds⟩ := q; simp only [he, ap]; rw [aC.ym]; exact aC.put_comm _ _ _ h
  | some p =>
    obtain ⟨k, cs⟩ := p;cases ap : f.m with
    | none => simp only [he, ap]; rw [aC.ym]; exact aC.put_comm _ _ _ h
    | some q =>
      obtain ⟨j, ds⟩ := q;simp only [he, ap];rw [aC.ym, aC.ym, aC.ahU s _ _ (af k cs j ds he ap)];exact aC.put_comm _ _ _ h
theorem uH {x : Operand} {d : Nat} {y : Oper} (h : d ∉ y.looksAt ops) (aa : x ∈ y.op.operands) : x ≠ .tmp d := fun e => h (by
  subst e;exact List.mem_append_left _ (List.mem_filterMap.2 ⟨.tmp d, by simpa using aa, rfl⟩))
theorem eZ.swap {b c : Bool} {e f : cu} (ok : s.cQ) (he : eZ P s.n s.look s.mem bp b e) (ap : eZ P (e.on bp.dst s).n (e.on bp.dst s).look (e.on bp.dst s).mem bz c f) (sO : bp.apart ops bz = true) (nb : yT s bp bz) :
    eZ P s.n s.look s.mem bz c f ∧ eZ P (f.on bz.dst s).n (f.on bz.dst s).look (f.on bz.dst s).mem bp b e ∧ f.on bz.dst (e.on bp.dst s) = e.on bp.dst (f.on bz.dst s) := by
  obtain ⟨a1, a2, a3⟩ := Oper.apart_spec sO;have lB : ∀ x ∈ bz.op.operands, (e.on bp.dst s).look x = s.look x := fun x aa => cu.r1 _ _ _ fun d hd => uH (a1 d hd) aa;have cZ := cu.r2 e bp.dst s
 
  have vU : ∀ k cs, e.m = some (k, cs) → (∃ ar, s.mem k = some ar) ∨ s.mem k = none := fun k cs _ => by
    cases h : s.mem k with
    | none => exact .inr rfl
    | some c => exact .inl ⟨c, rfl⟩
  have Rt : ∀ x k off, s.look x = some (.w (.one (.own k off))) → ∃ cs, s.mem k = some cs := fun x k off aa => by
    cases x with
    | tmp t => exact ok.hz t _ k aa ⟨.own k off, by simp [bA.cells], rfl⟩
    | const v => simp only [aC.look] at aa; split at aa <;> cases aa
    | global g => cases aa
    | func g => cases aa
 
  have Qv : ∀ x k off, addrOf bz = some x → mD bz ≠ 0 → s.look x = some (.w (.one (.own k off))) → (e.on bp.dst s).mem k = s.mem k := by
    intro x k off HT Ig aa;rw [cZ];cases he with
    | skip => rfl
    | quiet av ak => rfl
    | fresh av ak => rfl
    | load => rfl
    | call => rfl
    | store ty x' y' k' Ri cs z i az kk ai hm hi hs ab =>
      rcases nb with nb | ⟨a, b, q, p, aF, cL, ih, lq, b7⟩
      · exfalso
        have : mD bp = 2 := by simp [mD, az]
        simp [wy, this, Ig] at nb
      · simp only [addrOf, az, iT] at aF
        subst aF;rw [kk] at ih;cases ih;rw [HT] at cL;cases cL;rw [aa] at lq;cases lq;show bI s.mem k' _ k = s.mem k;exact ct _ _ (Ne.symm (GO b7))
    | new cs d dP hm aw =>
      obtain ⟨c, aj⟩ := Rt x k off aa;show bI s.mem d cs k = s.mem k;exact ct _ _ (fun e => by subst e; rw [hm] at aj; cases aj)
  have nK : eZ P s.n s.look s.mem bz c f := by
    cases ap with
    | skip => exact .skip
    | quiet av ak => exact .quiet av (ak.congr fun x aa => (lB x aa).symm)
    | fresh av ak => exact .fresh av (ak.congr fun x aa => (lB x aa).symm)
    | load ty x k off cs av az aa hm hv =>
      have kk : s.look x = some (.w (.one (.own k off))) := by rw [← lB x (by simp [az, Op.operands])]; exact aa
      exact .load ty x k off cs av az kk (by rw [← Qv x k off (by simp [addrOf, az]) (by simp [mD, az]) kk]; exact hm) hv
    | store ty x y k off cs z i az aa ai hm hi hs ab =>
      have kk : s.look x = some (.w (.one (.own k off))) := by rw [← lB x (by simp [az, Op.operands])]; exact aa
      exact .store ty x y k off cs z i az kk (by rw [← lB y (by simp [az, Op.operands])]; exact ai) (by rw [← Qv x k off (by simp [addrOf, az]) (by simp [mD, az]) kk]; exact hm) hi hs ab
    | new cs d dP hm aw =>
      refine .new cs d dP ?_ (aw.congr fun x aa => (lB x aa).symm);rw [cZ] at hm;cases l0 : e.m with
      | none => rw [l0] at hm; exact hm
      | some p =>
        obtain ⟨k, c⟩ := p;rw [l0] at hm
        by_cases ik : d = k
        · subst ik
          change bI s.mem d c d = none at hm
          rw [cF] at hm;cases hm
        · change bI s.mem k c d = none at hm
          rwa [ct _ _ ik] at hm
    | call g args r aj hp => exact .call g args r (aj.congr fun x aa => (lB x aa).symm) hp
  have kl : ∀ x ∈ bp.op.operands, (f.on bz.dst s).look x = s.look x := fun x aa => cu.r1 _ _ _ fun d hd => uH (a3 d hd) aa;have Qo := cu.r2 f bz.dst s
  have oy : eZ P (f.on bz.dst s).n (f.on bz.dst s).look (f.on bz.dst s).mem bp b e := by
    have Qs : ∀ x k off, addrOf bp = some x → mD bp ≠ 0 → s.look x = some (.w (.one (.own k off))) → (f.on bz.dst s).mem k = s.mem k := by
      intro x k off HT Ig aa;rw [Qo];cases nK with
      | skip => rfl
      | quiet av ak => rfl
      | fresh av ak => rfl
      | load => rfl
      | call => rfl
      | store ty x' y' k' Ri cs z i az kk ai hm hi hs ab =>
        rcases nb with nb | ⟨a, b, q, p, aF, cL, ih, lq, b7⟩
        · exfalso
          have : mD bz = 2 := by simp [mD, az]
          simp [wy, this, Ig] at nb
        · simp only [addrOf, az, iT] at cL
          subst cL;rw [kk] at lq;cases lq;rw [HT] at aF;cases aF;rw [aa] at ih;cases ih;show bI s.mem k' _ k = s.mem k;exact ct _ _ (GO b7)
      | new cs d dP hm aw =>
        obtain ⟨c, aj⟩ := Rt x k off aa;show bI s.mem d cs k = s.mem k;exact ct _ _ (fun e => by subst e; rw [hm] at aj; cases aj)
    cases he with
    | skip => exact .skip
    | quiet av ak => exact .quiet av (ak.congr fun x aa => kl x aa)
    | fresh av ak => exact .fresh av (ak.congr fun x aa => kl x aa)
    | load ty x k off cs av az aa hm hv => exact .load ty x k off cs av az (by rw [kl x (by simp [az, Op.operands])]; exact aa) (by rw [Qs x k off (by simp [addrOf, az]) (by simp [mD, az]) aa]; exact hm) hv
    | store ty x y k off cs z i az aa ai hm hi hs ab => exact .store ty x y k off cs z i az (by rw [kl x (by simp [az, Op.operands])]; exact aa) (by rw [kl y (by simp [az, Op.operands])]; exact ai) (by rw [Qs x k off (by simp [addrOf, az]) (by simp [mD, az]) aa]; exact hm) hi hs ab
    | new cs d dP hm aw =>
      refine .new cs d dP ?_ (aw.congr fun x aa => kl x aa);rw [Qo];cases nK with
      | skip => exact hm
      | quiet av ak => exact hm
      | fresh av ak => exact hm
      | load => exact hm
      | call => exact hm
      | store ty x' y' k' Ri ar z i az kk ai fV hi hs ab =>
        show bI s.mem k' _ d = none;rw [ct _ _ (fun e => by subst e; rw [hm] at fV; cases fV)];exact hm
      | new ar d' ZR fV Ir =>
        show bI s.mem d' _ d = none;rw [ct _ _ (fun e => a2 d dP (by rw [ZR, e]))];exact hm
    | call g args r aj hp => exact .call g args r (aj.congr fun x aa => kl x aa) hp
  refine ⟨nK, oy, cu.A0 e f bp.dst bz.dst s a2 ?_⟩;intro k cs j ds h1 h2 Yg;subst Yg;cases he with
  | skip => cases h1
  | quiet => cases h1
  | fresh => cases h1
  | load => cases h1
  | call => cases h1
  | store ty x y k' off ar z i az aa ai hm hi hs ab =>
    cases h1;cases nK with
    | skip => cases h2
    | quiet => cases h2
    | fresh => cases h2
    | load => cases h2
    | call => cases h2
    | store ai0 ck ob bo aeg tW z2 i2 qA IU =>
      cases h2;rcases nb with nb | ⟨a, b, q, p, aF, cL, ih, lq, b7⟩
      · simp [wy, mD, az, qA] at nb
      · simp only [addrOf, az, qA, iT] at aF cL
        subst aF;subst cL;rw [aa] at ih;rw [IU] at lq;cases ih;cases lq;exact GO b7 rfl
    | new tW d2 OH oA Is => cases h2; rw [oA] at hm; cases hm
  | new ar d dP hm aw =>
    cases h1;cases nK with
    | skip => cases h2
    | quiet => cases h2
    | fresh => cases h2
    | load => cases h2
    | call => cases h2
    | store ai0 ck ob bo aeg tW z2 i2 qA IU IX oA => cases h2; rw [oA] at hm; cases hm
    | new tW d2 OH oA Is => cases h2; exact a2 _ dP OH
end
section
variable {P : Program} {B : eL} {A : Nat → Prop} {s s1 s2 s' : aC} {ad : Nat → Nat} {a : Act} {w : World} {o bp bz : Oper} {ops : Array Oper} {md : Region.Mode}
theorem look_ok {x : Operand} {av : ah} {j : Nat} (ok : s.cQ) (aa : s.look x = some av) (ae : av.owns j) : ∃ cs, s.mem j = some cs := by
  have none : ∀ v, ¬ (ah.w (.one (.c v))).owns j := fun v ⟨y, ai, h⟩ => by simp [bA.cells] at ai; subst ai; cases h
  cases x with
  | tmp t => exact ok.hz t av j aa ae
  | const v =>
    simp only [aC.look] at aa
    split at aa
    · cases aa; exact absurd ae (none _)
    · cases aa
  | global g => cases aa; exact absurd ae (none _)
  | func g => cases aa; exact absurd ae (none _)
theorem aC.cQ.put {dst : Option Nat} {av : ah} (ok : s.cQ) (h : ∀ j, av.owns j → ∃ cs, s.mem j = some cs) : (s.put dst av).cQ := by
  cases dst with
  | none => exact ok
  | some d =>
    refine ⟨fun t bv j aB ae => ?_, ok.dz⟩;simp only [aC.put] at aB ⊢
    by_cases e : t = d
    · subst e; rw [cF] at aB; cases aB; exact h j ae
    · rw [ct _ _ e] at aB; exact ok.hz t bv j aB ae
theorem aC.cQ.ej {k : Nat} {cs : List AC} (ok : s.cQ) (h : ∀ x ∈ cs, ∀ j, x.owns j → ∃ ar, s.mem j = some ar) : (s.ej k cs).cQ := by
  have up : ∀ j, (∃ c, s.mem j = some c) → ∃ c, (s.ej k cs).mem j = some c := fun j ⟨c, aj⟩ => by
    by_cases e : j = k
    · exact ⟨cs, by rw [e]; exact cF _ _ _⟩
    · exact ⟨c, by simp only [aC.ej]; rw [ct _ _ e]; exact aj⟩
  refine ⟨fun t bv j aB ae => up j (ok.hz t bv j aB ae), fun k' c x j af aa ae => up j ?_⟩;simp only [aC.ej] at af
  by_cases e : k' = k
  · subst e; rw [cF] at af; cases af; exact h x aa j ae
  · rw [ct _ _ e] at af; exact ok.dz k' c x j af aa ae
theorem agi {ty : TypeId} {cs : List AC} {off : Nat} {av : bA} (h : pick P ty cs off = some av) : ∀ x ∈ av.cells, x ∈ cs := by
  unfold pick at h
  split at h
  · cases hi : P.info? ty with
    | none => rw [hi] at h; cases h
    | some i =>
      rw [hi] at h;simp only [kU] at h
      split at h
      · cases h; exact fun x aa => nn (n2 aa)
      · cases h
  · cases hi : P.info? ty with
    | none => rw [hi] at h; cases h
    | some i =>
      rw [hi] at h;simp only [kU] at h
      split at h
      · cases h; exact fun x aa => nn (n2 aa)
      · cases h
  · cases aa : cs[off]? with
    | none => rw [aa] at h; cases h
    | some y => rw [aa] at h; cases h; intro x kk; simp [bA.cells] at kk; subst kk; exact dc aa
  · cases h
theorem lP.ok (h : lP P s o s') (ok : s.cQ) : s'.cQ := by
  cases h with
  | quiet av ak hd =>
    refine ok.put fun j ae => ?_;obtain ⟨x, aa, b, ab, ZD⟩ := ak.own j ae;exact look_ok ok ab ZD
  | fresh av ak hd => exact ok.put fun j ae => absurd ae (ak.qh j)
  | load ty x k off cs av az aa hm hv hd =>
    refine ok.put fun j ae => ?_;obtain ⟨y, ai, mB⟩ := ae;exact ok.dz k cs y j hm (agi hv y ai) mB
  | store ty x y k off cs z i az aa ai hm hi hs ab hd =>
    rw [aC.ym];refine aC.cQ.put (ok.ej fun x aa j ae => ?_) fun j ae => (by obtain ⟨y, ai, _⟩ := ae; cases ai);unfold eI at aa;simp only [h0] at aa;rcases aa with (h1 | h1) | h1
    · exact ok.dz k cs x j hm (n2 h1) ae
    · exact look_ok ok ai ⟨x, h1, ae⟩
    · exact ok.dz k cs x j hm (nn h1) ae
  | new cs d dP hm aw hd =>
    refine aC.cQ.put (ok.ej fun x aa j ae => ?_) fun j ae => ?_
    · cases aw with
      | alloc ty i z cs az hi aN aj h1 => subst aj; obtain ⟨v, _, rfl⟩ := gV.1 aa; cases ae
      | box ty y z az ai => exact look_ok ok ai ⟨x, aa, ae⟩
    · obtain ⟨y, ai, mB⟩ := ae
      simp [bA.cells] at ai;subst ai;cases mB;exact ⟨cs, cF _ _ _⟩
  | call f args r aj hp hd => exact ok.put fun j ae => absurd ae (hp.bW j)
def sx (P : Program) (ops : Array Oper) (o : Oper) (K : aC → Prop) (s : aC) : Prop :=
  ∃ b, want ops o s = some b ∧ ∃ e, eZ P s.n s.look s.mem o b e ∧ (∀ d, o.dst = some d → d < s.n) ∧ K (e.on o.dst s)
def y6 (P : Program) (md : Region.Mode) (ops : Array Oper) (K : aC → Prop) : Nat → Array Bool → aC → Prop
  | 0, bw, s => Region.ready md ops bw = [] ∧ K s
  | fr + 1, bw, s => (Region.ready md ops bw = [] → K s) ∧
    ∀ i ∈ Region.ready md ops bw, ∀ o, ops[i]? = some o → sx P ops o (y6 P md ops K fr (bw.setIfInBounds i true)) s
theorem TY {b : Bool} (h : want ops o s = some b) (aq : Rel B A s ad a w) : Region.wanted o (yielded ops a.tmps) = b := by
  unfold want at h;unfold Region.wanted
  split at h
  · rename_i an; rw [an]; cases h; rfl
  · rename_i g bE an
    rw [an]
    split at h
    · rename_i d hd
      split at h
      · rename_i x aa
        cases h;obtain ⟨v, h1, h2⟩ := aq.hz d _ aa;obtain ⟨rfl, _⟩ := h2;simp [yielded, hd, h1]
      · rename_i xs aa
        cases h;obtain ⟨v, h1, h2⟩ := aq.hz d _ aa;obtain ⟨vs, rfl, _⟩ := h2;simp [yielded, hd, h1]
      · cases h
    · cases h
theorem zl {b : Bool} {e : cu} (ok : s.cQ) (he : eZ P s.n s.look s.mem o b e) (hd : ∀ d, o.dst = some d → d < s.n) : (e.on o.dst s).cQ := by
  cases b with
  | true => exact (he.step hd).ok ok
  | false => cases he; exact ok.put fun j ae => (by obtain ⟨y, ai, _⟩ := ae; cases ai)
theorem GB {ro : Option Nat} {K : aC → Prop} {lS : Act → World → Prop} {Q : Exit → Act → World → Prop} {i : Nat} (hi : ops[i]? = some o) (ok : s.cQ) (aq : Rel B A s ad a w) (h : sx P ops o K s)
    (fi : ∀ s' aX a' w', s'.cQ → Rel B A s' aX a' w' → K s' → lS a' w') : wpOpIn (lW ro) 0 P ops Q i lS a w := by
  obtain ⟨b, hw, e, he, hd, af⟩ := h;have pq := TY hw aq;unfold wpOpIn;simp only [hi];cases b with
  | true =>
    rw [pq];simp only [if_true];have cX := (he.step hd).ok ok;exact Oper.KY (Oper.wp_mono (fun a' w' ⟨aX, al⟩ => fi _ aX a' w' cX al af) (lP.sound (he.step hd) aq ok)) ((he.step hd).QY aq)
  | false =>
    rw [pq];simp only [n3, if_false];cases he;exact ⟨fun _ _ => trivial, fi _ ad _ _ (ok.put fun j ae => (by obtain ⟨y, ai, _⟩ := ae; cases ai)) (aq.put hd (de.undef _)) af⟩
theorem LC {ro : Option Nat} {K : aC → Prop} {Q : Exit → Act → World → Prop} (kd : ∀ s' aX a' w', s'.cQ → Rel B A s' aX a' w' → K s' → Q .normal a' w') : ∀ (fr : Nat) (bw : Array Bool) (s : aC) (ad : Nat → Nat) (a : Act) (w : World), s.cQ → Rel B A s ad a w →
    y6 P md ops K fr bw s → wpAnyIn (lW ro) 0 P md ops Q fr bw a w
  | 0, _, _, _, _, _, ok, aq, h => ⟨h.1, kd _ _ _ _ ok aq h.2⟩
  | fr + 1, bw, s, ad, a, w, ok, aq, h => ⟨fun aA => kd _ _ _ _ ok aq (h.1 aA), fun i hi => by
      obtain ⟨aA, o, az, _⟩ := mem_ready.1 hi;exact GB az ok aq (h.2 i hi o az) fun s' aX a' w' cX b6 af => LC kd fr _ s' aX a' w' cX b6 af⟩
theorem yE {b : Option Bool} {e : cu} {dst : Option Nat} (hl : ∀ d, dst = some d → d ∉ o.looksAt ops) : want ops o (e.on dst s) = want ops o s := by
  have aB : ∀ d, (∀ d', dst = some d' → d ≠ d') → (e.on dst s).tmps d = s.tmps d := fun d h => by
    have := cu.r1 e dst s (x := .tmp d) (fun d' lx bm => h d' lx (by cases bm; rfl));exact this
  unfold want;cases an : o.guard with
  | none => rfl
  | some p =>
    obtain ⟨g, bE⟩ := p;simp only;cases hd : (ops[g]?).bind (·.dst) with
    | none => rfl
    | some d =>
      simp only
      rw [aB d (fun d' lx bm => hl d' lx (by
        subst bm;unfold Oper.looksAt;rw [an];exact List.mem_append_right _ (by simp [hd])))]
theorem Vv {b : Bool} {e : cu} {K : aC → Prop} (ok : s.cQ) (hw : want ops bp s = some b) (he : eZ P s.n s.look s.mem bp b e) (um : ∀ d, bp.dst = some d → d < s.n) (sO : bp.apart ops bz = true) (nb : yT s bp bz) (h : sx P ops bz K (e.on bp.dst s)) :
    sx P ops bz (fun t => (want ops bp t = some b ∧ eZ P t.n t.look t.mem bp b e ∧ (∀ d, bp.dst = some d → d < t.n) ∧ t.cQ) ∧ K (e.on bp.dst t)) s := by
  obtain ⟨a1, a2, a3⟩ := Oper.apart_spec sO;obtain ⟨c, s5, f, ap, rL, af⟩ := h;obtain ⟨h1, h2, h3⟩ := eZ.swap ok he ap sO nb;rw [yE (b := none) a1] at s5;have vS : ∀ d, bz.dst = some d → d < s.n := fun d hd => by have := rL d hd; rwa [cu.uR] at this
  refine ⟨c, s5, f, h1, vS, ⟨?_, h2, fun d hd => by rw [cu.uR]; exact um d hd, zl ok h1 vS⟩, by rw [← h3]; exact af⟩;rw [yE (b := none) a3];exact hw
theorem Vu {K lS : aC → Prop} (h : ∀ s, K s → lS s) (aR : sx P ops o K s) : sx P ops o lS s :=
  let ⟨b, h1, e, h2, h3, aD⟩ := aR
  ⟨b, h1, e, h2, h3, h _ aD⟩
def qa (ops : Array Oper) (bw : Array Bool) (x y : Oper) (s : aC) : Prop :=
  wy x y = true ∨ ∃ t u o p, addrOf x = some (.tmp t) ∧ addrOf y = some (.tmp u) ∧ s.tmps t = some o ∧ s.tmps u = some p ∧ zc o p = true ∧
    ∀ i bp, ops[i]? = some bp → bw.getD i true = false → bp.dst ≠ some t ∧ bp.dst ≠ some u
theorem qa.sep {bw : Array Bool} (h : qa ops bw bp bz s) : yT s bp bz := by
  rcases h with h | ⟨t, u, o, p, h1, h2, h3, aD, cU, _⟩
  · exact .inl h
  · exact .inr ⟨_, _, o, p, h1, h2, h3, aD, cU⟩
theorem cu.yh {e : cu} {dst : Option Nat} {t : Nat} (h : dst ≠ some t) : (e.on dst s).tmps t = s.tmps t := by
  have := cu.r1 e dst s (x := .tmp t) (fun d hd bm => by cases bm; exact h hd);exact this
theorem qa.on {bw : Array Bool} {f : cu} {o : Oper} {i : Nat} (h : qa ops bw bp bz s) (az : ops[i]? = some o) (ly : bw.getD i true = false) : qa ops (bw.setIfInBounds i true) bp bz (f.on o.dst s) := by
  rcases h with h | ⟨t, u, q, p, h1, h2, h3, aD, cU, fs⟩
  · exact .inl h
  · obtain ⟨cE, cP⟩ := fs i o az ly
    refine .inr ⟨t, u, q, p, h1, h2, by rw [cu.yh cE]; exact h3, by rw [cu.yh cP]; exact aD, cU, fun eH bU hG uz => fs eH bU hG ?_⟩
    by_cases e : i = eH
    · subst e; exact ly
    · rwa [getD_set_ne true e] at uz
theorem Vw {b : Bool} {e : cu} {K : aC → Prop} (ok : s.cQ) (hw : want ops bp s = some b) (he : eZ P s.n s.look s.mem bp b e) (um : ∀ d, bp.dst = some d → d < s.n) (sO : bp.apart ops bz = true) (nb : yT s bp bz) (h : sx P ops bz K (e.on bp.dst s)) :
    sx P ops bz (fun t => (∃ f : cu, t = f.on bz.dst s) ∧ (want ops bp t = some b ∧ eZ P t.n t.look t.mem bp b e ∧ (∀ d, bp.dst = some d → d < t.n) ∧ t.cQ) ∧ K (e.on bp.dst t)) s := by
  obtain ⟨c, h1, f, h2, h3, aD⟩ := Vv ok hw he um sO nb h;exact ⟨c, h1, f, h2, h3, ⟨f, rfl⟩, aD⟩
def waits (md : Region.Mode) (ops : Array Oper) : Nat → Nat → Nat → Bool
  | 0, _, _ => false
  | f + 1, j, i => match ops[j]? with
    | some o => o.after.any fun e => Region.binds md e && (e.on == i || waits md ops f e.on i)
    | none => false
def Down (md : Region.Mode) (ops : Array Oper) (bw : Array Bool) : Prop := ∀ k o, bw.getD k false = true → ops[k]? = some o → ∀ e ∈ o.after, Region.binds md e = true → bw.getD e.on false = true
theorem KV {bw : Array Bool} (hd : Down md ops bw) : ∀ (f j i : Nat) (o : Oper), ops[j]? = some o → (∀ e ∈ o.after, Region.binds md e = true → bw.getD e.on false = true) → waits md ops f j i = true → bw.getD i false = true
  | 0, _, _, _, _, _, h => by cases h
  | f + 1, j, i, o, az, dD, h => by
    simp only [waits, az] at h;obtain ⟨e, he, ab⟩ := Array.any_eq_true'.1 h;simp only [c6, oJ, beq_iff_eq] at ab;obtain ⟨h1, h2⟩ := ab;have hl := dD e he h1;rcases h2 with h2 | h2
    · rw [← h2]; exact hl
    · cases hG : ops[e.on]? with
      | none => cases f <;> simp [waits, hG] at h2
      | some bU => exact KV hd f e.on i bU hG (fun bm oy cL => hd e.on bU hl hG bm oy cL) h2
theorem Down.set {bw : Array Bool} (hd : Down md ops bw) {j : Nat} (ae : j ∈ Region.ready md ops bw) : Down md ops (bw.setIfInBounds j true) := by
  intro k o af az e he ab;obtain ⟨_, bz, iM, dD⟩ := mem_ready.1 ae
  by_cases bm : j = k
  · subst bm
    rw [iM] at az;cases az;exact getD_set_true (dD e he ab)
  · refine getD_set_true (hd k o ?_ az e he ab)
    have : (bw.setIfInBounds j true).getD k false = bw.getD k false := by simp [Array.getElem?_setIfInBounds_ne bm]
    rwa [this] at af
theorem Vt {K : aC → Prop} {i : Nat} {b : Bool} {e : cu} (hi : ops[i]? = some bp) : ∀ (fr : Nat) (bw : Array Bool) (s : aC),
      (∀ j bz, ops[j]? = some bz → j ≠ i → bw.getD j true = false → (∀ e ∈ bz.after, Region.binds md e = true → e.on ≠ i) → waits md ops 4 j i = false → bp.apart ops bz = true ∧ qa ops bw bp bz s) →
      Down md ops bw → i ∈ Region.ready md ops bw → s.cQ → want ops bp s = some b → eZ P s.n s.look s.mem bp b e → (∀ d, bp.dst = some d → d < s.n) →
      y6 P md ops K fr (bw.setIfInBounds i true) (e.on bp.dst s) → y6 P md ops K (fr + 1) bw s := by
  intro fr
  induction fr with
  | zero =>
    intro bw s _ gj al ok hw he hd H;refine ⟨fun h => (by rw [h] at al; cases al), fun j ae bz iM => ?_⟩
    by_cases gm : j = i
    · subst gm; rw [hi] at iM; cases iM; exact ⟨b, hw, e, he, hd, H⟩
    · have := ready_mono ae gm
      rw [H.1] at this;cases this
  | succ fr b9 =>
    intro bw s ke gj al ok hw he hd H;refine ⟨fun h => (by rw [h] at al; cases al), fun j ae bz iM => ?_⟩
    by_cases gm : j = i
    · subst gm; rw [hi] at iM; cases iM; exact ⟨b, hw, e, he, hd, H⟩
    · have h1 := H.2 j (ready_mono ae gm) bz iM
      obtain ⟨vT, aeh, z1, dD⟩ := mem_ready.1 ae;rw [iM] at z1;cases z1
      have sX : ∀ e ∈ bz.after, Region.binds md e = true → e.on ≠ i := fun e he ab sS => by
        have h1 := dD e he ab;have aA := (mem_ready.1 al).1;rw [sS] at h1;rcases gK i bw.size with aM | aM
        · simp [aM] at aA h1; rw [aA] at h1; cases h1
        · simp [yn aM] at h1
      have s6 : waits md ops 4 j i = false := by
        cases s5 : waits md ops 4 j i with
        | false => rfl
        | true =>
          have h1 := KV gj 4 j i bz iM dD s5;have aA := (mem_ready.1 al).1;rcases gK i bw.size with aM | aM
          · simp [aM] at aA h1; rw [aA] at h1; cases h1
          · simp [yn aM] at h1
      obtain ⟨g1, g2⟩ := ke j bz iM gm vT sX s6;have h2 := Vw ok hw he hd g1 g2.sep h1;refine Vu (fun t h3 => ?_) h2;obtain ⟨⟨f, rfl⟩, h3⟩ := h3
      have H6 : ∀ k ok, ops[k]? = some ok → k ≠ i → (bw.setIfInBounds j true).getD k true = false →
          (∀ e ∈ ok.after, Region.binds md e = true → e.on ≠ i) → waits md ops 4 k i = false → bp.apart ops ok = true ∧ qa ops (bw.setIfInBounds j true) bp ok (f.on bz.dst s) := fun k ok af k8 ly jS IQ => by
        have uz : bw.getD k true = false := by
          by_cases k7 : j = k
          · subst k7; exact vT
          · rwa [getD_set_ne true k7] at ly
        obtain ⟨q1, q2⟩ := ke k ok af k8 uz jS IQ;exact ⟨q1, q2.on iM vT⟩
      refine b9 (bw.setIfInBounds j true) _ H6 (gj.set ae) (ready_mono al (Ne.symm gm)) h3.1.2.2.2 h3.1.1 h3.1.2.1 h3.1.2.2.1 ?_;rw [Array.setIfInBounds_comm _ _ gm];exact h3.2
def bg (P : Program) (ops : Array Oper) (K : aC → Prop) : List Oper → aC → Prop
  | [], s => K s
  | o :: rest, s => sx P ops o (bg P ops K rest) s
def JZ (x y : Oper) : Option (Nat × Nat) :=
  match addrOf x, addrOf y with
  | some (.tmp t), some (.tmp u) => some (t, u)
  | _, _ => none
def pz (ops : Array Oper) (bw : Array Bool) (t : Nat) : Bool := (List.range ops.size).all fun j => bw.getD j true || match ops[j]? with
  | some o => o.dst != some t
  | none => true
def mN (s : aC) (p : Nat × Nat) : Bool :=
  match s.tmps p.1, s.tmps p.2 with
  | some x, some y => zc x y
  | _, _ => false
def Eh (md : Region.Mode) (ops : Array Oper) (iB : List (Nat × Nat)) (bw : Array Bool) (i : Nat) : Bool :=
  match ops[i]? with
  | none => false
  | some bp => (List.range ops.size).all fun j => j == i || bw.getD j true || match ops[j]? with
      | some bz => wy bp bz || waits md ops 4 j i || match JZ bp bz with
        | some (t, u) => iB.contains (t, u) && pz ops bw t && pz ops bw u
        | none => false
      | none => true
theorem Ey {bw : Array Bool} {t : Nat} (h : pz ops bw t = true) (j : Nat) (o : Oper) (az : ops[j]? = some o) (ly : bw.getD j true = false) : o.dst ≠ some t := by
  unfold pz at h;simp only [cB, pL] at h;have := h j (j2.1 az).1;simp only [az, ly, Bool.false_or, bne_iff_ne, ne_eq] at this;exact this
theorem Qp {i : Nat} {iB : List (Nat × Nat)} {bw : Array Bool} (hi : ops[i]? = some bp) (h : Eh md ops iB bw i = true) (hs : ∀ p ∈ iB, pz ops bw p.1 = true → pz ops bw p.2 = true → mN s p = true) (j : Nat) (bz : Oper)
    (ae : ops[j]? = some bz) (b7 : j ≠ i) (ly : bw.getD j true = false) (jS : waits md ops 4 j i = false) : qa ops bw bp bz s := by
  simp only [Eh, hi, cB, pL] at h;have h1 := h j (j2.1 ae).1;simp only [ae, oJ, beq_iff_eq, b7, false_or, ly, n3] at h1;rcases h1 with (h1 | h1) | h1
  · exact .inl h1
  · rw [jS] at h1; cases h1
  · split at h1
    · rename_i t u hp
      simp only [c6] at h1;obtain ⟨⟨c1, c2⟩, jA⟩ := h1;have mz := hs (t, u) (by simpa using c1) c2 jA;unfold JZ at hp
      split at hp
      · rename_i gd oQ aG aO
        cases hp;unfold mN at mz
        split at mz
        · rename_i o e1 q1 q2
          exact .inr ⟨t, u, o, e1, aG, aO, q1, q2, mz, fun eH bU hG uz => ⟨Ey c2 eH bU hG uz, Ey jA eH bU hG uz⟩⟩
        · cases mz
      · cases hp
    · cases h1
def AO (md : Region.Mode) (ops : Array Oper) (iB : List (Nat × Nat)) : List Nat → Array Bool → Bool
  | [], bw => (Region.ready md ops bw).isEmpty
  | k :: ord, bw => (Region.ready md ops bw).contains k && Region.free md ops bw k && Eh md ops iB bw k && AO md ops iB ord (bw.setIfInBounds k true)
def getAll (l : List Oper) : List Nat → Option (List Oper)
  | [] => some []
  | i :: ord => match l[i]?, getAll l ord with
    | some o, some r => some (o :: r)
    | _, _ => none
theorem Hw {l : List Oper} : ∀ (ord : List Nat) (r : List Oper), getAll l ord = some r → r.length = ord.length ∧ ∀ (j : Nat), r[j]? = (ord[j]?).bind (l[·]?)
  | [], r, h => by cases h; exact ⟨rfl, fun j => by simp⟩
  | i :: ord, r, h => by
    simp only [getAll] at h
    split at h
    · rename_i o aV az al
      cases h;obtain ⟨h1, h2⟩ := Hw ord aV al;refine ⟨by simp [h1], fun j => ?_⟩;cases j with
      | zero => simp [az]
      | succ j => simpa using h2 j
    · cases h
theorem LD {K : aC → Prop} : ∀ (l : List Oper) (s : aC), bg P ops K l s → ∃ s', K s' ∧ ∀ t, (∀ o ∈ l, o.dst ≠ some t) → s'.tmps t = s.tmps t
  | [], s, h => ⟨s, h, fun _ _ => rfl⟩
  | o :: l, s, ⟨b, hw, e, he, hd, fi⟩ => by
    obtain ⟨s', h1, h2⟩ := LD l _ fi;exact ⟨s', h1, fun t aB => (h2 t fun bU hG => aB bU (by simp [hG])).trans (cu.yh (aB o (by simp)))⟩
theorem LB {K : aC → Prop} {iB : List (Nat × Nat)} : ∀ (ord : List Nat) (l : List Oper) (bw : Array Bool) (s : aC), l.length = ord.length → (∀ (j : Nat), l[j]? = (ord[j]?).bind (ops[·]?)) → (∀ k ∈ ord, bw.getD k true = false) → (∀ k, k < ops.size → bw.getD k true = false → k ∈ ord) → ord.Nodup → Down md ops bw → s.cQ →
    AO md ops iB ord bw = true → bg P ops (fun s => iB.all (mN s) = true ∧ K s) l s → y6 P md ops K l.length bw s
  | [], [], _, _, _, _, _, _, _, _, _, eM, h => ⟨by simpa [AO] using eM, h.2⟩
  | [], _ :: _, _, _, hlen, _, _, _, _, _, _, _, _ => by cases hlen
  | _ :: _, [], _, _, hlen, _, _, _, _, _, _, _, _ => by cases hlen
  | k :: ord, o :: l, bw, s, hlen, hl, ly, H4, hE, gj, ok, eM, h => by
    have aA : ops[k]? = some o := by simpa using (hl 0).symm
    have sR := LD _ _ h;simp only [AO, c6] at eM;obtain ⟨⟨⟨al, ap⟩, hm⟩, HF⟩ := eM;obtain ⟨b, hw, e, he, hd, fi⟩ := h
    have hs : ∀ p ∈ iB, pz ops bw p.1 = true → pz ops bw p.2 = true → mN s p = true := fun p hp cE cP => by
      obtain ⟨s', ⟨h1, _⟩, h2⟩ := sR
      have fI : ∀ t, pz ops bw t = true → ∀ bU ∈ o :: l, bU.dst ≠ some t := fun t aB bU hG => by
        obtain ⟨j, ae⟩ := j1 hG;rw [hl j] at ae;cases ak : (k :: ord)[j]? with
        | none => rw [ak] at ae; cases ae
        | some q => rw [ak] at ae; exact Ey aB q bU ae (ly _ (dc ak))
      have := cB.1 h1 p hp;unfold mN at this ⊢;rw [h2 p.1 (fI _ cE), h2 p.2 (fI _ cP)] at this;exact this
    rw [List.nodup_cons] at hE;have b7 : ∀ q ∈ ord, k ≠ q := fun q ak e => hE.1 (by rw [e]; exact ak);refine Vt aA l.length bw s (fun j bz h1 h2 h3 aD cU => ⟨Region.free_spec aA ap j bz h1 h2 h3 aD, Qp aA hm hs j bz h1 h2 h3 cU⟩) gj (by simpa using al) ok hw he hd ?_;refine LB ord l _ _ (by simpa using hlen) (fun j => by simpa using hl (j + 1)) (fun q ak => by rw [getD_set_ne true (b7 q ak)]; exact ly q (by simp [ak])) (fun q ak vV => ?_) hE.2 (gj.set (by simpa using al)) (zl ok he hd) HF fi
    by_cases bm : k = q
    · subst bm
      have : k < bw.size := by
        have := ly k (by simp);rcases gK k bw.size with aM | aM
        · exact aM
        · simp [yn aM] at this
      simp [this] at vV
    · rw [getD_set_ne true bm] at vV
      rcases fl.1 (H4 q ak vV) with aM | aM
      · exact absurd aM.symm bm
      · exact aM
def wz (ops : Array Oper) (ord : List Nat) : List (Nat × Nat) :=
  match ord with
  | [] => []
  | i :: rest => (match ops[i]? with
    | some bp => bif mD bp != 0 then rest.filterMap fun j => match ops[j]? with
        | some bz => bif wy bp bz || waits .any ops 4 j i then none else JZ bp bz
        | none => none
      else []
    | none => []) ++ wz ops rest
def early (o : Oper) : Bool := (match o.op with | .alloc _ => true | _ => false) && o.after.isEmpty && o.guard.isNone
def r3 (l : List Oper) : List Nat := ((List.range l.length).filter fun i => match l[i]? with | some o => early o | none => false) ++ (List.range l.length).filter fun i => match l[i]? with | some o => !early o | none => false
def fg (P : Program) (c : Code) (Q : Exit → aC → Prop) (s : aC) : Prop :=
  s.cQ → ∀ B A ad a w, Rel B A s ad a w → kA P c (fun e a' w' => ∃ s' aX, s'.cQ ∧ Rel B A s' aX a' w' ∧ Q e s') a w
def AV : List Nat → Bool
  | [] => true
  | x :: xs => !xs.contains x && AV xs
theorem JG : ∀ (l : List Nat), AV l = true → l.Nodup
  | [], _ => List.nodup_nil
  | x :: xs, h => by
    simp only [AV, c6, u1, List.contains_eq_mem, kq] at h;exact List.nodup_cons.2 ⟨h.1, JG xs h.2⟩
def Ni (l : List Oper) : Bool := Nat.beq (r3 l).length l.length && AV (r3 l) && (List.range l.length).all (fun i => (r3 l).contains i) && (r3 l).all (fun i => Nat.blt i l.length) && AO .any l.toArray (wz l.toArray (r3 l)) (r3 l) (Array.replicate l.length false)
theorem Mg {id : Nat} {l cm : List Oper} {Q : Exit → aC → Prop} (hm : P.follows .mixedOrders = true) (eM : Ni l = true) (hl : getAll l (r3 l) = some cm)
    (h : bg P l.toArray (fun s => (wz l.toArray (r3 l)).all (mN s) = true ∧ Q .normal s) cm s) : fg P (.region id l.toArray true) Q s := by
  intro ok B A ad a w aq;refine TV hm fun ro => ?_;unfold Ni at eM;simp only [c6, cB, pL, List.contains_eq_mem, cg] at eM;obtain ⟨⟨⟨⟨fD, b1⟩, b2⟩, ee⟩, dO⟩ := eM;obtain ⟨g1, g2⟩ := Hw _ _ hl;have hd : Rel B A s ad a { w with drawn := w.drawn + 1 } := aq.call ((Below.refl _ w).drew);refine LC (K := Q .normal) (fun s' aX a' w' cX b6 af => ⟨s', aX, cX, b6, af⟩) _ _ s ad a _ ok hd ?_;have nd := JG _ b1;have hlen : (r3 l).length = l.length := gL fD;have := LB (md := .any) (ops := l.toArray) (r3 l) cm (Array.replicate l.length false) s g1 (by simpa using g2) (fun q ak => by have := ee q ak; simp [Nat.blt_eq] at this; simp [this]) (fun q ak _ => b2 q (by simpa using ak)) nd (fun k o af => by exfalso; rcases gK k l.length with q | q <;> simp [Array.getElem?_replicate, q] at af) ok dO h;rw [g1, hlen] at this;simpa using this
theorem LF {ro : Option Nat} {K : aC → Prop} {Q : Exit → Act → World → Prop} (kd : ∀ s' aX a' w', s'.cQ → Rel B A s' aX a' w' → K s' → Q .normal a' w') : ∀ (l : List Oper) (k : Nat) (s : aC) (ad : Nat → Nat) (a : Act) (w : World), (∀ (j : Nat), l[j]? = ops[k + j]?) → s.cQ → Rel B A s ad a w →
    bg P ops K l s → wpOpsIn (lW ro) 0 P ops Q ((List.range l.length).map (k + ·)) a w
  | [], _, _, _, _, _, _, ok, aq, h => kd _ _ _ _ ok aq h
  | o :: l, k, s, ad, a, w, hl, ok, aq, h => by
    have aA : ops[k]? = some o := by simpa using (hl 0).symm
    have e : (List.range (o :: l).length).map (k + ·) = k :: (List.range l.length).map (k + 1 + ·) := by
      rw [jj, List.range_succ_eq_map, jJ, List.map_map];congr 1;apply np;intro j _;simp [pM, oK 1 j]
    rw [e, wpOpsIn_cons];refine GB aA ok aq h fun s' aX a' w' cX b6 af => LF kd l (k + 1) s' aX a' w' (fun j => by have := hl (j + 1); simpa [pM, oK 1 j] using this) cX b6 af
theorem Mf {id : Nat} {l : List Oper} {Q : Exit → aC → Prop} (h : bg P l.toArray (Q .normal) l s) : fg P (.region id l.toArray false) Q s := by
  intro ok B A ad a w aq;refine KT fun ro => ?_;have := LF (ro := ro) (ops := l.toArray) (K := Q .normal) (Q := fun e a' w' => ∃ s' aX, s'.cQ ∧ Rel B A s' aX a' w' ∧ Q e s') (fun s' aX a' w' cX b6 af => ⟨s', aX, cX, b6, af⟩) l 0 s ad a w (by simp) ok aq h;simpa using this
end
section
variable {P : Program} {B : eL} {A : Nat → Prop} {s s1 s2 s' : aC} {ad : Nat → Nat} {a : Act} {w : World} {Q : Exit → aC → Prop} {x y : Code}
def sC (next : aC → Prop) (Q : Exit → aC → Prop) : Exit → aC → Prop
  | .normal, s => next s
  | e, s => Q e s
theorem Mi (h : fg P x (sC (fun s' => fg P y Q s') Q) s) : fg P (.seq x y) Q s := by
  intro ok B A ad a w aq;refine KU (nw (h ok B A ad a w aq) ?_);rintro e a' w' ⟨s', aX, cX, b6, ak⟩;cases e <;> first | exact ak cX B A aX a' w' b6 | exact ⟨s', aX, cX, b6, ak⟩
theorem Mj (h : Q .normal s) : fg P .skip Q s := fun ok B A ad a w aq => TX ⟨s, ad, ok, aq, h⟩
theorem WV {id : Nat} (h : Q (.exit id) s) : fg P (.exit id) Q s := fun ok B A ad a w aq => TU ⟨s, ad, ok, aq, h⟩
theorem Mh (h : Q .ret s) : fg P .ret Q s := fun ok B A ad a w aq => TW ⟨s, ad, ok, aq, h⟩
theorem L9 {c : Operand} {t : Bool} (aj : s.look c = some (.w (.one (.c (.bool t))))) (h1 : t = true → fg P x Q s) (aA : t = false → fg P y Q s) : fg P (.cond c x y) Q s := by
  intro ok B A ad a w aq;have hv : a.eval c = .bool t := (aq.look aj).1;refine KR hv ?_;cases t with
  | true => exact h1 rfl ok B A ad a w aq
  | false => exact aA rfl ok B A ad a w aq
theorem Md {c : Operand} (aj : s.look c = some (.w (.one (.c (.bool true))))) (h1 : fg P x Q s) : fg P (.cond c x y) Q s := L9 aj (fun _ => h1) (fun e => by cases e)
theorem Mc {c : Operand} (aj : s.look c = some (.w (.one (.c (.bool false))))) (aA : fg P y Q s) : fg P (.cond c x y) Q s := L9 aj (fun e => by cases e) (fun _ => aA)
def xe (id : Nat) (Q : Exit → aC → Prop) : Exit → aC → Prop
  | .exit l7, s => bif Nat.beq l7 id then Q .normal s else Q (.exit l7) s
  | e, s => Q e s
theorem WT {id : Nat} (h : fg P x (xe id Q) s) : fg P (.block id x) Q s := by
  intro ok B A ad a w aq;refine KQ (nw (h ok B A ad a w aq) ?_);rintro e a' w' ⟨s', aX, cX, b6, ak⟩;cases e with
  | exit l7 =>
    simp only [Exit.inBlock];simp only [xe] at ak;cases ab : Nat.beq l7 id with
    | true => rw [ab] at ak; rw [if_pos (gL ab)]; exact ⟨s', aX, cX, b6, ak⟩
    | false =>
      rw [ab] at ak;have : l7 ≠ id := fun e => by subst e; rw [Nat.beq_refl] at ab; cases ab
      rw [if_neg this]; exact ⟨s', aX, cX, b6, ak⟩
  | _ => exact ⟨s', aX, cX, b6, ak⟩
structure aC.aK (s s' : aC) : Prop where
  n : s'.n = s.n
  hz : ∀ t av, s'.tmps t = some av → s.tmps t = some av
  dz : ∀ k cs, s'.mem k = some cs → s.mem k = some cs
theorem Rel.le (h : Rel B A s ad a w) (l : s.aK s') : Rel B A s' ad a w := by
  have ap : ∀ b, s.free A ad b → b < w.heap.size → s'.free A ad b ∧ w.heap[b]? = w.heap[b]? := fun b ab _ => ⟨⟨ab.1, fun k cs af => ab.2 k cs (l.dz k cs af)⟩, rfl⟩;refine ⟨h.qL, by rw [l.n]; exact h.size, fun t av aB => ?_, fun k cs af => ?_, fun k k' c c' af eP e => h.inj k k' c c' (l.dz _ _ af) (l.dz _ _ eP) e, h.below, h.up, fun k b af => by rw [l.n]; exact h.j8 k b af⟩
  · obtain ⟨v, h1, h2⟩ := h.hz t av (l.hz t av aB)
    exact ⟨v, h1, h2.map ap fun _ _ => rfl⟩
  · obtain ⟨vs, ty, h1, h2, h3⟩ := h.dz k cs (l.dz k cs af)
    exact ⟨vs, ty, h1, h2.map ap fun _ _ _ _ => rfl, h3⟩
theorem KS {c : Code} {Q : Exit → Act → World → Prop} (I : Nat → Act → World → Prop) {n : Nat} (h₀ : I n a w)
    (round : ∀ n a w, I n a w → kA P c (Exit.then (fun a' w' => ∃ m, m < n ∧ I m a' w') Q) a w) : kA P (Code.loop c) Q a w := by
  intro ro b k cs jD ab my
  have key : ∀ n a w, I n a w →
      ∃ e a' w', Q e a' w' ∧ ArrivesIn (Machine.fenced P (lW ro)) P (lone (b.atR a (.code c :: .inLoop c :: k)) cs w) b k cs e a' w' := by
    intro n
    induction n using Nat.strongRecOn with
    | _ n b9 =>
      intro a w bl;obtain ⟨e, xj, yG, ak, uj⟩ := round n a w bl ro b (.inLoop c :: k) cs jD ab my;cases e with
      | normal =>
        obtain ⟨m, bb, Zh⟩ := ak;obtain ⟨Yy, WZ, ajl, aaP, Zy⟩ := b9 m bb xj yG Zh;exact ⟨Yy, WZ, ajl, aaP, .of_steps (StepsIn.trans uj (.one (fenced_calm ab my rfl) stepR_inLoop)) Zy⟩
      | exit id => exact ⟨_, xj, yG, ak, .pass (x := .inLoop c) rfl (fun _ _ => .inl (by simp)) uj⟩
      | goto l => exact ⟨_, xj, yG, ak, .pass (x := .inLoop c) rfl (fun _ _ => .inl (by simp)) uj⟩
      | ret => exact ⟨_, xj, yG, ak, .pass (x := .inLoop c) rfl (fun _ _ => .inl (by simp)) uj⟩
      | panic ch => exact ⟨_, xj, yG, ak, .pass (x := .inLoop c) rfl (fun _ _ => .inl (by simp)) uj⟩
      | outgrown => exact ⟨_, xj, yG, ak, .pass (x := .inLoop c) rfl (fun _ _ => .inl (by simp)) uj⟩
  obtain ⟨e, a', w', ak, uj⟩ := key _ a w h₀;exact ⟨e, a', w', ak, .of_steps (.one (fenced_calm ab my rfl) stepR_loop) uj⟩
theorem Me (I : Nat → aC → Prop) (n : Nat) (dV : aC) (pw : s.aK dV) (aei : dV.cQ) (aA : I n dV)
    (round : ∀ n s, I n s → fg P x (sC (fun s' => ∃ m, m < n ∧ ∃ Bo, s'.aK Bo ∧ Bo.cQ ∧ I m Bo) Q) s) : fg P (.loop x) Q s := by
  intro ok B A ad a w aq;refine KS (fun n a w => ∃ s ad, s.cQ ∧ Rel B A s ad a w ∧ I n s) ⟨dV, ad, aei, aq.le pw, aA⟩ ?_;rintro n a w ⟨s, ad, ok, aq, bl⟩;refine nw (round n s bl ok B A ad a w aq) ?_;rintro e a' w' ⟨s', aX, cX, b6, ak⟩;cases e with
  | normal =>
    obtain ⟨m, hm, Bo, hl, wF, cr⟩ := ak;exact ⟨m, hm, Bo, aX, wF, b6.le hl, cr⟩
  | _ => exact ⟨s', aX, cX, b6, ak⟩
def ah.aK (x y : ah) : Prop := ∀ U ad W v, de U ad W x v → de U ad W y v
theorem ah.aK.refl (x : ah) : x.aK x := fun _ _ _ _ h => h
theorem ah.aK.of_eq {x y : ah} (h : x = y) : x.aK y := by subst h; exact .refl x
def jl (P : Program) (s : aC) : ResultVar → Option bA
  | .tmp t => match s.tmps t with
    | some (.w x) => some x
    | _ => none
  | .cell a ty => match s.tmps a with
    | some (.w (.one (.own k off))) => (s.mem k).bind (pick P ty · off)
    | _ => none
def packed : List bA → ah
  | [x] => .w x
  | xs => .cz xs
def zd (P : Program) (fn : Func) (r : ah) : Exit → aC → Prop
  | .normal, s | .ret, s => ∃ xs, fn.results.toList.map (jl P s) = xs.map some ∧ (packed xs).aK r
  | _, _ => False
theorem Td {α : Type} {f : α → Sem Value} : ∀ (l : List α) (vs : List Value), l.length = vs.length → (∀ (i : Nat) x v, l[i]? = some x → vs[i]? = some v → (f x).run P w = .ok v w) → (l.mapM f).run P w = .ok vs w
  | [], [], _, _ => rfl
  | [], _ :: _, h, _ => by cases h
  | _ :: _, [], h, _ => by cases h
  | x :: l, v :: vs, hl, h => by
    have aA := h 0 x v rfl rfl;have b9 := Td l vs (by simpa using hl) (fun i x v aa hv => h (i + 1) x v (by simpa using aa) (by simpa using hv));rw [List.mapM_cons];simp only [Sem.run_bind, aA, Result.andThen_ok, b9];rfl
def Bb (a : Act) : ResultVar → Sem Value
  | .tmp t => pure (a.tmps.getD t undef)
  | .cell b t => do loadVar t (← asAddr (a.tmps.getD b undef))
theorem agZ (fn : Func) (a : Act) : results fn a.tmps = (do let vs ← fn.results.mapM (Bb a); pure (if h : vs.size = 1 then vs[0] else .tuple vs)) := rfl
theorem agY {v : ResultVar} {z : bA} (aq : Rel B A s ad a w) (h : jl P s v = some z) : ∃ u, (Bb a v).run P w = .ok u w ∧ gh (s.free A ad) ad w z u := by
  cases v with
  | tmp t =>
    simp only [jl] at h
    split at h
    · rename_i x aa
      cases h;obtain ⟨v, h1, h2⟩ := aq.hz t _ aa;refine ⟨v, ?_, h2⟩;simp [Bb, Array.getD_eq_getD_getElem?, h1]
    · cases h
  | cell b ty =>
    simp only [jl] at h
    split at h
    · rename_i k off aa
      cases hm : s.mem k with
      | none => rw [hm] at h; cases h
      | some cs =>
        rw [hm] at h;obtain ⟨vs, t, g1, g2, g3⟩ := aq.dz k cs hm;obtain ⟨u, h1, h2⟩ := R8 h g1 g2;obtain ⟨p, q1, q2⟩ := aq.hz b _ aa;cases q2;refine ⟨u, ?_, h2⟩;simp only [Bb, Array.getD_eq_getD_getElem?, q1, Option.getD_some, asAddr, Sem.run_bind, Sem.run_pure, Result.andThen_ok, h1]
    · cases h
theorem SU {fn : Func} {xs : List bA} (aq : Rel B A s ad a w) (h : fn.results.toList.map (jl P s) = xs.map some) : ∃ v, (results fn a.tmps).run P w = .ok v w ∧ de (s.free A ad) ad w (packed xs) v := by
  have key : ∀ (l : List ResultVar) (xs : List bA), l.map (jl P s) = xs.map some → ∃ vs : List Value, vs.length = xs.length ∧ l.length = vs.length ∧ (∀ (i : Nat) r u, l[i]? = some r → vs[i]? = some u → (Bb a r).run P w = .ok u w) ∧ ∀ (i : Nat) x u, xs[i]? = some x → vs[i]? = some u → gh (s.free A ad) ad w x u := by
    intro l
    induction l with
    | nil => intro xs h; cases xs with
      | nil => exact ⟨[], rfl, rfl, fun i r u h => by simp at h, fun i x u h => by simp at h⟩
      | cons => cases h
    | cons r l b9 =>
      intro xs h;cases xs with
      | nil => cases h
      | cons x xs =>
        simp only [jJ, List.cons.injEq] at h;obtain ⟨vs, aG, aO, cl, ey⟩ := b9 xs h.2;obtain ⟨u, q1, q2⟩ := agY aq h.1;refine ⟨u :: vs, by simp [aG], by simp [aO], fun i aV oQ h1 h2 => ?_, fun i x' oQ h1 h2 => ?_⟩
        · cases i with
          | zero => simp at h1 h2; subst h1; subst h2; exact q1
          | succ i => exact cl i aV oQ (by simpa using h1) (by simpa using h2)
        · cases i with
          | zero => simp at h1 h2; subst h1; subst h2; exact q2
          | succ i => exact ey i x' oQ (by simpa using h1) (by simpa using h2)
  obtain ⟨vs, aG, aO, cl, ey⟩ := key _ _ h;have hm := Td (P := P) (w := w) _ vs aO cl
  have fW : (results fn a.tmps).run P w = .ok (if h : vs.toArray.size = 1 then vs.toArray[0] else .tuple vs.toArray) w := by
    rw [agZ, Array.mapM_eq_mapM_toList];simp only [map_eq_pure_bind, bind_assoc, Sem.run_bind];rw [hm];simp only [Result.andThen_ok, Sem.run_bind, Sem.run_pure]
  refine ⟨_, fW, ?_⟩
  match vs, xs, aG, ey with
  | [], [], _, _ => exact ⟨[], rfl, rfl, fun i x v h => by simp at h⟩
  | [v], [x], _, ey => exact ey 0 x v rfl rfl
  | v1 :: v2 :: vs, b4 :: ck :: xs, aG, ey =>
    rw [dif_neg (by simp)];exact ⟨v1 :: v2 :: vs, rfl, aG.symm, ey⟩
def start (n : Nat) (args : List ah) : aC := ⟨n, fun t => args[t]?, fun _ => none⟩
def tG (P : Program) (c : Code) (Q : Exit → aC → Prop) (s : aC) : Prop :=
  s.cQ → ∀ W A ad a w, Rel (eL.all W) A s ad a w → c.wp P (fun e a' w' => ∃ s' aX, s'.cQ ∧ Rel (eL.all W) A s' aX a' w' ∧ Q e s') a w
theorem R7 {f : FuncId} {fn : Func} {c : Code} {args : List ah} {r : ah} (ap : P.funcs[f]? = some fn) (ab : fn.body = some c) (aw : args.length ≤ fn.ntmps) (j9 : ∀ x ∈ args, x.closed) (bW : r.closed)
    (h : tG P c (zd P fn r) (start fn.ntmps args)) : au P f args r := by
  refine ⟨j9, bW, fun U W vs cW => ?_⟩;have hl := cW.1
 
  refine calls_of_wp ap ab ?_;have ok : (start fn.ntmps args).cQ := ⟨fun t av j aB ae => absurd ae (j9 av (dc aB) j), fun k cs x j af => by cases af⟩
  have aq : Rel (eL.all W) (fun b => U b ∨ W.heap.size ≤ b) (start fn.ntmps args) id { tmps := vs.toArray ++ Array.replicate (fn.ntmps - vs.toArray.size) undef, defers := [] } W := by
    refine ⟨rfl, by simp [start]; omega, fun t av aB => ?_, (fun k cs af => by cases af), (fun k k' cs ar af => by cases af), jr.refl (eL.all W), fun b ab => .inr ab, fun k b af => (by cases af)⟩;have bb : t < vs.length := by rw [← hl]; exact (bL.1 aB).1
    refine ⟨vs[t], by simp [Array.getElem?_append, bb], ?_⟩;exact (cW.2 t av _ aB (bN bb)).map (fun b ab _ => ⟨⟨.inl ab, fun k cs af => by cases af⟩, rfl⟩) fun _ _ => rfl
  refine wp_mono (h ok W _ id _ W aq) ?_;rintro e a' w' ⟨s', aX, cX, b6, ak⟩
  have fin : (∃ xs, fn.results.toList.map (jl P s') = xs.map some ∧ (packed xs).aK r) → a'.defers = [] ∧ ∃ v, (results fn a'.tmps).run P w' = .ok v w' ∧ ∃ u, Ending.returned v = .returned u ∧ de (fun b => U b ∨ W.heap.size ≤ b) id w' r u ∧ Below W.heap.size W w' := by
    rintro ⟨xs, h1, h2⟩;obtain ⟨v, q1, q2⟩ := SU b6 h1;exact ⟨b6.qL, v, q1, v, rfl, (h2 _ _ _ _ q2).map (fun b ab _ => ⟨ab.1, rfl⟩) fun j ae => absurd ae (bW j), b6.below.all⟩
  cases e with
  | normal => exact fin ak
  | ret => exact fin ak
  | _ => exact ak.elim
theorem agc {f : FuncId} {fn : Func} {c : Code} {args : List ah} {r : ah} (ap : P.funcs[f]? = some fn) (ab : fn.body = some c) (aw : args.length ≤ fn.ntmps) (j9 : ∀ x ∈ args, x.closed) (bW : r.closed)
    (h : fg P c (zd P fn r) (start fn.ntmps args)) : au P f args r :=
  R7 ap ab aw j9 bW fun ok W A ad a w aq => (h ok (eL.all W) A ad a w aq).top
end
end Go.Proofs.YtbcecodakfejaaaGreat
