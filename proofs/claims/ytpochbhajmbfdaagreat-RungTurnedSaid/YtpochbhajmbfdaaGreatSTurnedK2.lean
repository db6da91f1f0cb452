/-
  My own texts, without what this claim does not need. My own text.
-/
import Derived.Below
import Derived.Still
import Derived.OrdersIn
import Derived.Laws.CopyRow
import Derived.Laws.Cells
import Derived.Test.YtpochbhajmbfdaaGreatSTurnedK1
set_option maxRecDepth 100000
set_option maxHeartbeats 64000000
set_option linter.unusedVariables false
set_option linter.unusedSimpArgs false
set_option linter.unusedSectionVars false
namespace Go.Proofs.YtpochbhajmbfdaaGreat
open Go.RowKit
structure ff where
  holds : World → Value → Prop
  lS : World → Value → Nat → Prop
  frame : ∀ w w' v, holds w v → (∀ b, lS w v b → w'.heap[b]? = w.heap[b]?) → holds w' v ∧ ∀ b, lS w' v b → lS w v b
  iT : ∀ w v b, holds w v → lS w v b → b < w.heap.size
  cell : ∀ w v, holds w v → v.oneCell' = true
inductive AC where
  | c (v : Value)
  | own (k off : Nat)
  | p (R : ff)
inductive bK where
  | one (x : AC)
  | agg (xs : List AC)
inductive ai where
  | w (x : bK)
  | dd (xs : List bK)
def bK.cells : bK → List AC
  | .one x => [x]
  | .agg xs => xs
def gV (U : Nat → Prop) (ad : Nat → Nat) (W : World) : AC → Value → Prop
  | .c v, x => x = v ∧ v.oneCell' = true
  | .own k off, x => x = .pointer (some ⟨ad k, off, none⟩)
  | .p R, x => R.holds W x ∧ ∀ b, R.lS W x b → U b
def b3 (U : Nat → Prop) (ad : Nat → Nat) (W : World) (xs : List AC) (vs : List Value) : Prop :=
  xs.length = vs.length ∧ ∀ (i : Nat) (x : AC) (v : Value), xs[i]? = some x → vs[i]? = some v → gV U ad W x v
def hh (U : Nat → Prop) (ad : Nat → Nat) (W : World) : bK → Value → Prop
  | .one x, v => gV U ad W x v
  | .agg xs, v => ∃ vs : List Value, v = .agg vs.toArray ∧ b3 U ad W xs vs
def dn (U : Nat → Prop) (ad : Nat → Nat) (W : World) : ai → Value → Prop
  | .w x, v => hh U ad W x v
  | .dd xs, v => ∃ vs : List Value, v = .tuple vs.toArray ∧ xs.length = vs.length ∧ ∀ (i : Nat) (x : bK) (v : Value), xs[i]? = some x → vs[i]? = some v → hh U ad W x v
def AC.owns : AC → Nat → Prop
  | .own k _, j => j = k
  | _, _ => False
def bK.owns (x : bK) (j : Nat) : Prop := ∃ y ∈ x.cells, y.owns j
def ai.owns : ai → Nat → Prop
  | .w x, j => x.owns j
  | .dd xs, j => ∃ x ∈ xs, x.owns j
section
variable {U cK : Nat → Prop} {ad bg : Nat → Nat} {W bn : World}
theorem gV.cell {x : AC} {v : Value} (h : gV U ad W x v) : v.oneCell' = true := by
  cases x with
  | c u => obtain ⟨rfl, h⟩ := h; exact h
  | own k off => cases h; rfl
  | p R => exact R.cell _ _ h.1
theorem gV.map {x : AC} {v : Value} (h : gV U ad W x v) (dJ : ∀ b, U b → b < W.heap.size → cK b ∧ bn.heap[b]? = W.heap[b]?) (jH : ∀ j, x.owns j → bg j = ad j) : gV cK bg bn x v := by
  cases x with
  | c u => exact h
  | own k off => simp only [gV] at h ⊢; rw [h, jH k rfl]
  | p R =>
    obtain ⟨h1, h2⟩ := h;have ao := R.frame W bn v h1 (fun b ab => (dJ b (h2 b ab) (R.iT _ _ _ h1 ab)).2);exact ⟨ao.1, fun b ab => (dJ b (h2 b (ao.2 b ab)) (R.iT _ _ _ h1 (ao.2 b ab))).1⟩
theorem b3.map {xs : List AC} {vs : List Value} (h : b3 U ad W xs vs) (dJ : ∀ b, U b → b < W.heap.size → cK b ∧ bn.heap[b]? = W.heap[b]?) (jH : ∀ j x, x ∈ xs → x.owns j → bg j = ad j) : b3 cK bg bn xs vs :=
  ⟨h.1, fun i x v aa hv => (h.2 i x v aa hv).map dJ fun j af => jH j x (dL aa) af⟩
theorem hh.map {x : bK} {v : Value} (h : hh U ad W x v) (dJ : ∀ b, U b → b < W.heap.size → cK b ∧ bn.heap[b]? = W.heap[b]?) (jH : ∀ j, x.owns j → bg j = ad j) : hh cK bg bn x v := by
  cases x with
  | one x => exact gV.map h dJ fun j af => jH j ⟨x, by simp [bK.cells], af⟩
  | agg xs =>
    obtain ⟨vs, e, h⟩ := h;exact ⟨vs, e, h.map dJ fun j x aa af => jH j ⟨x, aa, af⟩⟩
theorem dn.map {x : ai} {v : Value} (h : dn U ad W x v) (dJ : ∀ b, U b → b < W.heap.size → cK b ∧ bn.heap[b]? = W.heap[b]?) (jH : ∀ j, x.owns j → bg j = ad j) : dn cK bg bn x v := by
  cases x with
  | w x => exact hh.map h dJ jH
  | dd xs =>
    obtain ⟨vs, e, ap, h⟩ := h;exact ⟨vs, e, ap, fun i x v aa hv => (h i x v aa hv).map dJ fun j af => jH j ⟨x, dL aa, af⟩⟩
theorem hh.cells {x : bK} {v : Value} (h : hh U ad W x v) : b3 U ad W x.cells v.cells.toList := by
  cases x with
  | one x =>
    have ak : v.cells = #[v] := by
      have := gV.cell h;cases v <;> simp_all [Value.cells, Value.oneCell']
    rw [ak];refine ⟨rfl, fun i y u ag hu => ?_⟩;simp only [bK.cells] at ag;cases i with
    | zero => simp at ag hu; subst ag; subst hu; exact h
    | succ i => simp at ag
  | agg xs =>
    obtain ⟨vs, rfl, h⟩ := h;exact h
end
def bJ {α : Type} (f : Nat → Option α) (k : Nat) (v : α) : Nat → Option α := fun j => bif Nat.beq j k then some v else f j
theorem cw {α : Type} (f : Nat → Option α) (k : Nat) (v : α) : bJ f k v k = some v := by simp [bJ]
theorem cl {α : Type} (f : Nat → Option α) {k j : Nat} (v : α) (h : j ≠ k) : bJ f k v j = f j := by
  have : Nat.beq j k = false := by
    cases ab : Nat.beq j k with
    | false => rfl
    | true => exact absurd (hP ab) h
  simp [bJ, this]
theorem Sx {α : Type} (f : Nat → Option α) {k j : Nat} (v u : α) (h : j ≠ k) : bJ (bJ f k v) j u = bJ (bJ f j u) k v := by
  funext i
  by_cases h1 : i = j
  · subst h1; rw [cw, cl _ _ h, cw]
  · by_cases h2 : i = k
    · subst h2; rw [cl _ _ h1, cw, cw]
    · rw [cl _ _ h1, cl _ _ h2, cl _ _ h2, cl _ _ h1]
structure aE where
  n : Nat
  tmps : Nat → Option ai
  mem : Nat → Option (List AC)
def aE.put (s : aE) (dst : Option Nat) (v : ai) : aE :=
  match dst with
  | some d => { s with tmps := bJ s.tmps d v }
  | none => s
def aE.ep (s : aE) (k : Nat) (cs : List AC) : aE := { s with mem := bJ s.mem k cs }
def Qw : Value → bK
  | .agg cs => .agg (cs.toList.map .c)
  | v => .one (.c v)
def yp : Value → ai
  | .tuple vs => .dd (vs.toList.map Qw)
  | v => .w (Qw v)
def aE.look (s : aE) : Operand → Option ai
  | .tmp t => s.tmps t
  | .const v => if v.oneCell' then some (.w (.one (.c v))) else none
  | .global g => some (.w (.one (.c (.pointer (some ⟨g, 0, none⟩)))))
  | .func f => some (.w (.one (.c (.func (.func f) #[] #[]))))
def aE.free (s : aE) (A : Nat → Prop) (ad : Nat → Nat) (b : Nat) : Prop := A b ∧ ∀ k cs, s.mem k = some cs → ad k ≠ b
structure aE.cU (s : aE) : Prop where
  hA : ∀ t av j, s.tmps t = some av → av.owns j → ∃ cs, s.mem j = some cs
  dG : ∀ k cs x j, s.mem k = some cs → x ∈ cs → x.owns j → ∃ au, s.mem j = some au
structure e8 where
  W : World
  F : Nat → Prop
  lt : ∀ b, F b → b < W.heap.size
  N : Nat → Option Nat
  marks : List Deferred := []
def e8.all (W : World) : e8 := ⟨W, fun b => b < W.heap.size, fun _ h => h, fun _ => none, []⟩
def vc (B : e8) (s : aE) (ad : Nat → Nat) : Prop := ∀ k b, B.N k = some b → s.n ≤ k ∧ ad k = b
structure km (B : e8) (w : World) : Prop where
  os : w.os = B.W.os
  tape : w.tape = B.W.tape
  output : w.output = B.W.output
  size : B.W.heap.size ≤ w.heap.size
  block : ∀ b, B.F b → w.heap[b]? = B.W.heap[b]?
theorem km.then {B : e8} {w w' : World} (h : km B w) (ab : Below w.heap.size w w') : km B w' :=
  ⟨ab.os.trans h.os, ab.tape.trans h.tape, ab.output.trans h.output, lC h.size ab.size, fun b aw => (ab.block b (u2 (B.lt b aw) h.size)).trans (h.block b aw)⟩
theorem km.refl (B : e8) : km B B.W := ⟨rfl, rfl, rfl, eb _, fun _ _ => rfl⟩
theorem km.all {W w : World} (h : km (e8.all W) w) : Below W.heap.size W w := ⟨h.os, h.tape, h.output, h.size, fun k ae => h.block k ae⟩
structure Rel (B : e8) (A : Nat → Prop) (s : aE) (ad : Nat → Nat) (a : Act) (w : World) : Prop where
  qx : a.defers = B.marks
  size : a.tmps.size = s.n
  hA : ∀ t av, s.tmps t = some av → ∃ v, a.tmps[t]? = some v ∧ dn (s.free A ad) ad w av v
  dG : ∀ k cs, s.mem k = some cs → ∃ (vs : List Value) (ty : TypeId), w.heap[ad k]? = some (.cells vs.toArray ty (0, 0)) ∧ b3 (s.free A ad) ad w cs vs ∧ ¬ B.F (ad k)
  inj : ∀ k k' cs au, s.mem k = some cs → s.mem k' = some au → ad k = ad k' → k = k'
  below : km B w
  up : ∀ b, B.W.heap.size ≤ b → A b
  ku : vc B s ad
section
variable {B : e8} {A : Nat → Prop} {s : aE} {ad : Nat → Nat} {a : Act} {w w' : World}
theorem aE.XL (s : aE) (dst : Option Nat) (v : ai) (A : Nat → Prop) (ad : Nat → Nat) : (s.put dst v).free A ad = s.free A ad := by cases dst <;> rfl
theorem aE.yi (s : aE) (dst : Option Nat) (v : ai) : (s.put dst v).mem = s.mem := by cases dst <;> rfl
theorem aE.s7 (s : aE) (dst : Option Nat) (v : ai) : (s.put dst v).n = s.n := by cases dst <;> rfl
theorem Rel.put {dst : Option Nat} {av : ai} {v : Value} (h : Rel B A s ad a w) (hd : ∀ d, dst = some d → d < s.n) (hv : dn (s.free A ad) ad w av v) : Rel B A (s.put dst av) ad (a.put dst v) w := by
  cases dst with
  | none => exact h
  | some d =>
    have bh := hd d rfl;refine ⟨h.qx, by simp [aE.put, Act.put, h.size], fun t bv aF => ?_, h.dG, h.inj, h.below, h.up, h.ku⟩;simp only [aE.put] at aF
    by_cases e : t = d
    · subst e
      rw [cw] at aF;cases aF;exact ⟨v, by simp [Act.put, h.size, bh], hv⟩
    · rw [cl _ _ e] at aF
      obtain ⟨u, h1, h2⟩ := h.hA t bv aF;exact ⟨u, by simp only [Act.put]; rw [Array.getElem?_setIfInBounds_ne (Ne.symm e)]; exact h1, h2⟩
theorem Rel.lt {k : Nat} {cs : List AC} (h : Rel B A s ad a w) (ae : s.mem k = some cs) : ad k < w.heap.size := by
  obtain ⟨vs, ty, h1, _⟩ := h.dG k cs ae;exact (k4.1 h1).1
theorem Rel.call (h : Rel B A s ad a w) (ab : Below w.heap.size w w') : Rel B A s ad a w' := by
  have dJ : ∀ b, s.free A ad b → b < w.heap.size → s.free A ad b ∧ w'.heap[b]? = w.heap[b]? := fun b cV ap => ⟨cV, ab.block b ap⟩;refine ⟨h.qx, h.size, fun t av aF => ?_, fun k cs ae => ?_, h.inj, h.below.then ab, h.up, h.ku⟩
  · obtain ⟨v, h1, h2⟩ := h.hA t av aF
    exact ⟨v, h1, h2.map dJ fun _ _ => rfl⟩
  · obtain ⟨vs, ty, h1, h2, ao⟩ := h.dG k cs ae
    exact ⟨vs, ty, by rw [ab.block _ (h.lt ae)]; exact h1, h2.map dJ fun _ _ _ _ => rfl, ao⟩
theorem Rel.new {d : Nat} {cs : List AC} {vs : List Value} {ty : TypeId} (h : Rel B A s ad a w) (ok : s.cU) (gr : d < s.n) (hm : s.mem d = none) (hv : b3 (s.free A ad) ad w cs vs) (eL : ∀ x ∈ cs, ∀ j, x.owns j → ∃ au, s.mem j = some au) :
    Rel B A (s.ep d cs) (fun k => if k = d then w.heap.size else ad k) a (w.alloc (.cells vs.toArray ty)) := by
  have ca : ∀ k au, s.mem k = some au → k ≠ d := fun k au ae e => by subst e; rw [hm] at ae; cases ae
  have dJ : ∀ b, s.free A ad b → b < w.heap.size → (s.ep d cs).free A (fun k => if k = d then w.heap.size else ad k) b ∧ (w.alloc (.cells vs.toArray ty)).heap[b]? = w.heap[b]? := by
    intro b ab ap;refine ⟨⟨ab.1, fun k au ae => ?_⟩, Below.heap_alloc _ _ _ ap⟩;simp only [aE.ep] at ae
    by_cases e : k = d
    · subst e; simp; omega
    · rw [cl _ _ e] at ae
      simp only [e, if_false];exact ab.2 k au ae
  have ez : ∀ j, (∃ au, s.mem j = some au) → (if j = d then w.heap.size else ad j) = ad j := fun j ⟨au, af⟩ => by rw [if_neg (ca j au af)]
  refine ⟨h.qx, h.size, fun t av aF => ?_, fun k au ae => ?_, fun k k' c1 c2 ae en e => ?_, h.below.then ((Below.refl _ _).alloc (eb _) _), h.up, fun k b ae => ?_⟩
  · obtain ⟨v, h1, h2⟩ := h.hA t av aF
    exact ⟨v, h1, h2.map dJ fun j af => ez j (ok.hA t av j aF af)⟩
  · simp only [aE.ep] at ae
    by_cases e : k = d
    · subst e
      rw [cw] at ae;cases ae;refine ⟨vs, ty, ?_, hv.map dJ fun j x aa af => ez j (eL x aa j af), ?_⟩
      · show (w.heap.push _)[if k = k then w.heap.size else ad k]? = _; simp
      · simp only [if_true]; exact fun aw => by have := B.lt _ aw; have := h.below.size; omega
    · rw [cl _ _ e] at ae
      obtain ⟨us, t, h1, h2, ao⟩ := h.dG k au ae;refine ⟨us, t, ?_, h2.map dJ fun j x aa af => ez j (ok.dG k au x j ae aa af), ?_⟩
      · simp only [e, if_false]; rw [Below.heap_alloc _ _ _ (h.lt ae)]; exact h1
      · simp only [e, if_false]; exact ao
  · simp only [aE.ep] at ae en
    by_cases aG : k = d <;> by_cases aM : k' = d
    · rw [aG, aM]
    · rw [cl _ _ aM] at en
      have := h.lt en;simp [aG, aM] at e;omega
    · rw [cl _ _ aG] at ae
      have := h.lt ae;simp [aG, aM] at e;omega
    · rw [cl _ _ aG] at ae
      rw [cl _ _ aM] at en;simp [aG, aM] at e;exact h.inj k k' _ _ ae en e
  · obtain ⟨h1, h2⟩ := h.ku k b ae
    refine ⟨h1, ?_⟩;rw [if_neg (fun e => by subst e; exact absurd gr (Nat.not_lt.2 h1))];exact h2
theorem Rel.set {k : Nat} {cs ds : List AC} {us : List Value} (h : Rel B A s ad a w) (ae : s.mem k = some cs) (hv : b3 (s.free A ad) ad w ds us) : Rel B A (s.ep k ds) ad a (w.setRow (ad k) us.toArray) := by
  have j4 : (s.ep k ds).free A ad = s.free A ad := by
    funext b;apply propext
    constructor
    · rintro ⟨ej, ab⟩
      refine ⟨ej, fun j au af => ?_⟩
      by_cases e : j = k
      · subst e; exact ab j ds (by simp [aE.ep, cw])
      · exact ab j au (by simp only [aE.ep]; rw [cl _ _ e]; exact af)
    · rintro ⟨ej, ab⟩
      refine ⟨ej, fun j au af => ?_⟩;simp only [aE.ep] at af
      by_cases e : j = k
      · subst e; exact ab j cs ae
      · rw [cl _ _ e] at af; exact ab j au af
  obtain ⟨vs, ty, g1, g2, g3⟩ := h.dG k cs ae;have nB : (w.setRow (ad k) us.toArray).heap[ad k]? = some (.cells us.toArray ty (0, 0)) := setRow_heap w (ad k) vs.toArray us.toArray ty (0, 0) g1
  have wh : ∀ b, b ≠ ad k → (w.setRow (ad k) us.toArray).heap[b]? = w.heap[b]? := fun b ab => by
    simp only [World.setRow, u1]; rw [if_neg (Ne.symm ab)]
  have dJ : ∀ b, s.free A ad b → b < w.heap.size → s.free A ad b ∧ (w.setRow (ad k) us.toArray).heap[b]? = w.heap[b]? := fun b ab _ => ⟨ab, wh b (Ne.symm (ab.2 k cs ae))⟩;refine ⟨h.qx, h.size, fun t av aF => ?_, fun j au af => ?_, fun j e0 c1 c2 af kw e => ?_, ?_, h.up, h.ku⟩
  · obtain ⟨v, h1, h2⟩ := h.hA t av aF
    exact ⟨v, h1, by rw [j4]; exact h2.map dJ fun _ _ => rfl⟩
  · simp only [aE.ep] at af
    rw [j4]
    by_cases e : j = k
    · subst e
      rw [cw] at af;cases af;exact ⟨us, ty, nB, hv.map dJ fun _ _ _ _ => rfl, g3⟩
    · rw [cl _ _ e] at af
      obtain ⟨w4, ag7, h1, h2, ao⟩ := h.dG j au af;exact ⟨w4, ag7, by rw [wh _ (fun bu => e (h.inj j k _ _ af ae bu))]; exact h1, h2.map dJ fun _ _ _ _ => rfl, ao⟩
  · have hold : ∀ i c, (s.ep k ds).mem i = some c → ∃ c', s.mem i = some c' := fun i c hi => by
      simp only [aE.ep] at hi
      by_cases e : i = k
      · exact ⟨cs, by rw [e]; exact ae⟩
      · rw [cl _ _ e] at hi; exact ⟨c, hi⟩
    obtain ⟨d1, q1⟩ := hold j c1 af;obtain ⟨d2, q2⟩ := hold e0 c2 kw;exact h.inj j e0 _ _ q1 q2 e
  · exact ⟨h.below.os, h.below.tape, h.below.output, by have := h.below.size; simpa [World.setRow] using this, fun b ab => (wh b (fun e => by subst e; exact g3 ab)).trans (h.below.block b ab)⟩
end
def ai.closed (x : ai) : Prop := ∀ j, ¬ x.owns j
def ks (U : Nat → Prop) (ad : Nat → Nat) (W : World) (xs : List ai) (vs : List Value) : Prop :=
  xs.length = vs.length ∧ ∀ (i : Nat) (x : ai) (v : Value), xs[i]? = some x → vs[i]? = some v → dn U ad W x v
structure aY (P : Program) (f : FuncId) (args : List ai) (r : ai) : Prop where
  jX : ∀ x ∈ args, x.closed
  ct : r.closed
  call : ∀ (U : Nat → Prop) (W : World) (vs : List Value), ks U id W args vs →
    Calls P f vs.toArray W fun e bn => ∃ v, e = .returned v ∧ dn (fun b => U b ∨ W.heap.size ≤ b) id bn r v ∧ Below W.heap.size W bn
structure xd (P : Program) (look : Operand → Option ai) (o : Oper) (av : ai) : Prop where
  af6 : ∀ cs b, o.op ≠ .select cs b
  ops : ∀ x ∈ o.op.operands, ∃ a, look x = some a
  run : ∀ (U : Nat → Prop) (ad : Nat → Nat) (W : World) (env : Operand → Value), (∀ x ∈ o.op.operands, ∀ a, look x = some a → dn U ad W a (env x)) →
    ∃ v, (execOp env o).run P W = .ok (.value v) W ∧ dn U ad W av v
  own : ∀ j, av.owns j → ∃ x ∈ o.op.operands, ∃ a, look x = some a ∧ a.owns j
def pick (P : Program) (ty : TypeId) (cs : List AC) (off : Nat) : Option bK :=
  match P.underlying ty with
  | some (.struct _) | some (.array _ _) => (P.info? ty).bind fun i => if off + i.size ≤ cs.length then some (.agg ((cs.drop off).take i.size)) else none
  | some _ => (cs[off]?).map .one
  | none => none
def eO (cs : List AC) (off : Nat) (ds : List AC) : List AC := cs.take off ++ ds ++ cs.drop (off + ds.length)
inductive vk (P : Program) (look : Operand → Option ai) (o : Oper) : List AC → Prop
  | alloc (ty : TypeId) (i : TypeInfo) (z : Value) (cs : List AC) (aB : o.op = .alloc ty) (hi : P.info? ty = some i) (a6 : i.zero = some z) (ak : cs = z.cells.toList.map .c) (h1 : (z.cells.toList.all fun v => v.oneCell') = true) : vk P look o cs
  | box (ty : TypeId) (x : Operand) (z : bK) (aB : o.op = .box ty x) (aa : look x = some (.w z)) : vk P look o z.cells
def enters (P : Program) (f : FuncId) : Bool := match P.funcs[f]? with
  | some fn => fn.body.isSome && fn.name != "runtime.NumGoroutine"
  | none => false
def CO : Value → Bool
  | .agg cs => cs.toList.all fun v => v.oneCell'
  | .tuple _ => false
  | _ => true
def GU (w : World) : AC → Value → Nat → Prop
  | .p R, x, b => R.lS w x b
  | _, _, _ => False
def pK (fn : Fn) (cs : List AC) : ff where
  holds w v := ∃ vs : List Value, v = .func fn #[] vs.toArray ∧ b3 (fun _ => True) id w cs vs ∧ ∀ x ∈ cs, ∀ j, ¬ x.owns j
  lS w v b := ∃ vs : List Value, v = .func fn #[] vs.toArray ∧ ∃ (i : Nat) (x : AC) (u : Value), cs[i]? = some x ∧ vs[i]? = some u ∧ GU w x u b
  frame w w' v := by
    rintro ⟨vs, rfl, ap, ak⟩ aw
    have key : ∀ (i : Nat) (x : AC) (u : Value), cs[i]? = some x → vs[i]? = some u → gV (fun _ => True) id w' x u ∧ ∀ b, GU w' x u b → GU w x u b := by
      intro i x u aa hu;have h := ap.2 i x u aa hu;cases x with
      | c y => exact ⟨h, fun b ab => ab⟩
      | own k o => exact ⟨h, fun b ab => ab⟩
      | p R =>
        have := R.frame w w' u h.1 fun b ab => aw b ⟨vs, rfl, i, _, u, aa, hu, ab⟩;exact ⟨⟨this.1, fun _ _ => trivial⟩, this.2⟩
    refine ⟨⟨vs, rfl, ⟨ap.1, fun i x u aa hu => (key i x u aa hu).1⟩, ak⟩, ?_⟩;rintro b ⟨w4, e, i, x, u, aa, hu, ab⟩;have bu : vs = w4 := by simpa using e
    subst bu;exact ⟨vs, rfl, i, x, u, aa, hu, (key i x u aa hu).2 b ab⟩
  iT w v b := by
    rintro ⟨vs, rfl, ap, ak⟩ ⟨w4, e, i, x, u, aa, hu, ab⟩;have bu : vs = w4 := by simpa using e
    subst bu;have h := ap.2 i x u aa hu;cases x with
    | p R => exact R.iT _ _ _ h.1 ab
    | c y => cases ab
    | own k o => cases ab
  cell w v := by rintro ⟨vs, rfl, _⟩; rfl
theorem pK.VU {U : Nat → Prop} {ad : Nat → Nat} {w : World} {v : Value} {fn : Fn} {cs : List AC} (h : gV U ad w (.p (pK fn cs)) v) : ∃ vs : List Value, v = .func fn #[] vs.toArray ∧ b3 U id w cs vs := by
  obtain ⟨⟨vs, rfl, ap, ak⟩, aw⟩ := h;refine ⟨vs, rfl, ap.1, fun i x u aa hu => ?_⟩;have h := ap.2 i x u aa hu;cases x with
  | c y => exact h
  | own k o => exact h
  | p R => exact ⟨h.1, fun b ab => aw b ⟨vs, rfl, i, _, u, aa, hu, ab⟩⟩
structure tG (P : Program) (look : Operand → Option ai) (o : Oper) (f : FuncId) (args : List ai) : Prop where
  ex : ∃ c g, o.op = .call c ∧ c.callee = .value g ∧
    ((∃ bs : List Value, look g = some (.w (.one (.c (.func (.func f) bs.toArray #[])))) ∧ bs.map (fun b => some (yp b)) ++ c.args.toList.map look = args.map some ∧ bs.all CO = true) ∨
     ∃ cs : List AC, look g = some (.w (.one (.p (pK (.func f) cs)))) ∧ c.args.toList.map look ++ cs.map (fun x => some (.w (.one x))) = args.map some)
  enters : enters P f = true
structure w9 (P : Program) (look : Operand → Option ai) (o : Oper) (av : ai) : Prop where
  ops : ∀ x ∈ o.op.operands, ∃ a, look x = some a
  p5 : av.closed
  run : ∀ (U : Nat → Prop) (ad : Nat → Nat) (W : World) (env : Operand → Value), (∀ x ∈ o.op.operands, ∀ a, look x = some a → dn U ad W a (env x)) →
    ∃ v bn, (execOp env o).run P W = .ok (.value v) bn ∧ dn (fun b => U b ∨ W.heap.size ≤ b) ad bn av v ∧ Below W.heap.size W bn
inductive lJ (P : Program) (s : aE) (o : Oper) : aE → Prop
  | fresh (av : ai) (an : w9 P s.look o av) (hd : ∀ d, o.dst = some d → d < s.n) : lJ P s o (s.put o.dst av)
  | quiet (av : ai) (an : xd P s.look o av) (hd : ∀ d, o.dst = some d → d < s.n) : lJ P s o (s.put o.dst av)
  | load (ty : TypeId) (x : Operand) (k off : Nat) (cs : List AC) (av : bK) (aB : o.op = .load ty x) (aa : s.look x = some (.w (.one (.own k off)))) (hm : s.mem k = some cs) (hv : pick P ty cs off = some av) (hd : ∀ d, o.dst = some d → d < s.n) : lJ P s o (s.put o.dst (.w av))
  | store (ty : TypeId) (x y : Operand) (k off : Nat) (cs : List AC) (z : bK) (i : TypeInfo) (aB : o.op = .store ty x y) (aa : s.look x = some (.w (.one (.own k off)))) (ag : s.look y = some (.w z)) (hm : s.mem k = some cs) (hi : P.info? ty = some i) (hs : i.size = z.cells.length) (ab : off + z.cells.length ≤ cs.length) (hd : ∀ d, o.dst = some d → d < s.n) : lJ P s o ((s.put o.dst (.dd [])).ep k (eO cs off z.cells))
  | new (cs : List AC) (d : Nat) (dD : o.dst = some d) (hm : s.mem d = none) (aD : vk P s.look o cs) (hd : d < s.n) : lJ P s o ((s.ep d cs).put (some d) (.w (.one (.own d 0))))
  | call (f : FuncId) (args : List ai) (r : ai) (ak : tG P s.look o f args) (hp : aY P f args r) (hd : ∀ d, o.dst = some d → d < s.n) : lJ P s o (s.put o.dst r)
section
variable {P : Program} {B : e8} {A : Nat → Prop} {s s' : aE} {ad : Nat → Nat} {a : Act} {w : World} {o : Oper} {Q : Exit → Act → World → Prop}
theorem dn.undef (U : Nat → Prop) : dn U ad w (.dd []) undef := ⟨[], rfl, rfl, fun i x v h => by simp at h⟩
theorem Rel.look {x : Operand} {av : ai} (h : Rel B A s ad a w) (aa : s.look x = some av) : dn (s.free A ad) ad w av (a.eval x) := by
  cases x with
  | tmp t =>
    obtain ⟨v, h1, h2⟩ := h.hA t av aa;have : a.eval (.tmp t) = v := by simp [Act.eval, yw, h1]
    rw [this]; exact h2
  | const v =>
    simp only [aE.look] at aa
    split at aa
    · rename_i h1; cases aa; exact ⟨rfl, h1⟩
    · cases aa
  | global g => cases aa; exact ⟨rfl, rfl⟩
  | func f => cases aa; exact ⟨rfl, rfl⟩
theorem b3.cellAt {U : Nat → Prop} {W : World} {xs : List AC} {vs : List Value} {g : Nat} {ty : TypeId} (h : b3 U ad W xs vs) (ax : W.heap[g]? = some (.cells vs.toArray ty (0, 0))) {i : Nat} {x : AC} (hi : xs[i]? = some x) :
    ∃ v, vs[i]? = some v ∧ W.cell? ⟨g, i, none⟩ = some v ∧ gV U ad W x v := by
  have bh : i < vs.length := by
    rw [← h.1];rcases jt i xs.length with q | q
    · exact q
    · rw [rJ q] at hi; cases hi
  refine ⟨vs[i], cj bh, ?_, h.2 i x _ hi (cj bh)⟩;simp [World.cell?, ax, bh]
theorem b3.sub {U : Nat → Prop} {W : World} {xs : List AC} {vs : List Value} (h : b3 U ad W xs vs) (off n : Nat) : b3 U ad W ((xs.drop off).take n) ((vs.drop off).take n) := by
  refine ⟨by simp [h.1], fun i x v aa hv => ?_⟩;rw [List.getElem?_take] at aa hv
  split at aa
  · rename_i bh
    rw [if_pos bh] at hv;rw [gF] at aa hv;exact h.2 _ x v aa hv
  · cases aa
theorem b3.eO {U : Nat → Prop} {W : World} {xs ds : List AC} {vs us : List Value} (h : b3 U ad W xs vs) (hd : b3 U ad W ds us) (off : Nat) (ab : off + ds.length ≤ xs.length) : b3 U ad W (eO xs off ds) (vs.take off ++ us ++ vs.drop (off + us.length)) := by
  have aG := h.1;have aM := hd.1;refine ⟨by simp [Proofs.YtpochbhajmbfdaaGreat.eO, aG, aM], fun i x v aa hv => ?_⟩;unfold Proofs.YtpochbhajmbfdaaGreat.eO at aa;have dy : (xs.take off).length = off := by simp; omega
  have EF : (vs.take off).length = off := by simp; omega
  by_cases h1 : i < off
  · rw [iV, gG (by omega), gl h1] at aa
    rw [iV, gG (by omega), gl h1] at hv;exact h.2 i x v aa hv
  · by_cases h2 : i < off + ds.length
    · rw [iV, gf (by omega), gG (by omega), dy] at aa
      rw [iV, gf (by omega), gG (by omega), EF] at hv;exact hd.2 _ x v aa hv
    · rw [gf (by simp; omega), gF] at aa hv
      simp only [cX, dy, EF] at aa hv;rw [← aM] at hv;have e : off + ds.length + (i - (off + ds.length)) = i := by omega
      rw [e] at aa hv;exact h.2 i x v aa hv
theorem Kc {ty : TypeId} {A : Addr} {v : Value} {d : TypeDesc} (hu : P.underlying ty = some d) (hs : ∀ fs, d ≠ .struct fs) (aI : ∀ n e, d ≠ .array n e) (ak : w.cell? A = some v) : (loadVar ty A).run P w = .ok v w := by
  have h1 : (isAgg ty).run P w = .ok false w := by
    unfold isAgg;simp only [Sem.run_bind, run_underlying hu, Result.andThen_ok];cases d <;> first | rfl | (exact absurd rfl (hs _)) | (exact absurd rfl (aI _ _))
  unfold loadVar;simp only [Sem.run_bind, h1, Result.andThen_ok, oC, if_false];simp [load, Sem.run, ak]
theorem h5 {ty : TypeId} {i : TypeInfo} (hi : P.info? ty = some i) : (sizeOf ty).run P w = .ok i.size w := by
  simp [sizeOf, typeInfo, program, Sem.run_bind, Sem.run, hi, Result.andThen]
theorem Kb {ty : TypeId} {A : Addr} {vs : List Value} {i : TypeInfo} {d : TypeDesc} (hu : P.underlying ty = some d) (hd : (∃ fs, d = .struct fs) ∨ ∃ n e, d = .array n e) (hi : P.info? ty = some i) (ap : vs.length = i.size) (ak : ∀ j v, vs[j]? = some v → w.cell? (A.add j) = some v) :
    (loadVar ty A).run P w = .ok (.agg vs.toArray) w := by
  have h1 : (isAgg ty).run P w = .ok true w := by
    unfold isAgg;simp only [Sem.run_bind, run_underlying hu, Result.andThen_ok];rcases hd with ⟨fs, rfl⟩ | ⟨n, e, rfl⟩ <;> rfl
  unfold loadVar;simp only [Sem.run_bind, h1, Result.andThen_ok, if_true, h5 hi, ← ap, run_loadCells_list w A vs ak];rfl
end
section
variable {P : Program} {B : e8} {A : Nat → Prop} {s s' : aE} {ad : Nat → Nat} {a : Act} {w : World} {o : Oper} {Q : Exit → Act → World → Prop}
theorem Q9 {U : Nat → Prop} {ty : TypeId} {cs : List AC} {off g : Nat} {av : bK} {vs : List Value} {t : TypeId} (hv : pick P ty cs off = some av) (ax : w.heap[g]? = some (.cells vs.toArray t (0, 0))) (ap : b3 U ad w cs vs) :
    ∃ v, (loadVar ty ⟨g, off, none⟩).run P w = .ok v w ∧ hh U ad w av v := by
  unfold pick at hv
  have key : ∀ d, P.underlying ty = some d → ((∃ fs, d = .struct fs) ∨ ∃ n e, d = .array n e) → ((P.info? ty).bind fun i => if off + i.size ≤ cs.length then some (bK.agg ((cs.drop off).take i.size)) else none) = some av → ∃ v, (loadVar ty ⟨g, off, none⟩).run P w = .ok v w ∧ hh U ad w av v := by
    intro d hu hd h;cases hi : P.info? ty with
    | none => rw [hi] at h; cases h
    | some i =>
      rw [hi] at h;simp only [kE] at h
      split at h
      · rename_i hle
        cases h;have hs := ap.sub off i.size;have hlen : ((vs.drop off).take i.size).length = i.size := by have := ap.1; simp; omega
        refine ⟨_, Kb hu hd hi hlen (fun j v af => ?_), _, rfl, hs⟩;have kw : j < i.size := by rw [← hlen]; exact (bP.1 af).1
        rw [gl kw, gF] at af;have kT : (⟨g, off, none⟩ : Addr).add j = ⟨g, off + j, none⟩ := by unfold Addr.add; split <;> simp_all
        rw [kT];simp only [World.cell?, ax];simpa using af
      · cases h
  have I6 : ∀ d, P.underlying ty = some d → (∀ fs, d ≠ .struct fs) → (∀ n e, d ≠ .array n e) → (cs[off]?).map bK.one = some av → ∃ v, (loadVar ty ⟨g, off, none⟩).run P w = .ok v w ∧ hh U ad w av v := by
    intro d hu h1 h2 h;cases aa : cs[off]? with
    | none => rw [aa] at h; cases h
    | some x =>
      rw [aa] at h;cases h;obtain ⟨v, q1, q2, cr⟩ := ap.cellAt ax aa;exact ⟨v, Kc hu h1 h2 q2, cr⟩
  cases hu : P.underlying ty with
  | none => rw [hu] at hv; cases hv
  | some d =>
    rw [hu] at hv;cases d <;> first | exact key _ hu (.inl ⟨_, rfl⟩) hv | exact key _ hu (.inr ⟨_, _, rfl⟩) hv | exact I6 _ hu (fun _ h => by cases h) (fun _ _ h => by cases h) hv
theorem Df {f : FuncId} {args : Array Value} (h : enters P f = true) : (callFunc f args).run P w = .ok (.enter f args) w := by
  unfold enters at h;cases aw : P.funcs[f]? with
  | none => rw [aw] at h; cases h
  | some fn =>
    rw [aw] at h;simp only [eh, bne_iff_ne, ne_eq] at h;obtain ⟨h1, h2⟩ := h;simp [callFunc, program, Sem.run_bind, Sem.run, aw, Result.andThen, h2];intro ao;rw [ao] at h1;cases h1
def mK (ro : Option Nat) : Fence := { Fence.wide with round := ro }
theorem VT {ro : Option Nat} {n : Nat} {P : Program} {f : FuncId} {args : Array Value} {w : World} {R : Ending → World → Prop} (h : Calls P f args w R) : CallsIn (mK ro) n P f args w R := callsIn_wide.2 h
theorem afJ {ro : Option Nat} {n : Nat} {P : Program} {row : String} {args : Array Value} {w : World} {R : Value → World → Prop} (h : Rows P row args w R) : RowsIn (mK ro) n P row args w R := fun c cs _ => by
  obtain ⟨v, w', al, hs⟩ := h c cs;exact ⟨v, w', al, stepsIn_wide.2 hs⟩
theorem yn {P : Program} {ad : Operand → Value} {o : Oper} {w w' : World} {x : Next} (h : (execOp ad o).run P w = .ok x w') (aa : ∀ d, x ≠ .defer d) : ∀ c, o.op ≠ .defer c := fun c ak => by
  simp only [execOp, ak, Sem.run_bind] at h;cases al : (resolve ad c o.type).run P w with
  | ok d w2 => rw [al] at h; simp only [Result.andThen_ok, Sem.run_pure, Result.ok.injEq] at h; exact aa d h.1.symm
  | halt r w2 => rw [al] at h; simp [Result.andThen] at h
theorem Oper.SP {ro : Option Nat} {n : Nat} {P : Program} {o : Oper} {a : Act} {w : World} {K : Act → World → Prop} {Q : Exit → Act → World → Prop} (h : o.wp P a w K Q) (hd : ∀ c, o.op ≠ .defer c) : o.wpIn (mK ro) n P a w K Q := by
  refine ⟨fun _ _ => trivial, ?_⟩;rw [Oper.semAt_eq _ _ _ hd];unfold Oper.wp at h;generalize (execOp a.eval o).run P w = r at *;have aD : (mK ro).depth.isSome = true → 1 ≤ n := fun h => by simp [mK, Fence.wide] at h
  cases r with
  | ok x w' => cases x <;> first | exact h | exact ⟨aD, VT h⟩ | exact ⟨aD, afJ h⟩ | exact h.elim
  | halt x w' => cases x <;> exact h
def kK (P : Program) (c : Code) (Q : Exit → Act → World → Prop) (a : Act) (w : World) : Prop := ∀ ro, c.wpIn (mK ro) 0 P Q a w
section
variable {P : Program} {Q K2 : Exit → Act → World → Prop} {a : Act} {w : World} {c x y : Code}
theorem kK.top (h : kK P c Q a w) : c.wp P Q a w := wpIn_wide.1 (h none)
theorem tC (h : kK P c Q a w) (an : ∀ e a w, Q e a w → K2 e a w) : kK P c K2 a w := fun ro => wpIn_mono (h ro) an
theorem SL (h : kK P x (Exit.then (kK P y Q) Q) a w) : kK P (.seq x y) Q a w := fun ro => wpIn_seq (wpIn_mono (h ro) fun e a w an => by cases e <;> first | exact an ro | exact an)
theorem SM (h : Q .normal a w) : kK P .skip Q a w := fun ro => wpIn_skip h
theorem SG {id : Nat} (h : Q (.exit id) a w) : kK P (.exit id) Q a w := fun ro => wpIn_exit h
theorem SK (h : Q .ret a w) : kK P .ret Q a w := fun ro => wpIn_ret h
theorem SF {c : Operand} {t : Bool} (ak : a.eval c = .bool t) (h : kK P (if t then x else y) Q a w) : kK P (.cond c x y) Q a w := fun ro => wpIn_cond ak (h ro)
theorem SE {id : Nat} (h : kK P c (Exit.inBlock id Q) a w) : kK P (.block id c) Q a w := fun ro => wpIn_block (h ro)
theorem SI {id : Nat} {ops : Array Oper} (h : ∀ ro, wpOpsIn (mK ro) 0 P ops Q (List.range ops.size) a w) : kK P (.region id ops false) Q a w := fun ro => wpIn_region (h ro)
theorem SJ {id : Nat} {ops : Array Oper} (hm : P.follows .mixedOrders = true) (h : ∀ ro, wpAnyIn (mK ro) 0 P .any ops Q ops.size (Array.replicate ops.size false) a { w with drawn := w.drawn + 1 }) : kK P (.region id ops true) Q a w := fun ro => wpIn_region_any hm (h ro)
end
theorem Oper.w5 {v : Value} {w' : World} {next : Act → World → Prop} (h : (execOp a.eval o).run P w = .ok (.value v) w') (aD : next (a.put o.dst v) w') : o.wp P a w next Q := by
  unfold Oper.wp;rw [h];exact aD
theorem Rel.OD {U : Nat → Prop} {x : ai} {v : Value} (ak : x.closed) (h : dn U ad w x v) : dn U id w x v := h.map (fun b ab _ => ⟨ab, rfl⟩) fun j af => absurd af (ak j)
theorem RP {U : Nat → Prop} {v : Value} (h : CO v = true) : dn U ad w (yp v) v := by
  cases v with
  | agg cs =>
    refine ⟨cs.toList, by simp, by simp, fun i x u aa hu => ?_⟩;rw [eG, hu] at aa;cases aa;exact ⟨rfl, cB.1 h u (dL hu)⟩
  | tuple vs => cases h
  | _ => exact ⟨rfl, rfl⟩
theorem lJ.Qg (h : lJ P s o s') (ay : Rel B A s ad a w) : ∀ c, o.op ≠ .defer c := by
  cases h with
  | quiet av an hd =>
    obtain ⟨v, h1, h2⟩ := an.run (s.free A ad) ad w a.eval (fun x aa b ab => ay.look ab);exact yn h1 (fun d h => by cases h)
  | fresh av an hd =>
    obtain ⟨v, bn, h1, h2, ab⟩ := an.run (s.free A ad) ad w a.eval (fun x aa b ab => ay.look ab);exact yn h1 (fun d h => by cases h)
  | load ty x k off cs av aB => intro c ak; rw [aB] at ak; cases ak
  | store ty x y k off cs z i aB => intro c ak; rw [aB] at ak; cases ak
  | new cs d dD hm aD hd =>
    intro c ak;cases aD with
    | alloc ty i z cs aB => rw [aB] at ak; cases ak
    | box ty x z aB => rw [aB] at ak; cases ak
  | call f args r ak hp hd =>
    intro c n9;obtain ⟨⟨c', g, aB, _⟩, _⟩ := ak;rw [aB] at n9; cases n9
theorem lJ.sound (h : lJ P s o s') (ay : Rel B A s ad a w) (ok : s.cU) : o.wp P a w (fun a' w' => ∃ bg, Rel B A s' bg a' w') Q := by
  cases h with
  | quiet av an hd =>
    obtain ⟨v, h1, h2⟩ := an.run (s.free A ad) ad w a.eval (fun x aa b ab => ay.look ab);exact Oper.w5 h1 ⟨ad, ay.put hd h2⟩
  | fresh av an hd =>
    obtain ⟨v, bn, h1, h2, ab⟩ := an.run (s.free A ad) ad w a.eval (fun x aa b ab => ay.look ab);refine Oper.w5 h1 ⟨ad, (ay.call ab).put hd (h2.map (fun b cV ap => ⟨?_, rfl⟩) fun j af => rfl)⟩;rcases cV with h | h
    · exact h
    · refine ⟨ay.up b (lC ay.below.size h), fun k cs ae e => ?_⟩
      have := ay.lt ae;omega
  | load ty x k off cs av aB aa hm hv hd =>
    obtain ⟨vs, t, g1, g2, g3⟩ := ay.dG k cs hm;obtain ⟨v, h1, h2⟩ := Q9 hv g1 g2;have hp : a.eval x = .pointer (some ⟨ad k, off, none⟩) := ay.look aa;refine Oper.w5 (v := v) (w' := w) ?_ ⟨ad, ay.put hd h2⟩;simp only [execOp, aB, Instr.loadAt, hp, Instr.sureAddr, Sem.run_bind, Sem.run_pure, Result.andThen_ok, h1]
  | store ty x y k off cs z i aB aa ag hm hi hs ab hd =>
    obtain ⟨vs, t, g1, g2, g3⟩ := ay.dG k cs hm;have hp : a.eval x = .pointer (some ⟨ad k, off, none⟩) := ay.look aa;have a6 : hh (s.free A ad) ad w z (a.eval y) := ay.look ag;have o9 := a6.cells;have wo : (a.eval y).cells.size = z.cells.length := by have := o9.1; simp at this; exact this.symm
    have jn : (storeVar ty ⟨ad k, off, none⟩ (a.eval y)).run P w = .ok () (w.setRow (ad k) (vs.take off ++ (a.eval y).cells.toList ++ vs.drop (off + (a.eval y).cells.toList.length)).toArray) := by
      unfold storeVar;have ca : ¬ ((a.eval y).cells.size ≠ i.size) := by rw [wo, hs]; simp
      simp only [Sem.run_bind, h5 hi, Result.andThen_ok, if_neg ca]
      have di : ∀ v ∈ (a.eval y).cells.toList, v.oneCell' = true := fun v hv => by
        obtain ⟨j, af⟩ := kA hv;have bh : j < z.cells.length := by rw [o9.1]; exact (bP.1 af).1
        exact (o9.2 j _ v (cj bh) af).cell
      have := run_storeCells_at (P := P) (ad k) off t (a.eval y).cells.toList 0 vs.toArray w g1 (by have := g2.1; simp; omega) di;simpa using this
    have hrel := (Rel.set (k := k) (ds := eO cs off z.cells) (ay.put (dst := o.dst) hd (dn.undef _)) (by rw [aE.yi]; exact hm) (by rw [aE.XL]; exact g2.eO o9 off ab));unfold Oper.wp
    have hc : (execOp a.eval o).run P w = .ok .skip (w.setRow (ad k) (vs.take off ++ (a.eval y).cells.toList ++ vs.drop (off + (a.eval y).cells.toList.length)).toArray) := by
      simp only [execOp, aB, Instr.storeAt, hp, Instr.sureAddr, Sem.run_bind, Sem.run_pure, Result.andThen_ok, jn]
    rw [hc];exact ⟨ad, hrel⟩
  | new cs d dD hm aD hd =>
    have main : ∀ (vs : List Value) (ty : TypeId), b3 (s.free A ad) ad w cs vs → (∀ x ∈ cs, ∀ j, x.owns j → ∃ au, s.mem j = some au) → (execOp a.eval o).run P w = .ok (.value (.pointer (some ⟨w.heap.size, 0, none⟩))) (w.alloc (.cells vs.toArray ty)) →
        o.wp P a w (fun a' w' => ∃ bg, Rel B A ((s.ep d cs).put (some d) (.w (.one (.own d 0)))) bg a' w') Q := by
      intro vs ty ap ez hc;refine Oper.w5 hc ⟨fun k => if k = d then w.heap.size else ad k, ?_⟩;rw [dD];refine (ay.new ok hd hm ap ez).put (fun d' e => by cases e; exact hd) ?_;show Value.pointer _ = Value.pointer _;simp
    cases aD with
    | alloc ty i z cs aB hi a6 ak h1 =>
      subst ak;refine main z.cells.toList ty ⟨by simp, fun j x v aa hv => ?_⟩ (fun x aa j af => ?_) ?_
      · rw [eG, hv] at aa
        cases aa;exact ⟨rfl, cB.1 h1 v (dL hv)⟩
      · obtain ⟨v, _, rfl⟩ := iW.1 aa
        cases af
      · have sV : (zeroValue ty).run P w = .ok z w := by simp [zeroValue, typeInfo, program, Sem.run_bind, Sem.run, hi, Result.andThen, a6]
        simp only [execOp, aB, Instr.alloc, Sem.run_bind, sV, Result.andThen_ok, newVar, newRow, newObj, Sem.run];rfl
    | box ty x z aB aa =>
      have a6 : hh (s.free A ad) ad w z (a.eval x) := ay.look aa;refine main (a.eval x).cells.toList ty a6.cells (fun y ag j af => ?_) ?_
      · cases x with
        | tmp t => exact ok.hA t _ j aa ⟨y, ag, af⟩
        | const v =>
          simp only [aE.look] at aa
          split at aa
          · cases aa; simp [bK.cells] at ag; subst ag; cases af
          · cases aa
        | global g => cases aa; simp [bK.cells] at ag; subst ag; cases af
        | func g => cases aa; simp [bK.cells] at ag; subst ag; cases af
      · simp only [execOp, aB, Instr.box, newVar, newRow, newObj, Sem.run_bind, Sem.run, Result.andThen_ok]
        rfl
  | call f args r ak hp hd =>
    obtain ⟨⟨c, g, aB, zX, aW⟩, zZ⟩ := ak;have cY : ∀ {y : Operand} {x : ai}, x ∈ args → s.look y = some x → dn (s.free A ad) id w x (a.eval y) := fun {y x} aa ag => Rel.OD (ad := ad) (hp.jX x aa) (ay.look ag)
    obtain ⟨us, dX, hc⟩ : ∃ us : List Value, ks (s.free A ad) id w args us ∧ (execOp a.eval o).run P w = .ok (.enter f us.toArray) w := by
      rcases aW with ⟨bs, ax, oY, xY⟩ | ⟨cs, ax, oY⟩
      · have kU : a.eval g = .func (.func f) bs.toArray #[] := (ay.look ax).1
        refine ⟨bs ++ c.args.toList.map a.eval, ?_, ?_⟩
        · refine ⟨by have := congrArg List.length oY; simpa using this.symm, fun i x v aa hv => ?_⟩
          have h1 : (bs.map (fun b => some (yp b)) ++ c.args.toList.map s.look)[i]? = some (some x) := by rw [oY, eG, aa]; rfl
          rcases jt i bs.length with bh | ix
          · rw [gG (by simpa using bh), eG] at h1
            rw [gG bh] at hv;rw [hv] at h1;simp only [hy, gE] at h1;subst h1;exact RP (cB.1 xY v (dL hv))
          · rw [gf (by simpa using ix), eG] at h1
            rw [gf ix, eG] at hv;simp only [jK] at h1;cases ag : c.args.toList[i - bs.length]? with
            | none => rw [ag] at hv; cases hv
            | some y =>
              rw [ag] at h1 hv;simp only [hy, gE] at h1 hv;subst hv;exact cY (dL aa) h1
        · have e : bs.toArray ++ c.args.map a.eval ++ #[] = (bs ++ c.args.toList.map a.eval).toArray := by
            rw [Array.append_empty];apply Array.ext';simp
          simp only [execOp, aB, resolve, zX, Deferred.ofValue, kU];simp only [Sem.run_bind, Sem.run_pure, Result.andThen_ok, invoke];rw [e];exact Df zZ
      · obtain ⟨vs, kU, cW⟩ := pK.VU (ad := ad) (ay.look ax)
        refine ⟨c.args.toList.map a.eval ++ vs, ?_, ?_⟩
        · refine ⟨by have := congrArg List.length oY; have h2 := cW.1; simp at this ⊢; omega, fun i x v aa hv => ?_⟩
          have h1 : (c.args.toList.map s.look ++ cs.map (fun x => some (.w (.one x))))[i]? = some (some x) := by rw [oY, eG, aa]; rfl
          rcases jt i c.args.toList.length with bh | ix
          · rw [gG (by simpa using bh), eG] at h1
            rw [gG (by simpa using bh), eG] at hv;cases ag : c.args.toList[i]? with
            | none => rw [ag] at hv; cases hv
            | some y =>
              rw [ag] at h1 hv;simp only [hy, gE] at h1 hv;subst hv;exact cY (dL aa) h1
          · rw [gf (by simpa using ix), eG] at h1
            rw [gf (by simpa using ix)] at hv;simp only [jK] at h1 hv;cases ag : cs[i - c.args.toList.length]? with
            | none => rw [ag] at h1; cases h1
            | some y =>
              rw [ag] at h1;simp only [hy, gE] at h1;subst h1;exact cW.2 _ y v ag hv
        · have e : (#[] : Array Value) ++ c.args.map a.eval ++ vs.toArray = (c.args.toList.map a.eval ++ vs).toArray := by
            apply Array.ext';simp
          simp only [execOp, aB, resolve, zX, Deferred.ofValue, kU];simp only [Sem.run_bind, Sem.run_pure, Result.andThen_ok, invoke];rw [e];exact Df zZ
    unfold Oper.wp;rw [hc];refine (hp.call (s.free A ad) w _ dX).mono ?_;rintro e w' ⟨v, rfl, hv, ab⟩;refine ⟨ad, (ay.call ab).put hd (hv.map (fun b cV ap => ⟨?_, rfl⟩) fun j af => absurd af (hp.ct j))⟩;rcases cV with h | h
    · exact h
    · refine ⟨ay.up b (lC ay.below.size h), fun k cs ae e => ?_⟩
      have := ay.lt ae;omega
end
def ahd : ai := .dd []
def want (ops : Array Oper) (o : Oper) (s : aE) : Option Bool :=
  match o.guard with
  | none => some true
  | some (g, b) =>
    match (ops[g]?).bind (·.dst) with
    | some d => match s.tmps d with
      | some (.w (.one (.c (.bool x)))) => some (some x == some b)
      | some (.dd _) => some false
      | _ => none
    | none => none
def mw (o : Oper) : Nat :=
  match o.op with
  | .load .. => 1
  | .store .. => 2
  | _ => 0
def wC (x y : Oper) : Bool := !(mw x == 2 && mw y != 0) && !(mw x != 0 && mw y == 2)
def addrOf (o : Oper) : Option Operand :=
  match o.op with
  | .load _ x => some x
  | .store _ x _ => some x
  | _ => none
def zi : ai → ai → Bool
  | .w (.one (.own k _)), .w (.one (.own j _)) => !Nat.beq k j
  | .w (.one (.own _ _)), .w (.one (.p _)) => true
  | .w (.one (.p _)), .w (.one (.own _ _)) => true
  | _, _ => false
theorem GH {k j o p : Nat} (h : zi (.w (.one (.own k o))) (.w (.one (.own j p))) = true) : k ≠ j := fun e => by
  subst e;simp [zi, Nat.beq_refl] at h
def y1 (s : aE) (x y : Oper) : Prop := wC x y = true ∨ ∃ a b u v, addrOf x = some a ∧ addrOf y = some b ∧ s.look a = some u ∧ s.look b = some v ∧ zi u v = true
section
variable {P : Program} {B : e8} {A : Nat → Prop} {s s1 s2 s' : aE} {ad : Nat → Nat} {a : Act} {w : World} {o bm bk : Oper} {ops : Array Oper}
theorem Ps {x : Operand} {dst : Option Nat} {v : ai} (h : ∀ d, dst = some d → x ≠ .tmp d) : (s.put dst v).look x = s.look x := by
  cases dst with
  | none => rfl
  | some d =>
    cases x with
    | tmp t => simp only [aE.look, aE.put]; exact cl _ _ (fun e => h d rfl (by rw [e]))
    | _ => rfl
theorem abY {x : Operand} {k : Nat} {cs : List AC} : (s.ep k cs).look x = s.look x := by cases x <;> rfl
theorem xd.congr {look gR : Operand → Option ai} {av : ai} (h : xd P look o av) (e : ∀ x ∈ o.op.operands, gR x = look x) : xd P gR o av :=
  ⟨h.af6, fun x aa => by rw [e x aa]; exact h.ops x aa, fun U ad W env he => h.run U ad W env fun x aa a aI => he x aa a (by rw [e x aa]; exact aI), fun j af => by
    obtain ⟨x, aa, a, aI, YN⟩ := h.own j af;exact ⟨x, aa, a, by rw [e x aa]; exact aI, YN⟩⟩
theorem w9.congr {look gR : Operand → Option ai} {av : ai} (h : w9 P look o av) (e : ∀ x ∈ o.op.operands, gR x = look x) : w9 P gR o av :=
  ⟨fun x aa => by rw [e x aa]; exact h.ops x aa, h.p5, fun U ad W env he => h.run U ad W env fun x aa a aI => he x aa a (by rw [e x aa]; exact aI)⟩
theorem vk.congr {look gR : Operand → Option ai} {cs : List AC} (h : vk P look o cs) (e : ∀ x ∈ o.op.operands, gR x = look x) : vk P gR o cs := by
  cases h with
  | alloc ty i z cs aB hi a6 ak h1 => exact .alloc ty i z cs aB hi a6 ak h1
  | box ty x z aB aa => exact .box ty x z aB (by rw [e x (by simp [aB, Op.operands])]; exact aa)
theorem tG.congr {look gR : Operand → Option ai} {f : FuncId} {args : List ai} (h : tG P look o f args) (e : ∀ x ∈ o.op.operands, gR x = look x) : tG P gR o f args := by
  obtain ⟨⟨c, g, aB, ak, aW⟩, he⟩ := h;have MK : gR g = look g := e g (by simp [aB, Op.operands, Call.operands, ak]);have iM : c.args.toList.map gR = c.args.toList.map look := oD fun x aa => e x (by simp [aB, Op.operands, Call.operands, ak]; exact .inr (by simpa using aa));refine ⟨⟨c, g, aB, ak, ?_⟩, he⟩;rcases aW with ⟨bs, ax, aI, ab⟩ | ⟨cs, ax, aI⟩
  · exact .inl ⟨bs, by rw [MK]; exact ax, by rw [iM]; exact aI, ab⟩
  · exact .inr ⟨cs, by rw [MK]; exact ax, by rw [iM]; exact aI⟩
theorem aE.put_comm (s : aE) {x y : Option Nat} (v u : ai) (h : ∀ d, x = some d → y ≠ some d) : (s.put x v).put y u = (s.put y u).put x v := by
  cases x with
  | none => rfl
  | some d =>
    cases y with
    | none => rfl
    | some e =>
      have ca : e ≠ d := fun he => h d rfl (by rw [he]);simp only [aE.put];rw [Sx _ _ _ ca]
theorem aE.yv (s : aE) (x : Option Nat) (v : ai) (k : Nat) (cs : List AC) : (s.put x v).ep k cs = (s.ep k cs).put x v := by cases x <;> rfl
theorem aE.af8 (s : aE) {k j : Nat} (cs ds : List AC) (h : j ≠ k) : (s.ep k cs).ep j ds = (s.ep j ds).ep k cs := by
  simp only [aE.ep];rw [Sx _ _ _ h]
structure cu where
  v : ai
  m : Option (Nat × List AC)
def cu.on (e : cu) (dst : Option Nat) (s : aE) : aE :=
  match e.m with
  | some (k, cs) => (s.ep k cs).put dst e.v
  | none => s.put dst e.v
inductive e6 (P : Program) (n : Nat) (look : Operand → Option ai) (mem : Nat → Option (List AC)) (o : Oper) : Bool → cu → Prop
  | skip : e6 P n look mem o false ⟨.dd [], none⟩
  | quiet (av : ai) (an : xd P look o av) : e6 P n look mem o true ⟨av, none⟩
  | fresh (av : ai) (an : w9 P look o av) : e6 P n look mem o true ⟨av, none⟩
  | load (ty : TypeId) (x : Operand) (k off : Nat) (cs : List AC) (av : bK) (aB : o.op = .load ty x) (aa : look x = some (.w (.one (.own k off)))) (hm : mem k = some cs) (hv : pick P ty cs off = some av) : e6 P n look mem o true ⟨.w av, none⟩
  | store (ty : TypeId) (x y : Operand) (k off : Nat) (cs : List AC) (z : bK) (i : TypeInfo) (aB : o.op = .store ty x y) (aa : look x = some (.w (.one (.own k off)))) (ag : look y = some (.w z)) (hm : mem k = some cs) (hi : P.info? ty = some i) (hs : i.size = z.cells.length) (ab : off + z.cells.length ≤ cs.length) : e6 P n look mem o true ⟨.dd [], some (k, eO cs off z.cells)⟩
  | new (cs : List AC) (d : Nat) (dD : o.dst = some d) (hm : mem d = none) (aD : vk P look o cs) : e6 P n look mem o true ⟨.w (.one (.own d 0)), some (d, cs)⟩
  | call (f : FuncId) (args : List ai) (r : ai) (ak : tG P look o f args) (hp : aY P f args r) : e6 P n look mem o true ⟨r, none⟩
theorem e6.step {e : cu} (h : e6 P s.n s.look s.mem o true e) (hd : ∀ d, o.dst = some d → d < s.n) : lJ P s o (e.on o.dst s) := by
  cases h with
  | quiet av an => exact .quiet av an hd
  | fresh av an => exact .fresh av an hd
  | load ty x k off cs av aB aa hm hv => exact .load ty x k off cs av aB aa hm hv hd
  | store ty x y k off cs z i aB aa ag hm hi hs ab =>
    have := lJ.store (P := P) (s := s) ty x y k off cs z i aB aa ag hm hi hs ab hd;rw [aE.yv] at this;exact this
  | new cs d dD hm aD =>
    have := lJ.new (P := P) (s := s) cs d dD hm aD (hd d dD);rw [← dD] at this;exact this
  | call f args r ak hp => exact .call f args r ak hp hd
theorem cu.rD (e : cu) (dst : Option Nat) (s : aE) : (e.on dst s).mem = match e.m with | some (k, cs) => bJ s.mem k cs | none => s.mem := by
  unfold cu.on
  split
  · rename_i h; rw [aE.yi]; simp [aE.ep]
  · rename_i h; rw [aE.yi]
theorem cu.rC (e : cu) (dst : Option Nat) (s : aE) {x : Operand} (h : ∀ d, dst = some d → x ≠ .tmp d) : (e.on dst s).look x = s.look x := by
  unfold cu.on
  split
  · rw [Ps h, abY]
  · rw [Ps h]
theorem cu.uW (e : cu) (dst : Option Nat) (s : aE) : (e.on dst s).n = s.n := by
  unfold cu.on
  split
  · rw [aE.s7]; rfl
  · rw [aE.s7]
theorem cu.A9 (e f : cu) (x y : Option Nat) (s : aE) (h : ∀ d, x = some d → y ≠ some d) (ae : ∀ k cs j ds, e.m = some (k, cs) → f.m = some (j, ds) → j ≠ k) : f.on y (e.on x s) = e.on x (f.on y s) := by
  unfold cu.on;cases he : e.m with
  | none =>
    cases aw : f.m with
    | none => simp only [he, aw]; exact aE.put_comm s _ _ h
    | some q => obtain ⟨j, ds⟩ := q; simp only [he, aw]; rw [aE.yv]; exact aE.put_comm _ _ _ h
  | some p =>
    obtain ⟨k, cs⟩ := p;cases aw : f.m with
    | none => simp only [he, aw]; rw [aE.yv]; exact aE.put_comm _ _ _ h
    | some q =>
      obtain ⟨j, ds⟩ := q;simp only [he, aw];rw [aE.yv, aE.yv, aE.af8 s _ _ (ae k cs j ds he aw)];exact aE.put_comm _ _ _ h
theorem uK {x : Operand} {d : Nat} {y : Oper} (h : d ∉ y.looksAt ops) (aa : x ∈ y.op.operands) : x ≠ .tmp d := fun e => h (by
  subst e;exact List.mem_append_left _ (List.mem_filterMap.2 ⟨.tmp d, by simpa using aa, rfl⟩))
theorem e6.swap {b c : Bool} {e f : cu} (ok : s.cU) (he : e6 P s.n s.look s.mem bm b e) (aw : e6 P (e.on bm.dst s).n (e.on bm.dst s).look (e.on bm.dst s).mem bk c f) (qi : bm.apart ops bk = true) (mU : y1 s bm bk) :
    e6 P s.n s.look s.mem bk c f ∧ e6 P (f.on bk.dst s).n (f.on bk.dst s).look (f.on bk.dst s).mem bm b e ∧ f.on bk.dst (e.on bm.dst s) = e.on bm.dst (f.on bk.dst s) := by
  obtain ⟨a1, a2, a3⟩ := Oper.apart_spec qi;have mZ : ∀ x ∈ bk.op.operands, (e.on bm.dst s).look x = s.look x := fun x aa => cu.rC _ _ _ fun d hd => uK (a1 d hd) aa;have cO := cu.rD e bm.dst s
 
  have v7 : ∀ k cs, e.m = some (k, cs) → (∃ au, s.mem k = some au) ∨ s.mem k = none := fun k cs _ => by
    cases h : s.mem k with
    | none => exact .inr rfl
    | some c => exact .inl ⟨c, rfl⟩
  have QK : ∀ x k off, s.look x = some (.w (.one (.own k off))) → ∃ cs, s.mem k = some cs := fun x k off aa => by
    cases x with
    | tmp t => exact ok.hA t _ k aa ⟨.own k off, by simp [bK.cells], rfl⟩
    | const v => simp only [aE.look] at aa; split at aa <;> cases aa
    | global g => cases aa
    | func g => cases aa
 
  have PN : ∀ x k off, addrOf bk = some x → mw bk ≠ 0 → s.look x = some (.w (.one (.own k off))) → (e.on bm.dst s).mem k = s.mem k := by
    intro x k off HT Ie aa;rw [cO];cases he with
    | skip => rfl
    | quiet av an => rfl
    | fresh av an => rfl
    | load => rfl
    | call => rfl
    | store ty x' y' k' Qx cs z i aB kY ag hm hi hs ab =>
      rcases mU with mU | ⟨a, b, q, p, aI, cV, iM, ml, ca⟩
      · exfalso
        have : mw bm = 2 := by simp [mw, aB]
        simp [wC, this, Ie] at mU
      · simp only [addrOf, aB, gE] at aI
        subst aI;rw [kY] at iM;cases iM;rw [HT] at cV;cases cV;rw [aa] at ml;cases ml;show bJ s.mem k' _ k = s.mem k;exact cl _ _ (Ne.symm (GH ca))
    | new cs d dD hm aD =>
      obtain ⟨c, ak⟩ := QK x k off aa;show bJ s.mem d cs k = s.mem k;exact cl _ _ (fun e => by subst e; rw [hm] at ak; cases ak)
  have mq : e6 P s.n s.look s.mem bk c f := by
    cases aw with
    | skip => exact .skip
    | quiet av an => exact .quiet av (an.congr fun x aa => (mZ x aa).symm)
    | fresh av an => exact .fresh av (an.congr fun x aa => (mZ x aa).symm)
    | load ty x k off cs av aB aa hm hv =>
      have kY : s.look x = some (.w (.one (.own k off))) := by rw [← mZ x (by simp [aB, Op.operands])]; exact aa
      exact .load ty x k off cs av aB kY (by rw [← PN x k off (by simp [addrOf, aB]) (by simp [mw, aB]) kY]; exact hm) hv
    | store ty x y k off cs z i aB aa ag hm hi hs ab =>
      have kY : s.look x = some (.w (.one (.own k off))) := by rw [← mZ x (by simp [aB, Op.operands])]; exact aa
      exact .store ty x y k off cs z i aB kY (by rw [← mZ y (by simp [aB, Op.operands])]; exact ag) (by rw [← PN x k off (by simp [addrOf, aB]) (by simp [mw, aB]) kY]; exact hm) hi hs ab
    | new cs d dD hm aD =>
      refine .new cs d dD ?_ (aD.congr fun x aa => (mZ x aa).symm);rw [cO] at hm;cases mS : e.m with
      | none => rw [mS] at hm; exact hm
      | some p =>
        obtain ⟨k, c⟩ := p;rw [mS] at hm
        by_cases hU : d = k
        · subst hU
          change bJ s.mem d c d = none at hm
          rw [cw] at hm;cases hm
        · change bJ s.mem k c d = none at hm
          rwa [cl _ _ hU] at hm
    | call g args r ak hp => exact .call g args r (ak.congr fun x aa => (mZ x aa).symm) hp
  have lx : ∀ x ∈ bm.op.operands, (f.on bk.dst s).look x = s.look x := fun x aa => cu.rC _ _ _ fun d hd => uK (a3 d hd) aa;have PG := cu.rD f bk.dst s
  have H3 : e6 P (f.on bk.dst s).n (f.on bk.dst s).look (f.on bk.dst s).mem bm b e := by
    have PL : ∀ x k off, addrOf bm = some x → mw bm ≠ 0 → s.look x = some (.w (.one (.own k off))) → (f.on bk.dst s).mem k = s.mem k := by
      intro x k off HT Ie aa;rw [PG];cases mq with
      | skip => rfl
      | quiet av an => rfl
      | fresh av an => rfl
      | load => rfl
      | call => rfl
      | store ty x' y' k' Qx cs z i aB kY ag hm hi hs ab =>
        rcases mU with mU | ⟨a, b, q, p, aI, cV, iM, ml, ca⟩
        · exfalso
          have : mw bk = 2 := by simp [mw, aB]
          simp [wC, this, Ie] at mU
        · simp only [addrOf, aB, gE] at cV
          subst cV;rw [kY] at ml;cases ml;rw [HT] at aI;cases aI;rw [aa] at iM;cases iM;show bJ s.mem k' _ k = s.mem k;exact cl _ _ (GH ca)
      | new cs d dD hm aD =>
        obtain ⟨c, ak⟩ := QK x k off aa;show bJ s.mem d cs k = s.mem k;exact cl _ _ (fun e => by subst e; rw [hm] at ak; cases ak)
    cases he with
    | skip => exact .skip
    | quiet av an => exact .quiet av (an.congr fun x aa => lx x aa)
    | fresh av an => exact .fresh av (an.congr fun x aa => lx x aa)
    | load ty x k off cs av aB aa hm hv => exact .load ty x k off cs av aB (by rw [lx x (by simp [aB, Op.operands])]; exact aa) (by rw [PL x k off (by simp [addrOf, aB]) (by simp [mw, aB]) aa]; exact hm) hv
    | store ty x y k off cs z i aB aa ag hm hi hs ab => exact .store ty x y k off cs z i aB (by rw [lx x (by simp [aB, Op.operands])]; exact aa) (by rw [lx y (by simp [aB, Op.operands])]; exact ag) (by rw [PL x k off (by simp [addrOf, aB]) (by simp [mw, aB]) aa]; exact hm) hi hs ab
    | new cs d dD hm aD =>
      refine .new cs d dD ?_ (aD.congr fun x aa => lx x aa);rw [PG];cases mq with
      | skip => exact hm
      | quiet av an => exact hm
      | fresh av an => exact hm
      | load => exact hm
      | call => exact hm
      | store ty x' y' k' Qx au z i aB kY ag gv hi hs ab =>
        show bJ s.mem k' _ d = none;rw [cl _ _ (fun e => by subst e; rw [hm] at gv; cases gv)];exact hm
      | new au d' Za gv qn =>
        show bJ s.mem d' _ d = none;rw [cl _ _ (fun e => a2 d dD (by rw [Za, e]))];exact hm
    | call g args r ak hp => exact .call g args r (ak.congr fun x aa => lx x aa) hp
  refine ⟨mq, H3, cu.A9 e f bm.dst bk.dst s a2 ?_⟩;intro k cs j ds h1 h2 W3;subst W3;cases he with
  | skip => cases h1
  | quiet => cases h1
  | fresh => cases h1
  | load => cases h1
  | call => cases h1
  | store ty x y k' off au z i aB aa ag hm hi hs ab =>
    cases h1;cases mq with
    | skip => cases h2
    | quiet => cases h2
    | fresh => cases h2
    | load => cases h2
    | call => cases h2
    | store ag8 dm rW cd adn tV z2 i2 x3 II =>
      cases h2;rcases mU with mU | ⟨a, b, q, p, aI, cV, iM, ml, ca⟩
      · simp [wC, mw, aB, x3] at mU
      · simp only [addrOf, aB, x3, gE] at aI cV
        subst aI;subst cV;rw [aa] at iM;rw [II] at ml;cases iM;cases ml;exact GH ca rfl
    | new tV d2 NN od Ag => cases h2; rw [od] at hm; cases hm
  | new au d dD hm aD =>
    cases h1;cases mq with
    | skip => cases h2
    | quiet => cases h2
    | fresh => cases h2
    | load => cases h2
    | call => cases h2
    | store ag8 dm rW cd adn tV z2 i2 x3 II AA od => cases h2; rw [od] at hm; cases hm
    | new tV d2 NN od Ag => cases h2; exact a2 _ dD NN
end
section
variable {P : Program} {B : e8} {A : Nat → Prop} {s s1 s2 s' : aE} {ad : Nat → Nat} {a : Act} {w : World} {o bm bk : Oper} {ops : Array Oper} {md : Region.Mode}
theorem look_ok {x : Operand} {av : ai} {j : Nat} (ok : s.cU) (aa : s.look x = some av) (af : av.owns j) : ∃ cs, s.mem j = some cs := by
  have none : ∀ v, ¬ (ai.w (.one (.c v))).owns j := fun v ⟨y, ag, h⟩ => by simp [bK.cells] at ag; subst ag; cases h
  cases x with
  | tmp t => exact ok.hA t av j aa af
  | const v =>
    simp only [aE.look] at aa
    split at aa
    · cases aa; exact absurd af (none _)
    · cases aa
  | global g => cases aa; exact absurd af (none _)
  | func g => cases aa; exact absurd af (none _)
theorem aE.cU.put {dst : Option Nat} {av : ai} (ok : s.cU) (h : ∀ j, av.owns j → ∃ cs, s.mem j = some cs) : (s.put dst av).cU := by
  cases dst with
  | none => exact ok
  | some d =>
    refine ⟨fun t bv j aF af => ?_, ok.dG⟩;simp only [aE.put] at aF ⊢
    by_cases e : t = d
    · subst e; rw [cw] at aF; cases aF; exact h j af
    · rw [cl _ _ e] at aF; exact ok.hA t bv j aF af
theorem aE.cU.ep {k : Nat} {cs : List AC} (ok : s.cU) (h : ∀ x ∈ cs, ∀ j, x.owns j → ∃ au, s.mem j = some au) : (s.ep k cs).cU := by
  have up : ∀ j, (∃ c, s.mem j = some c) → ∃ c, (s.ep k cs).mem j = some c := fun j ⟨c, ak⟩ => by
    by_cases e : j = k
    · exact ⟨cs, by rw [e]; exact cw _ _ _⟩
    · exact ⟨c, by simp only [aE.ep]; rw [cl _ _ e]; exact ak⟩
  refine ⟨fun t bv j aF af => up j (ok.hA t bv j aF af), fun k' c x j ae aa af => up j ?_⟩;simp only [aE.ep] at ae
  by_cases e : k' = k
  · subst e; rw [cw] at ae; cases ae; exact h x aa j af
  · rw [cl _ _ e] at ae; exact ok.dG k' c x j ae aa af
theorem aeR {ty : TypeId} {cs : List AC} {off : Nat} {av : bK} (h : pick P ty cs off = some av) : ∀ x ∈ av.cells, x ∈ cs := by
  unfold pick at h
  split at h
  · cases hi : P.info? ty with
    | none => rw [hi] at h; cases h
    | some i =>
      rw [hi] at h;simp only [kE] at h
      split at h
      · cases h; exact fun x aa => nN (py aa)
      · cases h
  · cases hi : P.info? ty with
    | none => rw [hi] at h; cases h
    | some i =>
      rw [hi] at h;simp only [kE] at h
      split at h
      · cases h; exact fun x aa => nN (py aa)
      · cases h
  · cases aa : cs[off]? with
    | none => rw [aa] at h; cases h
    | some y => rw [aa] at h; cases h; intro x kY; simp [bK.cells] at kY; subst kY; exact dL aa
  · cases h
theorem lJ.ok (h : lJ P s o s') (ok : s.cU) : s'.cU := by
  cases h with
  | quiet av an hd =>
    refine ok.put fun j af => ?_;obtain ⟨x, aa, b, ab, YW⟩ := an.own j af;exact look_ok ok ab YW
  | fresh av an hd => exact ok.put fun j af => absurd af (an.p5 j)
  | load ty x k off cs av aB aa hm hv hd =>
    refine ok.put fun j af => ?_;obtain ⟨y, ag, mu⟩ := af;exact ok.dG k cs y j hm (aeR hv y ag) mu
  | store ty x y k off cs z i aB aa ag hm hi hs ab hd =>
    rw [aE.yv];refine aE.cU.put (ok.ep fun x aa j af => ?_) fun j af => (by obtain ⟨y, ag, _⟩ := af; cases ag);unfold eO at aa;simp only [kD] at aa;rcases aa with (h1 | h1) | h1
    · exact ok.dG k cs x j hm (py h1) af
    · exact look_ok ok ag ⟨x, h1, af⟩
    · exact ok.dG k cs x j hm (nN h1) af
  | new cs d dD hm aD hd =>
    refine aE.cU.put (ok.ep fun x aa j af => ?_) fun j af => ?_
    · cases aD with
      | alloc ty i z cs aB hi a6 ak h1 => subst ak; obtain ⟨v, _, rfl⟩ := iW.1 aa; cases af
      | box ty y z aB ag => exact look_ok ok ag ⟨x, aa, af⟩
    · obtain ⟨y, ag, mu⟩ := af
      simp [bK.cells] at ag;subst ag;cases mu;exact ⟨cs, cw _ _ _⟩
  | call f args r ak hp hd => exact ok.put fun j af => absurd af (hp.ct j)
def sg (P : Program) (ops : Array Oper) (o : Oper) (K : aE → Prop) (s : aE) : Prop :=
  ∃ b, want ops o s = some b ∧ ∃ e, e6 P s.n s.look s.mem o b e ∧ (∀ d, o.dst = some d → d < s.n) ∧ K (e.on o.dst s)
def y9 (P : Program) (md : Region.Mode) (ops : Array Oper) (K : aE → Prop) : Nat → Array Bool → aE → Prop
  | 0, bA, s => Region.ready md ops bA = [] ∧ K s
  | fz + 1, bA, s => (Region.ready md ops bA = [] → K s) ∧
    ∀ i ∈ Region.ready md ops bA, ∀ o, ops[i]? = some o → sg P ops o (y9 P md ops K fz (bA.setIfInBounds i true)) s
theorem SN {b : Bool} (h : want ops o s = some b) (ay : Rel B A s ad a w) : Region.wanted o (yielded ops a.tmps) = b := by
  unfold want at h;unfold Region.wanted
  split at h
  · rename_i ax; rw [ax]; cases h; rfl
  · rename_i g bR ax
    rw [ax]
    split at h
    · rename_i d hd
      split at h
      · rename_i x aa
        cases h;obtain ⟨v, h1, h2⟩ := ay.hA d _ aa;obtain ⟨rfl, _⟩ := h2;simp [yielded, hd, h1]
      · rename_i xs aa
        cases h;obtain ⟨v, h1, h2⟩ := ay.hA d _ aa;obtain ⟨vs, rfl, _⟩ := h2;simp [yielded, hd, h1]
      · cases h
    · cases h
theorem zy {b : Bool} {e : cu} (ok : s.cU) (he : e6 P s.n s.look s.mem o b e) (hd : ∀ d, o.dst = some d → d < s.n) : (e.on o.dst s).cU := by
  cases b with
  | true => exact (he.step hd).ok ok
  | false => cases he; exact ok.put fun j af => (by obtain ⟨y, ag, _⟩ := af; cases ag)
theorem Ls {ro : Option Nat} {K : aE → Prop} {je : Act → World → Prop} {Q : Exit → Act → World → Prop} {i : Nat} (hi : ops[i]? = some o) (ok : s.cU) (ay : Rel B A s ad a w) (h : sg P ops o K s)
    (ek : ∀ s' bg a' w', s'.cU → Rel B A s' bg a' w' → K s' → je a' w') : wpOpIn (mK ro) 0 P ops Q i je a w := by
  obtain ⟨b, hw, e, he, hd, ae⟩ := h;have lu := SN hw ay;unfold wpOpIn;simp only [hi];cases b with
  | true =>
    rw [lu];simp only [if_true];have dz := (he.step hd).ok ok;exact Oper.SP (Oper.wp_mono (fun a' w' ⟨bg, al⟩ => ek _ bg a' w' dz al ae) (lJ.sound (he.step hd) ay ok)) ((he.step hd).Qg ay)
  | false =>
    rw [lu];simp only [oC, if_false];cases he;exact ⟨fun _ _ => trivial, ek _ ad _ _ (ok.put fun j af => (by obtain ⟨y, ag, _⟩ := af; cases ag)) (ay.put hd (dn.undef _)) ae⟩
theorem Lp {ro : Option Nat} {K : aE → Prop} {Q : Exit → Act → World → Prop} (jF : ∀ s' bg a' w', s'.cU → Rel B A s' bg a' w' → K s' → Q .normal a' w') : ∀ (fz : Nat) (bA : Array Bool) (s : aE) (ad : Nat → Nat) (a : Act) (w : World), s.cU → Rel B A s ad a w →
    y9 P md ops K fz bA s → wpAnyIn (mK ro) 0 P md ops Q fz bA a w
  | 0, _, _, _, _, _, ok, ay, h => ⟨h.1, jF _ _ _ _ ok ay h.2⟩
  | fz + 1, bA, s, ad, a, w, ok, ay, h => ⟨fun aJ => jF _ _ _ _ ok ay (h.1 aJ), fun i hi => by
      obtain ⟨aJ, o, aB, _⟩ := mem_ready.1 hi;exact Ls aB ok ay (h.2 i hi o aB) fun s' bg a' w' dz cE ae => Lp jF fz _ s' bg a' w' dz cE ae⟩
theorem yN {b : Option Bool} {e : cu} {dst : Option Nat} (ap : ∀ d, dst = some d → d ∉ o.looksAt ops) : want ops o (e.on dst s) = want ops o s := by
  have aF : ∀ d, (∀ d', dst = some d' → d ≠ d') → (e.on dst s).tmps d = s.tmps d := fun d h => by
    have := cu.rC e dst s (x := .tmp d) (fun d' sH bu => h d' sH (by cases bu; rfl));exact this
  unfold want;cases ax : o.guard with
  | none => rfl
  | some p =>
    obtain ⟨g, bR⟩ := p;simp only;cases hd : (ops[g]?).bind (·.dst) with
    | none => rfl
    | some d =>
      simp only
      rw [aF d (fun d' sH bu => ap d' sH (by
        subst bu;unfold Oper.looksAt;rw [ax];exact List.mem_append_right _ (by simp [hd])))]
theorem Um {b : Bool} {e : cu} {K : aE → Prop} (ok : s.cU) (hw : want ops bm s = some b) (he : e6 P s.n s.look s.mem bm b e) (uv : ∀ d, bm.dst = some d → d < s.n) (qi : bm.apart ops bk = true) (mU : y1 s bm bk) (h : sg P ops bk K (e.on bm.dst s)) :
    sg P ops bk (fun t => (want ops bm t = some b ∧ e6 P t.n t.look t.mem bm b e ∧ (∀ d, bm.dst = some d → d < t.n) ∧ t.cU) ∧ K (e.on bm.dst t)) s := by
  obtain ⟨a1, a2, a3⟩ := Oper.apart_spec qi;obtain ⟨c, sS, f, aw, rk, ae⟩ := h;obtain ⟨h1, h2, ao⟩ := e6.swap ok he aw qi mU;rw [yN (b := none) a1] at sS;have vW : ∀ d, bk.dst = some d → d < s.n := fun d hd => by have := rk d hd; rwa [cu.uW] at this
  refine ⟨c, sS, f, h1, vW, ⟨?_, h2, fun d hd => by rw [cu.uW]; exact uv d hd, zy ok h1 vW⟩, by rw [← ao]; exact ae⟩;rw [yN (b := none) a3];exact hw
theorem Ul {K je : aE → Prop} (h : ∀ s, K s → je s) (aW : sg P ops o K s) : sg P ops o je s :=
  let ⟨b, h1, e, h2, ao, aH⟩ := aW
  ⟨b, h1, e, h2, ao, h _ aH⟩
def pV (ops : Array Oper) (bA : Array Bool) (x y : Oper) (s : aE) : Prop :=
  wC x y = true ∨ ∃ t u o p, addrOf x = some (.tmp t) ∧ addrOf y = some (.tmp u) ∧ s.tmps t = some o ∧ s.tmps u = some p ∧ zi o p = true ∧
    ∀ i bm, ops[i]? = some bm → bA.getD i true = false → bm.dst ≠ some t ∧ bm.dst ≠ some u
theorem pV.sep {bA : Array Bool} (h : pV ops bA bm bk s) : y1 s bm bk := by
  rcases h with h | ⟨t, u, o, p, h1, h2, ao, aH, cM, _⟩
  · exact .inl h
  · exact .inr ⟨_, _, o, p, h1, h2, ao, aH, cM⟩
theorem cu.yr {e : cu} {dst : Option Nat} {t : Nat} (h : dst ≠ some t) : (e.on dst s).tmps t = s.tmps t := by
  have := cu.rC e dst s (x := .tmp t) (fun d hd bu => by cases bu; exact h hd);exact this
theorem pV.on {bA : Array Bool} {f : cu} {o : Oper} {i : Nat} (h : pV ops bA bm bk s) (aB : ops[i]? = some o) (iP : bA.getD i true = false) : pV ops (bA.setIfInBounds i true) bm bk (f.on o.dst s) := by
  rcases h with h | ⟨t, u, q, p, h1, h2, ao, aH, cM, fQ⟩
  · exact .inl h
  · obtain ⟨fT, fC⟩ := fQ i o aB iP
    refine .inr ⟨t, u, q, p, h1, h2, by rw [cu.yr fT]; exact ao, by rw [cu.yr fC]; exact aH, cM, fun fS cR hn uF => fQ fS cR hn ?_⟩
    by_cases e : i = fS
    · subst e; exact iP
    · rwa [getD_set_ne true e] at uF
theorem Un {b : Bool} {e : cu} {K : aE → Prop} (ok : s.cU) (hw : want ops bm s = some b) (he : e6 P s.n s.look s.mem bm b e) (uv : ∀ d, bm.dst = some d → d < s.n) (qi : bm.apart ops bk = true) (mU : y1 s bm bk) (h : sg P ops bk K (e.on bm.dst s)) :
    sg P ops bk (fun t => (∃ f : cu, t = f.on bk.dst s) ∧ (want ops bm t = some b ∧ e6 P t.n t.look t.mem bm b e ∧ (∀ d, bm.dst = some d → d < t.n) ∧ t.cU) ∧ K (e.on bm.dst t)) s := by
  obtain ⟨c, h1, f, h2, ao, aH⟩ := Um ok hw he uv qi mU h;exact ⟨c, h1, f, h2, ao, ⟨f, rfl⟩, aH⟩
def waits (md : Region.Mode) (ops : Array Oper) : Nat → Nat → Nat → Bool
  | 0, _, _ => false
  | f + 1, j, i => match ops[j]? with
    | some o => o.after.any fun e => Region.binds md e && (e.on == i || waits md ops f e.on i)
    | none => false
def Down (md : Region.Mode) (ops : Array Oper) (bA : Array Bool) : Prop := ∀ k o, bA.getD k false = true → ops[k]? = some o → ∀ e ∈ o.after, Region.binds md e = true → bA.getD e.on false = true
theorem KB {bA : Array Bool} (hd : Down md ops bA) : ∀ (f j i : Nat) (o : Oper), ops[j]? = some o → (∀ e ∈ o.after, Region.binds md e = true → bA.getD e.on false = true) → waits md ops f j i = true → bA.getD i false = true
  | 0, _, _, _, _, _, h => by cases h
  | f + 1, j, i, o, aB, di, h => by
    simp only [waits, aB] at h;obtain ⟨e, he, ab⟩ := Array.any_eq_true'.1 h;simp only [eh, rK, beq_iff_eq] at ab;obtain ⟨h1, h2⟩ := ab;have ap := di e he h1;rcases h2 with h2 | h2
    · rw [← h2]; exact ap
    · cases hn : ops[e.on]? with
      | none => cases f <;> simp [waits, hn] at h2
      | some cR => exact KB hd f e.on i cR hn (fun bu H3 cV => hd e.on cR ap hn bu H3 cV) h2
theorem Down.set {bA : Array Bool} (hd : Down md ops bA) {j : Nat} (af : j ∈ Region.ready md ops bA) : Down md ops (bA.setIfInBounds j true) := by
  intro k o ae aB e he ab;obtain ⟨_, bk, fZ, di⟩ := mem_ready.1 af
  by_cases bu : j = k
  · subst bu
    rw [fZ] at aB;cases aB;exact getD_set_true (di e he ab)
  · refine getD_set_true (hd k o ?_ aB e he ab)
    have : (bA.setIfInBounds j true).getD k false = bA.getD k false := by simp [Array.getElem?_setIfInBounds_ne bu]
    rwa [this] at ae
theorem Uk {K : aE → Prop} {i : Nat} {b : Bool} {e : cu} (hi : ops[i]? = some bm) : ∀ (fz : Nat) (bA : Array Bool) (s : aE),
      (∀ j bk, ops[j]? = some bk → j ≠ i → bA.getD j true = false → (∀ e ∈ bk.after, Region.binds md e = true → e.on ≠ i) → waits md ops 4 j i = false → bm.apart ops bk = true ∧ pV ops bA bm bk s) →
      Down md ops bA → i ∈ Region.ready md ops bA → s.cU → want ops bm s = some b → e6 P s.n s.look s.mem bm b e → (∀ d, bm.dst = some d → d < s.n) →
      y9 P md ops K fz (bA.setIfInBounds i true) (e.on bm.dst s) → y9 P md ops K (fz + 1) bA s := by
  intro fz
  induction fz with
  | zero =>
    intro bA s _ gr al ok hw he hd H;refine ⟨fun h => (by rw [h] at al; cases al), fun j af bk fZ => ?_⟩
    by_cases gQ : j = i
    · subst gQ; rw [hi] at fZ; cases fZ; exact ⟨b, hw, e, he, hd, H⟩
    · have := ready_mono af gQ
      rw [H.1] at this;cases this
  | succ fz bW =>
    intro bA s j4 gr al ok hw he hd H;refine ⟨fun h => (by rw [h] at al; cases al), fun j af bk fZ => ?_⟩
    by_cases gQ : j = i
    · subst gQ; rw [hi] at fZ; cases fZ; exact ⟨b, hw, e, he, hd, H⟩
    · have h1 := H.2 j (ready_mono af gQ) bk fZ
      obtain ⟨vZ, ado, Aj, di⟩ := mem_ready.1 af;rw [fZ] at Aj;cases Aj
      have sN : ∀ e ∈ bk.after, Region.binds md e = true → e.on ≠ i := fun e he ab sL => by
        have h1 := di e he ab;have aJ := (mem_ready.1 al).1;rw [sL] at h1;rcases jt i bA.size with ar | ar
        · simp [ar] at aJ h1; rw [aJ] at h1; cases h1
        · simp [wM ar] at h1
      have sT : waits md ops 4 j i = false := by
        cases sS : waits md ops 4 j i with
        | false => rfl
        | true =>
          have h1 := KB gr 4 j i bk fZ di sS;have aJ := (mem_ready.1 al).1;rcases jt i bA.size with ar | ar
          · simp [ar] at aJ h1; rw [aJ] at h1; cases h1
          · simp [wM ar] at h1
      obtain ⟨g1, g2⟩ := j4 j bk fZ gQ vZ sN sT;have h2 := Un ok hw he hd g1 g2.sep h1;refine Ul (fun t ao => ?_) h2;obtain ⟨⟨f, rfl⟩, ao⟩ := ao
      have H5 : ∀ k ok, ops[k]? = some ok → k ≠ i → (bA.setIfInBounds j true).getD k true = false →
          (∀ e ∈ ok.after, Region.binds md e = true → e.on ≠ i) → waits md ops 4 k i = false → bm.apart ops ok = true ∧ pV ops (bA.setIfInBounds j true) bm ok (f.on bk.dst s) := fun k ok ae kW iP fY Ee => by
        have uF : bA.getD k true = false := by
          by_cases lq : j = k
          · subst lq; exact vZ
          · rwa [getD_set_ne true lq] at iP
        obtain ⟨q1, q2⟩ := j4 k ok ae kW uF fY Ee;exact ⟨q1, q2.on fZ vZ⟩
      refine bW (bA.setIfInBounds j true) _ H5 (gr.set af) (ready_mono al (Ne.symm gQ)) ao.1.2.2.2 ao.1.1 ao.1.2.1 ao.1.2.2.1 ?_;rw [Array.setIfInBounds_comm _ _ gQ];exact ao.2
def bj (P : Program) (ops : Array Oper) (K : aE → Prop) : List Oper → aE → Prop
  | [], s => K s
  | o :: rest, s => sg P ops o (bj P ops K rest) s
def JN (x y : Oper) : Option (Nat × Nat) :=
  match addrOf x, addrOf y with
  | some (.tmp t), some (.tmp u) => some (t, u)
  | _, _ => none
def po (ops : Array Oper) (bA : Array Bool) (t : Nat) : Bool := (List.range ops.size).all fun j => bA.getD j true || match ops[j]? with
  | some o => o.dst != some t
  | none => true
def mG (s : aE) (p : Nat × Nat) : Bool :=
  match s.tmps p.1, s.tmps p.2 with
  | some x, some y => zi x y
  | _, _ => false
def EI (md : Region.Mode) (ops : Array Oper) (ik : List (Nat × Nat)) (bA : Array Bool) (i : Nat) : Bool :=
  match ops[i]? with
  | none => false
  | some bm => (List.range ops.size).all fun j => j == i || bA.getD j true || match ops[j]? with
      | some bk => wC bm bk || waits md ops 4 j i || match JN bm bk with
        | some (t, u) => ik.contains (t, u) && po ops bA t && po ops bA u
        | none => false
      | none => true
theorem EV {bA : Array Bool} {t : Nat} (h : po ops bA t = true) (j : Nat) (o : Oper) (aB : ops[j]? = some o) (iP : bA.getD j true = false) : o.dst ≠ some t := by
  unfold po at h;simp only [cB, List.mem_range] at h;have := h j (k4.1 aB).1;simp only [aB, iP, Bool.false_or, bne_iff_ne, ne_eq] at this;exact this
theorem PH {i : Nat} {ik : List (Nat × Nat)} {bA : Array Bool} (hi : ops[i]? = some bm) (h : EI md ops ik bA i = true) (hs : ∀ p ∈ ik, po ops bA p.1 = true → po ops bA p.2 = true → mG s p = true) (j : Nat) (bk : Oper)
    (af : ops[j]? = some bk) (ca : j ≠ i) (iP : bA.getD j true = false) (fY : waits md ops 4 j i = false) : pV ops bA bm bk s := by
  simp only [EI, hi, cB, List.mem_range] at h;have h1 := h j (k4.1 af).1;simp only [af, rK, beq_iff_eq, ca, false_or, iP, oC] at h1;rcases h1 with (h1 | h1) | h1
  · exact .inl h1
  · rw [fY] at h1; cases h1
  · split at h1
    · rename_i t u hp
      simp only [eh] at h1;obtain ⟨⟨c1, c2⟩, lg⟩ := h1;have ms := hs (t, u) (by simpa using c1) c2 lg;unfold JN at hp
      split at hp
      · rename_i oG k8 aG aM
        cases hp;unfold mG at ms
        split at ms
        · rename_i o dA q1 q2
          exact .inr ⟨t, u, o, dA, aG, aM, q1, q2, ms, fun fS cR hn uF => ⟨EV c2 fS cR hn uF, EV lg fS cR hn uF⟩⟩
        · cases ms
      · cases hp
    · cases h1
def AS (md : Region.Mode) (ops : Array Oper) (ik : List (Nat × Nat)) : List Nat → Array Bool → Bool
  | [], bA => (Region.ready md ops bA).isEmpty
  | k :: ord, bA => (Region.ready md ops bA).contains k && Region.free md ops bA k && EI md ops ik bA k && AS md ops ik ord (bA.setIfInBounds k true)
def getAll (l : List Oper) : List Nat → Option (List Oper)
  | [] => some []
  | i :: ord => match l[i]?, getAll l ord with
    | some o, some r => some (o :: r)
    | _, _ => none
theorem Hv {l : List Oper} : ∀ (ord : List Nat) (r : List Oper), getAll l ord = some r → r.length = ord.length ∧ ∀ (j : Nat), r[j]? = (ord[j]?).bind (l[·]?)
  | [], r, h => by cases h; exact ⟨rfl, fun j => by simp⟩
  | i :: ord, r, h => by
    simp only [getAll] at h
    split at h
    · rename_i o ba aB al
      cases h;obtain ⟨h1, h2⟩ := Hv ord ba al;refine ⟨by simp [h1], fun j => ?_⟩;cases j with
      | zero => simp [aB]
      | succ j => simpa using h2 j
    · cases h
theorem Lq {K : aE → Prop} : ∀ (l : List Oper) (s : aE), bj P ops K l s → ∃ s', K s' ∧ ∀ t, (∀ o ∈ l, o.dst ≠ some t) → s'.tmps t = s.tmps t
  | [], s, h => ⟨s, h, fun _ _ => rfl⟩
  | o :: l, s, ⟨b, hw, e, he, hd, ek⟩ => by
    obtain ⟨s', h1, h2⟩ := Lq l _ ek;exact ⟨s', h1, fun t aF => (h2 t fun cR hn => aF cR (by simp [hn])).trans (cu.yr (aF o (by simp)))⟩
theorem Lo {K : aE → Prop} {ik : List (Nat × Nat)} : ∀ (ord : List Nat) (l : List Oper) (bA : Array Bool) (s : aE), l.length = ord.length → (∀ (j : Nat), l[j]? = (ord[j]?).bind (ops[·]?)) → (∀ k ∈ ord, bA.getD k true = false) → (∀ k, k < ops.size → bA.getD k true = false → k ∈ ord) → ord.Nodup → Down md ops bA → s.cU →
    AS md ops ik ord bA = true → bj P ops (fun s => ik.all (mG s) = true ∧ K s) l s → y9 P md ops K l.length bA s
  | [], [], _, _, _, _, _, _, _, _, _, fG, h => ⟨by simpa [AS] using fG, h.2⟩
  | [], _ :: _, _, _, hlen, _, _, _, _, _, _, _, _ => by cases hlen
  | _ :: _, [], _, _, hlen, _, _, _, _, _, _, _, _ => by cases hlen
  | k :: ord, o :: l, bA, s, hlen, ap, iP, H0, hJ, gr, ok, fG, h => by
    have aJ : ops[k]? = some o := by simpa using (ap 0).symm
    have sK := Lq _ _ h;simp only [AS, eh] at fG;obtain ⟨⟨⟨al, aw⟩, hm⟩, HF⟩ := fG;obtain ⟨b, hw, e, he, hd, ek⟩ := h
    have hs : ∀ p ∈ ik, po ops bA p.1 = true → po ops bA p.2 = true → mG s p = true := fun p hp fT fC => by
      obtain ⟨s', ⟨h1, _⟩, h2⟩ := sK
      have hM : ∀ t, po ops bA t = true → ∀ cR ∈ o :: l, cR.dst ≠ some t := fun t aF cR hn => by
        obtain ⟨j, af⟩ := kA hn;rw [ap j] at af;cases an : (k :: ord)[j]? with
        | none => rw [an] at af; cases af
        | some q => rw [an] at af; exact EV aF q cR af (iP _ (dL an))
      have := cB.1 h1 p hp;unfold mG at this ⊢;rw [h2 p.1 (hM _ fT), h2 p.2 (hM _ fC)] at this;exact this
    rw [List.nodup_cons] at hJ;have ca : ∀ q ∈ ord, k ≠ q := fun q an e => hJ.1 (by rw [e]; exact an);refine Uk aJ l.length bA s (fun j bk h1 h2 ao aH cM => ⟨Region.free_spec aJ aw j bk h1 h2 ao aH, PH aJ hm hs j bk h1 h2 ao cM⟩) gr (by simpa using al) ok hw he hd ?_;refine Lo ord l _ _ (by simpa using hlen) (fun j => by simpa using ap (j + 1)) (fun q an => by rw [getD_set_ne true (ca q an)]; exact iP q (by simp [an])) (fun q an v8 => ?_) hJ.2 (gr.set (by simpa using al)) (zy ok he hd) HF ek
    by_cases bu : k = q
    · subst bu
      have : k < bA.size := by
        have := iP k (by simp);rcases jt k bA.size with ar | ar
        · exact ar
        · simp [wM ar] at this
      simp [this] at v8
    · rw [getD_set_ne true bu] at v8
      rcases gS.1 (H0 q an v8) with ar | ar
      · exact absurd ar.symm bu
      · exact ar
def wE (ops : Array Oper) (ord : List Nat) : List (Nat × Nat) :=
  match ord with
  | [] => []
  | i :: rest => (match ops[i]? with
    | some bm => bif mw bm != 0 then rest.filterMap fun j => match ops[j]? with
        | some bk => bif wC bm bk || waits .any ops 4 j i then none else JN bm bk
        | none => none
      else []
    | none => []) ++ wE ops rest
def early (o : Oper) : Bool := (match o.op with | .alloc _ => true | _ => false) && o.after.isEmpty && o.guard.isNone
def rE (l : List Oper) : List Nat := ((List.range l.length).filter fun i => match l[i]? with | some o => early o | none => false) ++ (List.range l.length).filter fun i => match l[i]? with | some o => !early o | none => false
def fN (P : Program) (c : Code) (Q : Exit → aE → Prop) (s : aE) : Prop :=
  s.cU → ∀ B A ad a w, Rel B A s ad a w → kK P c (fun e a' w' => ∃ s' bg, s'.cU ∧ Rel B A s' bg a' w' ∧ Q e s') a w
def A2 : List Nat → Bool
  | [] => true
  | x :: xs => !xs.contains x && A2 xs
theorem JB : ∀ (l : List Nat), A2 l = true → l.Nodup
  | [], _ => List.nodup_nil
  | x :: xs, h => by
    simp only [A2, eh, tf, List.contains_eq_mem, l0] at h;exact List.nodup_cons.2 ⟨h.1, JB xs h.2⟩
def MD (l : List Oper) : Bool := Nat.beq (rE l).length l.length && A2 (rE l) && (List.range l.length).all (fun i => (rE l).contains i) && (rE l).all (fun i => Nat.blt i l.length) && AS .any l.toArray (wE l.toArray (rE l)) (rE l) (Array.replicate l.length false)
theorem iL {id : Nat} {l cF : List Oper} {Q : Exit → aE → Prop} (hm : P.follows .mixedOrders = true) (fG : MD l = true) (ap : getAll l (rE l) = some cF)
    (h : bj P l.toArray (fun s => (wE l.toArray (rE l)).all (mG s) = true ∧ Q .normal s) cF s) : fN P (.region id l.toArray true) Q s := by
  intro ok B A ad a w ay;refine SJ hm fun ro => ?_;unfold MD at fG;simp only [eh, cB, List.mem_range, List.contains_eq_mem, cL] at fG;obtain ⟨⟨⟨⟨oS, b1⟩, b2⟩, ey⟩, dQ⟩ := fG;obtain ⟨g1, g2⟩ := Hv _ _ ap;have hd : Rel B A s ad a { w with drawn := w.drawn + 1 } := ay.call ((Below.refl _ w).drew);refine Lp (K := Q .normal) (fun s' bg a' w' dz cE ae => ⟨s', bg, dz, cE, ae⟩) _ _ s ad a _ ok hd ?_;have nd := JB _ b1;have hlen : (rE l).length = l.length := hP oS;have := Lo (md := .any) (ops := l.toArray) (rE l) cF (Array.replicate l.length false) s g1 (by simpa using g2) (fun q an => by have := ey q an; simp [Nat.blt_eq] at this; simp [this]) (fun q an _ => b2 q (by simpa using an)) nd (fun k o ae => by exfalso; rcases jt k l.length with q | q <;> simp [Array.getElem?_replicate, q] at ae) ok dQ h;rw [g1, hlen] at this;simpa using this
theorem Lr {ro : Option Nat} {K : aE → Prop} {Q : Exit → Act → World → Prop} (jF : ∀ s' bg a' w', s'.cU → Rel B A s' bg a' w' → K s' → Q .normal a' w') : ∀ (l : List Oper) (k : Nat) (s : aE) (ad : Nat → Nat) (a : Act) (w : World), (∀ (j : Nat), l[j]? = ops[k + j]?) → s.cU → Rel B A s ad a w →
    bj P ops K l s → wpOpsIn (mK ro) 0 P ops Q ((List.range l.length).map (k + ·)) a w
  | [], _, _, _, _, _, _, ok, ay, h => jF _ _ _ _ ok ay h
  | o :: l, k, s, ad, a, w, ap, ok, ay, h => by
    have aJ : ops[k]? = some o := by simpa using (ap 0).symm
    have e : (List.range (o :: l).length).map (k + ·) = k :: (List.range l.length).map (k + 1 + ·) := by
      rw [lB, List.range_succ_eq_map, k5, List.map_map];congr 1;apply oD;intro j _;simp [Nat.add_assoc, Nat.add_comm 1 j]
    rw [e, wpOpsIn_cons];refine Ls aJ ok ay h fun s' bg a' w' dz cE ae => Lr jF l (k + 1) s' bg a' w' (fun j => by have := ap (j + 1); simpa [Nat.add_assoc, Nat.add_comm 1 j] using this) dz cE ae
theorem bO {id : Nat} {l : List Oper} {Q : Exit → aE → Prop} (h : bj P l.toArray (Q .normal) l s) : fN P (.region id l.toArray false) Q s := by
  intro ok B A ad a w ay;refine SI fun ro => ?_;have := Lr (ro := ro) (ops := l.toArray) (K := Q .normal) (Q := fun e a' w' => ∃ s' bg, s'.cU ∧ Rel B A s' bg a' w' ∧ Q e s') (fun s' bg a' w' dz cE ae => ⟨s', bg, dz, cE, ae⟩) l 0 s ad a w (by simp) ok ay h;simpa using this
end
section
variable {P : Program} {B : e8} {A : Nat → Prop} {s s1 s2 s' : aE} {ad : Nat → Nat} {a : Act} {w : World} {Q : Exit → aE → Prop} {x y : Code}
def so (next : aE → Prop) (Q : Exit → aE → Prop) : Exit → aE → Prop
  | .normal, s => next s
  | e, s => Q e s
theorem bQ (h : fN P x (so (fun s' => fN P y Q s') Q) s) : fN P (.seq x y) Q s := by
  intro ok B A ad a w ay;refine SL (tC (h ok B A ad a w ay) ?_);rintro e a' w' ⟨s', bg, dz, cE, an⟩;cases e <;> first | exact an dz B A bg a' w' cE | exact ⟨s', bg, dz, cE, an⟩
theorem e3 (h : Q .normal s) : fN P .skip Q s := fun ok B A ad a w ay => SM ⟨s, ad, ok, ay, h⟩
theorem vC {id : Nat} (h : Q (.exit id) s) : fN P (.exit id) Q s := fun ok B A ad a w ay => SG ⟨s, ad, ok, ay, h⟩
theorem cf (h : Q .ret s) : fN P .ret Q s := fun ok B A ad a w ay => SK ⟨s, ad, ok, ay, h⟩
theorem LO {c : Operand} {t : Bool} (ak : s.look c = some (.w (.one (.c (.bool t))))) (h1 : t = true → fN P x Q s) (aJ : t = false → fN P y Q s) : fN P (.cond c x y) Q s := by
  intro ok B A ad a w ay;have hv : a.eval c = .bool t := (ay.look ak).1;refine SF hv ?_;cases t with
  | true => exact h1 rfl ok B A ad a w ay
  | false => exact aJ rfl ok B A ad a w ay
theorem iK {c : Operand} (ak : s.look c = some (.w (.one (.c (.bool true))))) (h1 : fN P x Q s) : fN P (.cond c x y) Q s := LO ak (fun _ => h1) (fun e => by cases e)
theorem ib {c : Operand} (ak : s.look c = some (.w (.one (.c (.bool false))))) (aJ : fN P y Q s) : fN P (.cond c x y) Q s := LO ak (fun e => by cases e) (fun _ => aJ)
def xj (id : Nat) (Q : Exit → aE → Prop) : Exit → aE → Prop
  | .exit qu, s => bif Nat.beq qu id then Q .normal s else Q (.exit qu) s
  | e, s => Q e s
theorem gW {id : Nat} (h : fN P x (xj id Q) s) : fN P (.block id x) Q s := by
  intro ok B A ad a w ay;refine SE (tC (h ok B A ad a w ay) ?_);rintro e a' w' ⟨s', bg, dz, cE, an⟩;cases e with
  | exit qu =>
    simp only [Exit.inBlock];simp only [xj] at an;cases ab : Nat.beq qu id with
    | true => rw [ab] at an; rw [if_pos (hP ab)]; exact ⟨s', bg, dz, cE, an⟩
    | false =>
      rw [ab] at an;have : qu ≠ id := fun e => by subst e; rw [Nat.beq_refl] at ab; cases ab
      rw [if_neg this]; exact ⟨s', bg, dz, cE, an⟩
  | _ => exact ⟨s', bg, dz, cE, an⟩
structure aE.bo (s s' : aE) : Prop where
  n : s'.n = s.n
  hA : ∀ t av, s'.tmps t = some av → s.tmps t = some av
  dG : ∀ k cs, s'.mem k = some cs → s.mem k = some cs
theorem Rel.le (h : Rel B A s ad a w) (l : s.bo s') : Rel B A s' ad a w := by
  have aw : ∀ b, s.free A ad b → b < w.heap.size → s'.free A ad b ∧ w.heap[b]? = w.heap[b]? := fun b ab _ => ⟨⟨ab.1, fun k cs ae => ab.2 k cs (l.dG k cs ae)⟩, rfl⟩;refine ⟨h.qx, by rw [l.n]; exact h.size, fun t av aF => ?_, fun k cs ae => ?_, fun k k' c c' ae en e => h.inj k k' c c' (l.dG _ _ ae) (l.dG _ _ en) e, h.below, h.up, fun k b ae => by rw [l.n]; exact h.ku k b ae⟩
  · obtain ⟨v, h1, h2⟩ := h.hA t av (l.hA t av aF)
    exact ⟨v, h1, h2.map aw fun _ _ => rfl⟩
  · obtain ⟨vs, ty, h1, h2, ao⟩ := h.dG k cs (l.dG k cs ae)
    exact ⟨vs, ty, h1, h2.map aw fun _ _ _ _ => rfl, ao⟩
theorem SH {c : Code} {Q : Exit → Act → World → Prop} (I : Nat → Act → World → Prop) {n : Nat} (h₀ : I n a w)
    (round : ∀ n a w, I n a w → kK P c (Exit.then (fun a' w' => ∃ m, m < n ∧ I m a' w') Q) a w) : kK P (Code.loop c) Q a w := by
  intro ro b k cs jl ab mr
  have key : ∀ n a w, I n a w →
      ∃ e a' w', Q e a' w' ∧ ArrivesIn (Machine.fenced P (mK ro)) P (lone (b.atR a (.code c :: .inLoop c :: k)) cs w) b k cs e a' w' := by
    intro n
    induction n using Nat.strongRecOn with
    | _ n bW =>
      intro a w bp;obtain ⟨e, xt, yP, an, uq⟩ := round n a w bp ro b (.inLoop c :: k) cs jl ab mr;cases e with
      | normal =>
        obtain ⟨m, bh, Yx⟩ := an;obtain ⟨Xm, Vo, ahs, ZW, YO⟩ := bW m bh xt yP Yx;exact ⟨Xm, Vo, ahs, ZW, .of_steps (StepsIn.trans uq (.one (fenced_calm ab mr rfl) stepR_inLoop)) YO⟩
      | exit id => exact ⟨_, xt, yP, an, .pass (x := .inLoop c) rfl (fun _ _ => .inl (by simp)) uq⟩
      | goto l => exact ⟨_, xt, yP, an, .pass (x := .inLoop c) rfl (fun _ _ => .inl (by simp)) uq⟩
      | ret => exact ⟨_, xt, yP, an, .pass (x := .inLoop c) rfl (fun _ _ => .inl (by simp)) uq⟩
      | panic ch => exact ⟨_, xt, yP, an, .pass (x := .inLoop c) rfl (fun _ _ => .inl (by simp)) uq⟩
      | outgrown => exact ⟨_, xt, yP, an, .pass (x := .inLoop c) rfl (fun _ _ => .inl (by simp)) uq⟩
  obtain ⟨e, a', w', an, uq⟩ := key _ a w h₀;exact ⟨e, a', w', an, .of_steps (.one (fenced_calm ab mr rfl) stepR_loop) uq⟩
theorem LQ (I : Nat → aE → Prop) (n : Nat) (eH : aE) (rs : s.bo eH) (adp : eH.cU) (aJ : I n eH)
    (round : ∀ n s, I n s → fN P x (so (fun s' => ∃ m, m < n ∧ ∃ Bv, s'.bo Bv ∧ Bv.cU ∧ I m Bv) Q) s) : fN P (.loop x) Q s := by
  intro ok B A ad a w ay;refine SH (fun n a w => ∃ s ad, s.cU ∧ Rel B A s ad a w ∧ I n s) ⟨eH, ad, adp, ay.le rs, aJ⟩ ?_;rintro n a w ⟨s, ad, ok, ay, bp⟩;refine tC (round n s bp ok B A ad a w ay) ?_;rintro e a' w' ⟨s', bg, dz, cE, an⟩;cases e with
  | normal =>
    obtain ⟨m, hm, Bv, ap, wH, cp⟩ := an;exact ⟨m, hm, Bv, bg, wH, cE.le ap, cp⟩
  | _ => exact ⟨s', bg, dz, cE, an⟩
def ai.bo (x y : ai) : Prop := ∀ U ad W v, dn U ad W x v → dn U ad W y v
theorem ai.bo.refl (x : ai) : x.bo x := fun _ _ _ _ h => h
theorem ai.bo.of_eq {x y : ai} (h : x = y) : x.bo y := by subst h; exact .refl x
def iZ (P : Program) (s : aE) : ResultVar → Option bK
  | .tmp t => match s.tmps t with
    | some (.w x) => some x
    | _ => none
  | .cell a ty => match s.tmps a with
    | some (.w (.one (.own k off))) => (s.mem k).bind (pick P ty · off)
    | _ => none
def packed : List bK → ai
  | [x] => .w x
  | xs => .dd xs
def zj (P : Program) (fn : Func) (r : ai) : Exit → aE → Prop
  | .normal, s | .ret, s => ∃ xs, fn.results.toList.map (iZ P s) = xs.map some ∧ (packed xs).bo r
  | _, _ => False
theorem RW {α : Type} {f : α → Sem Value} : ∀ (l : List α) (vs : List Value), l.length = vs.length → (∀ (i : Nat) x v, l[i]? = some x → vs[i]? = some v → (f x).run P w = .ok v w) → (l.mapM f).run P w = .ok vs w
  | [], [], _, _ => rfl
  | [], _ :: _, h, _ => by cases h
  | _ :: _, [], h, _ => by cases h
  | x :: l, v :: vs, ap, h => by
    have aJ := h 0 x v rfl rfl;have bW := RW l vs (by simpa using ap) (fun i x v aa hv => h (i + 1) x v (by simpa using aa) (by simpa using hv));rw [List.mapM_cons];simp only [Sem.run_bind, aJ, Result.andThen_ok, bW];rfl
def Bm (a : Act) : ResultVar → Sem Value
  | .tmp t => pure (a.tmps.getD t undef)
  | .cell b t => do loadVar t (← asAddr (a.tmps.getD b undef))
theorem afl (fn : Func) (a : Act) : results fn a.tmps = (do let vs ← fn.results.mapM (Bm a); pure (if h : vs.size = 1 then vs[0] else .tuple vs)) := rfl
theorem afk {v : ResultVar} {z : bK} (ay : Rel B A s ad a w) (h : iZ P s v = some z) : ∃ u, (Bm a v).run P w = .ok u w ∧ hh (s.free A ad) ad w z u := by
  cases v with
  | tmp t =>
    simp only [iZ] at h
    split at h
    · rename_i x aa
      cases h;obtain ⟨v, h1, h2⟩ := ay.hA t _ aa;refine ⟨v, ?_, h2⟩;simp [Bm, yw, h1]
    · cases h
  | cell b ty =>
    simp only [iZ] at h
    split at h
    · rename_i k off aa
      cases hm : s.mem k with
      | none => rw [hm] at h; cases h
      | some cs =>
        rw [hm] at h;obtain ⟨vs, t, g1, g2, g3⟩ := ay.dG k cs hm;obtain ⟨u, h1, h2⟩ := Q9 h g1 g2;obtain ⟨p, q1, q2⟩ := ay.hA b _ aa;cases q2;refine ⟨u, ?_, h2⟩;simp only [Bm, yw, q1, Option.getD_some, asAddr, Sem.run_bind, Sem.run_pure, Result.andThen_ok, h1]
    · cases h
theorem RE {fn : Func} {xs : List bK} (ay : Rel B A s ad a w) (h : fn.results.toList.map (iZ P s) = xs.map some) : ∃ v, (results fn a.tmps).run P w = .ok v w ∧ dn (s.free A ad) ad w (packed xs) v := by
  have key : ∀ (l : List ResultVar) (xs : List bK), l.map (iZ P s) = xs.map some → ∃ vs : List Value, vs.length = xs.length ∧ l.length = vs.length ∧ (∀ (i : Nat) r u, l[i]? = some r → vs[i]? = some u → (Bm a r).run P w = .ok u w) ∧ ∀ (i : Nat) x u, xs[i]? = some x → vs[i]? = some u → hh (s.free A ad) ad w x u := by
    intro l
    induction l with
    | nil => intro xs h; cases xs with
      | nil => exact ⟨[], rfl, rfl, fun i r u h => by simp at h, fun i x u h => by simp at h⟩
      | cons => cases h
    | cons r l bW =>
      intro xs h;cases xs with
      | nil => cases h
      | cons x xs =>
        simp only [k5, List.cons.injEq] at h;obtain ⟨vs, aG, aM, cD, eR⟩ := bW xs h.2;obtain ⟨u, q1, q2⟩ := afk ay h.1;refine ⟨u :: vs, by simp [aG], by simp [aM], fun i ba k8 h1 h2 => ?_, fun i x' k8 h1 h2 => ?_⟩
        · cases i with
          | zero => simp at h1 h2; subst h1; subst h2; exact q1
          | succ i => exact cD i ba k8 (by simpa using h1) (by simpa using h2)
        · cases i with
          | zero => simp at h1 h2; subst h1; subst h2; exact q2
          | succ i => exact eR i x' k8 (by simpa using h1) (by simpa using h2)
  obtain ⟨vs, aG, aM, cD, eR⟩ := key _ _ h;have hm := RW (P := P) (w := w) _ vs aM cD
  have hc : (results fn a.tmps).run P w = .ok (if h : vs.toArray.size = 1 then vs.toArray[0] else .tuple vs.toArray) w := by
    rw [afl, Array.mapM_eq_mapM_toList];simp only [map_eq_pure_bind, bind_assoc, Sem.run_bind];rw [hm];simp only [Result.andThen_ok, Sem.run_bind, Sem.run_pure]
  refine ⟨_, hc, ?_⟩
  match vs, xs, aG, eR with
  | [], [], _, _ => exact ⟨[], rfl, rfl, fun i x v h => by simp at h⟩
  | [v], [x], _, eR => exact eR 0 x v rfl rfl
  | v1 :: v2 :: vs, c0 :: dm :: xs, aG, eR =>
    rw [dif_neg (by simp)];exact ⟨v1 :: v2 :: vs, rfl, aG.symm, eR⟩
def start (n : Nat) (args : List ai) : aE := ⟨n, fun t => args[t]?, fun _ => none⟩
def tF (P : Program) (c : Code) (Q : Exit → aE → Prop) (s : aE) : Prop :=
  s.cU → ∀ W A ad a w, Rel (e8.all W) A s ad a w → c.wp P (fun e a' w' => ∃ s' bg, s'.cU ∧ Rel (e8.all W) A s' bg a' w' ∧ Q e s') a w
theorem Q8 {f : FuncId} {fn : Func} {c : Code} {args : List ai} {r : ai} (aw : P.funcs[f]? = some fn) (ab : fn.body = some c) (aD : args.length ≤ fn.ntmps) (jX : ∀ x ∈ args, x.closed) (ct : r.closed)
    (h : tF P c (zj P fn r) (start fn.ntmps args)) : aY P f args r := by
  refine ⟨jX, ct, fun U W vs dX => ?_⟩;have ap := dX.1
 
  refine calls_of_wp aw ab ?_;have ok : (start fn.ntmps args).cU := ⟨fun t av j aF af => absurd af (jX av (dL aF) j), fun k cs x j ae => by cases ae⟩
  have ay : Rel (e8.all W) (fun b => U b ∨ W.heap.size ≤ b) (start fn.ntmps args) id { tmps := vs.toArray ++ Array.replicate (fn.ntmps - vs.toArray.size) undef, defers := [] } W := by
    refine ⟨rfl, by simp [start]; omega, fun t av aF => ?_, (fun k cs ae => by cases ae), (fun k k' cs au ae => by cases ae), km.refl (e8.all W), fun b ab => .inr ab, fun k b ae => (by cases ae)⟩;have bh : t < vs.length := by rw [← ap]; exact (bP.1 aF).1
    refine ⟨vs[t], by simp [Array.getElem?_append, bh], ?_⟩;exact (dX.2 t av _ aF (cj bh)).map (fun b ab _ => ⟨⟨.inl ab, fun k cs ae => by cases ae⟩, rfl⟩) fun _ _ => rfl
  refine wp_mono (h ok W _ id _ W ay) ?_;rintro e a' w' ⟨s', bg, dz, cE, an⟩
  have fin : (∃ xs, fn.results.toList.map (iZ P s') = xs.map some ∧ (packed xs).bo r) → a'.defers = [] ∧ ∃ v, (results fn a'.tmps).run P w' = .ok v w' ∧ ∃ u, Ending.returned v = .returned u ∧ dn (fun b => U b ∨ W.heap.size ≤ b) id w' r u ∧ Below W.heap.size W w' := by
    rintro ⟨xs, h1, h2⟩;obtain ⟨v, q1, q2⟩ := RE cE h1;exact ⟨cE.qx, v, q1, v, rfl, (h2 _ _ _ _ q2).map (fun b ab _ => ⟨ab.1, rfl⟩) fun j af => absurd af (ct j), cE.below.all⟩
  cases e with
  | normal => exact fin an
  | ret => exact fin an
  | _ => exact an.elim
theorem aeL {f : FuncId} {fn : Func} {c : Code} {args : List ai} {r : ai} (aw : P.funcs[f]? = some fn) (ab : fn.body = some c) (aD : args.length ≤ fn.ntmps) (jX : ∀ x ∈ args, x.closed) (ct : r.closed)
    (h : fN P c (zj P fn r) (start fn.ntmps args)) : aY P f args r :=
  Q8 aw ab aD jX ct fun ok W A ad a w ay => (h ok (e8.all W) A ad a w ay).top
end
end Go.Proofs.YtpochbhajmbfdaaGreat
