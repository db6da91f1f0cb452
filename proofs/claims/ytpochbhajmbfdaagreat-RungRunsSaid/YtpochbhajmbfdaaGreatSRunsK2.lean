/-
  My own texts, without what this claim does not need. My own text.
-/
import Derived.Below
import Derived.Still
import Derived.OrdersIn
import Derived.Laws.CopyRow
import Derived.Laws.Cells
import Derived.Test.YtpochbhajmbfdaaGreatSRunsK1
set_option maxRecDepth 100000
set_option maxHeartbeats 64000000
set_option linter.unusedVariables false
set_option linter.unusedSimpArgs false
set_option linter.unusedSectionVars false
namespace Go.Proofs.YtpochbhajmbfdaaGreat
open Go.RowKit
structure fm where
  holds : World → Value → Prop
  lG : World → Value → Nat → Prop
  frame : ∀ w w' v, holds w v → (∀ b, lG w v b → w'.heap[b]? = w.heap[b]?) → holds w' v ∧ ∀ b, lG w' v b → lG w v b
  iM : ∀ w v b, holds w v → lG w v b → b < w.heap.size
  cell : ∀ w v, holds w v → v.oneCell' = true
inductive AC where
  | c (v : Value)
  | own (k off : Nat)
  | p (R : fm)
inductive bK where
  | one (x : AC)
  | agg (xs : List AC)
inductive ai where
  | w (x : bK)
  | da (xs : List bK)
def bK.cells : bK → List AC
  | .one x => [x]
  | .agg xs => xs
def gI (U : Nat → Prop) (ad : Nat → Nat) (W : World) : AC → Value → Prop
  | .c v, x => x = v ∧ v.oneCell' = true
  | .own k off, x => x = .pointer (some ⟨ad k, off, none⟩)
  | .p R, x => R.holds W x ∧ ∀ b, R.lG W x b → U b
def bZ (U : Nat → Prop) (ad : Nat → Nat) (W : World) (xs : List AC) (vs : List Value) : Prop :=
  xs.length = vs.length ∧ ∀ (i : Nat) (x : AC) (v : Value), xs[i]? = some x → vs[i]? = some v → gI U ad W x v
def gS (U : Nat → Prop) (ad : Nat → Nat) (W : World) : bK → Value → Prop
  | .one x, v => gI U ad W x v
  | .agg xs, v => ∃ vs : List Value, v = .agg vs.toArray ∧ bZ U ad W xs vs
def di (U : Nat → Prop) (ad : Nat → Nat) (W : World) : ai → Value → Prop
  | .w x, v => gS U ad W x v
  | .da xs, v => ∃ vs : List Value, v = .tuple vs.toArray ∧ xs.length = vs.length ∧ ∀ (i : Nat) (x : bK) (v : Value), xs[i]? = some x → vs[i]? = some v → gS U ad W x v
def AC.owns : AC → Nat → Prop
  | .own k _, j => j = k
  | _, _ => False
def bK.owns (x : bK) (j : Nat) : Prop := ∃ y ∈ x.cells, y.owns j
def ai.owns : ai → Nat → Prop
  | .w x, j => x.owns j
  | .da xs, j => ∃ x ∈ xs, x.owns j
section
variable {U cM : Nat → Prop} {ad bf : Nat → Nat} {W bq : World}
theorem gI.cell {x : AC} {v : Value} (h : gI U ad W x v) : v.oneCell' = true := by
  cases x with
  | c u => obtain ⟨rfl, h⟩ := h; exact h
  | own k off => cases h; rfl
  | p R => exact R.cell _ _ h.1
theorem gI.map {x : AC} {v : Value} (h : gI U ad W x v) (dI : ∀ b, U b → b < W.heap.size → cM b ∧ bq.heap[b]? = W.heap[b]?) (jC : ∀ j, x.owns j → bf j = ad j) : gI cM bf bq x v := by
  cases x with
  | c u => exact h
  | own k off => simp only [gI] at h ⊢; rw [h, jC k rfl]
  | p R =>
    obtain ⟨h1, h2⟩ := h;have aq := R.frame W bq v h1 (fun b ab => (dI b (h2 b ab) (R.iM _ _ _ h1 ab)).2);exact ⟨aq.1, fun b ab => (dI b (h2 b (aq.2 b ab)) (R.iM _ _ _ h1 (aq.2 b ab))).1⟩
theorem bZ.map {xs : List AC} {vs : List Value} (h : bZ U ad W xs vs) (dI : ∀ b, U b → b < W.heap.size → cM b ∧ bq.heap[b]? = W.heap[b]?) (jC : ∀ j x, x ∈ xs → x.owns j → bf j = ad j) : bZ cM bf bq xs vs :=
  ⟨h.1, fun i x v aa hv => (h.2 i x v aa hv).map dI fun j ae => jC j x (dJ aa) ae⟩
theorem gS.map {x : bK} {v : Value} (h : gS U ad W x v) (dI : ∀ b, U b → b < W.heap.size → cM b ∧ bq.heap[b]? = W.heap[b]?) (jC : ∀ j, x.owns j → bf j = ad j) : gS cM bf bq x v := by
  cases x with
  | one x => exact gI.map h dI fun j ae => jC j ⟨x, by simp [bK.cells], ae⟩
  | agg xs =>
    obtain ⟨vs, e, h⟩ := h;exact ⟨vs, e, h.map dI fun j x aa ae => jC j ⟨x, aa, ae⟩⟩
theorem di.map {x : ai} {v : Value} (h : di U ad W x v) (dI : ∀ b, U b → b < W.heap.size → cM b ∧ bq.heap[b]? = W.heap[b]?) (jC : ∀ j, x.owns j → bf j = ad j) : di cM bf bq x v := by
  cases x with
  | w x => exact gS.map h dI jC
  | da xs =>
    obtain ⟨vs, e, ao, h⟩ := h;exact ⟨vs, e, ao, fun i x v aa hv => (h i x v aa hv).map dI fun j ae => jC j ⟨x, dJ aa, ae⟩⟩
theorem gS.cells {x : bK} {v : Value} (h : gS U ad W x v) : bZ U ad W x.cells v.cells.toList := by
  cases x with
  | one x =>
    have ak : v.cells = #[v] := by
      have := gI.cell h;cases v <;> simp_all [Value.cells, Value.oneCell']
    rw [ak];refine ⟨rfl, fun i y u ag hu => ?_⟩;simp only [bK.cells] at ag;cases i with
    | zero => simp at ag hu; subst ag; subst hu; exact h
    | succ i => simp at ag
  | agg xs =>
    obtain ⟨vs, rfl, h⟩ := h;exact h
end
def bS {α : Type} (f : Nat → Option α) (k : Nat) (v : α) : Nat → Option α := fun j => bif Nat.beq j k then some v else f j
theorem cy {α : Type} (f : Nat → Option α) (k : Nat) (v : α) : bS f k v k = some v := by simp [bS]
theorem ca {α : Type} (f : Nat → Option α) {k j : Nat} (v : α) (h : j ≠ k) : bS f k v j = f j := by
  have : Nat.beq j k = false := by
    cases ab : Nat.beq j k with
    | false => rfl
    | true => exact absurd (hE ab) h
  simp [bS, this]
theorem Rx {α : Type} (f : Nat → Option α) {k j : Nat} (v u : α) (h : j ≠ k) : bS (bS f k v) j u = bS (bS f j u) k v := by
  funext i
  by_cases h1 : i = j
  · subst h1; rw [cy, ca _ _ h, cy]
  · by_cases h2 : i = k
    · subst h2; rw [ca _ _ h1, cy, cy]
    · rw [ca _ _ h1, ca _ _ h2, ca _ _ h2, ca _ _ h1]
structure aC where
  n : Nat
  tmps : Nat → Option ai
  mem : Nat → Option (List AC)
def aC.put (s : aC) (dst : Option Nat) (v : ai) : aC :=
  match dst with
  | some d => { s with tmps := bS s.tmps d v }
  | none => s
def aC.eh (s : aC) (k : Nat) (cs : List AC) : aC := { s with mem := bS s.mem k cs }
def Po : Value → bK
  | .agg cs => .agg (cs.toList.map .c)
  | v => .one (.c v)
def xK : Value → ai
  | .tuple vs => .da (vs.toList.map Po)
  | v => .w (Po v)
def aC.look (s : aC) : Operand → Option ai
  | .tmp t => s.tmps t
  | .const v => if v.oneCell' then some (.w (.one (.c v))) else none
  | .global g => some (.w (.one (.c (.pointer (some ⟨g, 0, none⟩)))))
  | .func f => some (.w (.one (.c (.func (.func f) #[] #[]))))
def aC.free (s : aC) (A : Nat → Prop) (ad : Nat → Nat) (b : Nat) : Prop := A b ∧ ∀ k cs, s.mem k = some cs → ad k ≠ b
structure aC.cV (s : aC) : Prop where
  hh : ∀ t av j, s.tmps t = some av → av.owns j → ∃ cs, s.mem j = some cs
  dG : ∀ k cs x j, s.mem k = some cs → x ∈ cs → x.owns j → ∃ ar, s.mem j = some ar
structure ff where
  W : World
  F : Nat → Prop
  lt : ∀ b, F b → b < W.heap.size
  N : Nat → Option Nat
  marks : List Deferred := []
def ff.all (W : World) : ff := ⟨W, fun b => b < W.heap.size, fun _ h => h, fun _ => none, []⟩
def uS (B : ff) (s : aC) (ad : Nat → Nat) : Prop := ∀ k b, B.N k = some b → s.n ≤ k ∧ ad k = b
structure kh (B : ff) (w : World) : Prop where
  os : w.os = B.W.os
  tape : w.tape = B.W.tape
  output : w.output = B.W.output
  size : B.W.heap.size ≤ w.heap.size
  block : ∀ b, B.F b → w.heap[b]? = B.W.heap[b]?
theorem kh.then {B : ff} {w w' : World} (h : kh B w) (ab : Below w.heap.size w w') : kh B w' :=
  ⟨ab.os.trans h.os, ab.tape.trans h.tape, ab.output.trans h.output, lT h.size ab.size, fun b au => (ab.block b (uI (B.lt b au) h.size)).trans (h.block b au)⟩
theorem kh.refl (B : ff) : kh B B.W := ⟨rfl, rfl, rfl, dU _, fun _ _ => rfl⟩
theorem kh.all {W w : World} (h : kh (ff.all W) w) : Below W.heap.size W w := ⟨h.os, h.tape, h.output, h.size, fun k af => h.block k af⟩
structure Rel (B : ff) (A : Nat → Prop) (s : aC) (ad : Nat → Nat) (a : Act) (w : World) : Prop where
  qb : a.defers = B.marks
  size : a.tmps.size = s.n
  hh : ∀ t av, s.tmps t = some av → ∃ v, a.tmps[t]? = some v ∧ di (s.free A ad) ad w av v
  dG : ∀ k cs, s.mem k = some cs → ∃ (vs : List Value) (ty : TypeId), w.heap[ad k]? = some (.cells vs.toArray ty (0, 0)) ∧ bZ (s.free A ad) ad w cs vs ∧ ¬ B.F (ad k)
  inj : ∀ k k' cs ar, s.mem k = some cs → s.mem k' = some ar → ad k = ad k' → k = k'
  below : kh B w
  up : ∀ b, B.W.heap.size ≤ b → A b
  kp : uS B s ad
section
variable {B : ff} {A : Nat → Prop} {s : aC} {ad : Nat → Nat} {a : Act} {w w' : World}
theorem aC.WJ (s : aC) (dst : Option Nat) (v : ai) (A : Nat → Prop) (ad : Nat → Nat) : (s.put dst v).free A ad = s.free A ad := by cases dst <;> rfl
theorem aC.xE (s : aC) (dst : Option Nat) (v : ai) : (s.put dst v).mem = s.mem := by cases dst <;> rfl
theorem aC.sK (s : aC) (dst : Option Nat) (v : ai) : (s.put dst v).n = s.n := by cases dst <;> rfl
theorem Rel.put {dst : Option Nat} {av : ai} {v : Value} (h : Rel B A s ad a w) (hd : ∀ d, dst = some d → d < s.n) (hv : di (s.free A ad) ad w av v) : Rel B A (s.put dst av) ad (a.put dst v) w := by
  cases dst with
  | none => exact h
  | some d =>
    have bj := hd d rfl;refine ⟨h.qb, by simp [aC.put, Act.put, h.size], fun t bv aD => ?_, h.dG, h.inj, h.below, h.up, h.kp⟩;simp only [aC.put] at aD
    by_cases e : t = d
    · subst e
      rw [cy] at aD;cases aD;exact ⟨v, by simp [Act.put, h.size, bj], hv⟩
    · rw [ca _ _ e] at aD
      obtain ⟨u, h1, h2⟩ := h.hh t bv aD;exact ⟨u, by simp only [Act.put]; rw [Array.getElem?_setIfInBounds_ne (Ne.symm e)]; exact h1, h2⟩
theorem Rel.lt {k : Nat} {cs : List AC} (h : Rel B A s ad a w) (af : s.mem k = some cs) : ad k < w.heap.size := by
  obtain ⟨vs, ty, h1, _⟩ := h.dG k cs af;exact (ln.1 h1).1
theorem Rel.call (h : Rel B A s ad a w) (ab : Below w.heap.size w w') : Rel B A s ad a w' := by
  have dI : ∀ b, s.free A ad b → b < w.heap.size → s.free A ad b ∧ w'.heap[b]? = w.heap[b]? := fun b du ao => ⟨du, ab.block b ao⟩;refine ⟨h.qb, h.size, fun t av aD => ?_, fun k cs af => ?_, h.inj, h.below.then ab, h.up, h.kp⟩
  · obtain ⟨v, h1, h2⟩ := h.hh t av aD
    exact ⟨v, h1, h2.map dI fun _ _ => rfl⟩
  · obtain ⟨vs, ty, h1, h2, aq⟩ := h.dG k cs af
    exact ⟨vs, ty, by rw [ab.block _ (h.lt af)]; exact h1, h2.map dI fun _ _ _ _ => rfl, aq⟩
theorem Rel.new {d : Nat} {cs : List AC} {vs : List Value} {ty : TypeId} (h : Rel B A s ad a w) (ok : s.cV) (gh : d < s.n) (hm : s.mem d = none) (hv : bZ (s.free A ad) ad w cs vs) (eg : ∀ x ∈ cs, ∀ j, x.owns j → ∃ ar, s.mem j = some ar) :
    Rel B A (s.eh d cs) (fun k => if k = d then w.heap.size else ad k) a (w.alloc (.cells vs.toArray ty)) := by
  have ck : ∀ k ar, s.mem k = some ar → k ≠ d := fun k ar af e => by subst e; rw [hm] at af; cases af
  have dI : ∀ b, s.free A ad b → b < w.heap.size → (s.eh d cs).free A (fun k => if k = d then w.heap.size else ad k) b ∧ (w.alloc (.cells vs.toArray ty)).heap[b]? = w.heap[b]? := by
    intro b ab ao;refine ⟨⟨ab.1, fun k ar af => ?_⟩, Below.heap_alloc _ _ _ ao⟩;simp only [aC.eh] at af
    by_cases e : k = d
    · subst e; simp; omega
    · rw [ca _ _ e] at af
      simp only [e, if_false];exact ab.2 k ar af
  have ew : ∀ j, (∃ ar, s.mem j = some ar) → (if j = d then w.heap.size else ad j) = ad j := fun j ⟨ar, ae⟩ => by rw [if_neg (ck j ar ae)]
  refine ⟨h.qb, h.size, fun t av aD => ?_, fun k ar af => ?_, fun k k' c1 c2 af e0 e => ?_, h.below.then ((Below.refl _ _).alloc (dU _) _), h.up, fun k b af => ?_⟩
  · obtain ⟨v, h1, h2⟩ := h.hh t av aD
    exact ⟨v, h1, h2.map dI fun j ae => ew j (ok.hh t av j aD ae)⟩
  · simp only [aC.eh] at af
    by_cases e : k = d
    · subst e
      rw [cy] at af;cases af;refine ⟨vs, ty, ?_, hv.map dI fun j x aa ae => ew j (eg x aa j ae), ?_⟩
      · show (w.heap.push _)[if k = k then w.heap.size else ad k]? = _; simp
      · simp only [if_true]; exact fun au => by have := B.lt _ au; have := h.below.size; omega
    · rw [ca _ _ e] at af
      obtain ⟨us, t, h1, h2, aq⟩ := h.dG k ar af;refine ⟨us, t, ?_, h2.map dI fun j x aa ae => ew j (ok.dG k ar x j af aa ae), ?_⟩
      · simp only [e, if_false]; rw [Below.heap_alloc _ _ _ (h.lt af)]; exact h1
      · simp only [e, if_false]; exact aq
  · simp only [aC.eh] at af e0
    by_cases aG : k = d <;> by_cases aO : k' = d
    · rw [aG, aO]
    · rw [ca _ _ aO] at e0
      have := h.lt e0;simp [aG, aO] at e;omega
    · rw [ca _ _ aG] at af
      have := h.lt af;simp [aG, aO] at e;omega
    · rw [ca _ _ aG] at af
      rw [ca _ _ aO] at e0;simp [aG, aO] at e;exact h.inj k k' _ _ af e0 e
  · obtain ⟨h1, h2⟩ := h.kp k b af
    refine ⟨h1, ?_⟩;rw [if_neg (fun e => by subst e; exact absurd gh (Nat.not_lt.2 h1))];exact h2
theorem Rel.set {k : Nat} {cs ds : List AC} {us : List Value} (h : Rel B A s ad a w) (af : s.mem k = some cs) (hv : bZ (s.free A ad) ad w ds us) : Rel B A (s.eh k ds) ad a (w.setRow (ad k) us.toArray) := by
  have jW : (s.eh k ds).free A ad = s.free A ad := by
    funext b;apply propext
    constructor
    · rintro ⟨dO, ab⟩
      refine ⟨dO, fun j ar ae => ?_⟩
      by_cases e : j = k
      · subst e; exact ab j ds (by simp [aC.eh, cy])
      · exact ab j ar (by simp only [aC.eh]; rw [ca _ _ e]; exact ae)
    · rintro ⟨dO, ab⟩
      refine ⟨dO, fun j ar ae => ?_⟩;simp only [aC.eh] at ae
      by_cases e : j = k
      · subst e; exact ab j cs af
      · rw [ca _ _ e] at ae; exact ab j ar ae
  obtain ⟨vs, ty, g1, g2, g3⟩ := h.dG k cs af;have nu : (w.setRow (ad k) us.toArray).heap[ad k]? = some (.cells us.toArray ty (0, 0)) := setRow_heap w (ad k) vs.toArray us.toArray ty (0, 0) g1
  have vA : ∀ b, b ≠ ad k → (w.setRow (ad k) us.toArray).heap[b]? = w.heap[b]? := fun b ab => by
    simp only [World.setRow, uG]; rw [if_neg (Ne.symm ab)]
  have dI : ∀ b, s.free A ad b → b < w.heap.size → s.free A ad b ∧ (w.setRow (ad k) us.toArray).heap[b]? = w.heap[b]? := fun b ab _ => ⟨ab, vA b (Ne.symm (ab.2 k cs af))⟩;refine ⟨h.qb, h.size, fun t av aD => ?_, fun j ar ae => ?_, fun j e4 c1 c2 ae ks e => ?_, ?_, h.up, h.kp⟩
  · obtain ⟨v, h1, h2⟩ := h.hh t av aD
    exact ⟨v, h1, by rw [jW]; exact h2.map dI fun _ _ => rfl⟩
  · simp only [aC.eh] at ae
    rw [jW]
    by_cases e : j = k
    · subst e
      rw [cy] at ae;cases ae;exact ⟨us, ty, nu, hv.map dI fun _ _ _ _ => rfl, g3⟩
    · rw [ca _ _ e] at ae
      obtain ⟨wq, afQ, h1, h2, aq⟩ := h.dG j ar ae;exact ⟨wq, afQ, by rw [vA _ (fun bz => e (h.inj j k _ _ ae af bz))]; exact h1, h2.map dI fun _ _ _ _ => rfl, aq⟩
  · have hold : ∀ i c, (s.eh k ds).mem i = some c → ∃ c', s.mem i = some c' := fun i c hi => by
      simp only [aC.eh] at hi
      by_cases e : i = k
      · exact ⟨cs, by rw [e]; exact af⟩
      · rw [ca _ _ e] at hi; exact ⟨c, hi⟩
    obtain ⟨d1, q1⟩ := hold j c1 ae;obtain ⟨d2, q2⟩ := hold e4 c2 ks;exact h.inj j e4 _ _ q1 q2 e
  · exact ⟨h.below.os, h.below.tape, h.below.output, by have := h.below.size; simpa [World.setRow] using this, fun b ab => (vA b (fun e => by subst e; exact g3 ab)).trans (h.below.block b ab)⟩
end
def ai.closed (x : ai) : Prop := ∀ j, ¬ x.owns j
def ko (U : Nat → Prop) (ad : Nat → Nat) (W : World) (xs : List ai) (vs : List Value) : Prop :=
  xs.length = vs.length ∧ ∀ (i : Nat) (x : ai) (v : Value), xs[i]? = some x → vs[i]? = some v → di U ad W x v
structure aT (P : Program) (f : FuncId) (args : List ai) (r : ai) : Prop where
  jR : ∀ x ∈ args, x.closed
  ct : r.closed
  call : ∀ (U : Nat → Prop) (W : World) (vs : List Value), ko U id W args vs →
    Calls P f vs.toArray W fun e bq => ∃ v, e = .returned v ∧ di (fun b => U b ∨ W.heap.size ≤ b) id bq r v ∧ Below W.heap.size W bq
structure wD (P : Program) (look : Operand → Option ai) (o : Oper) (av : ai) : Prop where
  aeS : ∀ cs b, o.op ≠ .select cs b
  ops : ∀ x ∈ o.op.operands, ∃ a, look x = some a
  run : ∀ (U : Nat → Prop) (ad : Nat → Nat) (W : World) (env : Operand → Value), (∀ x ∈ o.op.operands, ∀ a, look x = some a → di U ad W a (env x)) →
    ∃ v, (execOp env o).run P W = .ok (.value v) W ∧ di U ad W av v
  own : ∀ j, av.owns j → ∃ x ∈ o.op.operands, ∃ a, look x = some a ∧ a.owns j
def pick (P : Program) (ty : TypeId) (cs : List AC) (off : Nat) : Option bK :=
  match P.underlying ty with
  | some (.struct _) | some (.array _ _) => (P.info? ty).bind fun i => if off + i.size ≤ cs.length then some (.agg ((cs.drop off).take i.size)) else none
  | some _ => (cs[off]?).map .one
  | none => none
def er (cs : List AC) (off : Nat) (ds : List AC) : List AC := cs.take off ++ ds ++ cs.drop (off + ds.length)
inductive uX (P : Program) (look : Operand → Option ai) (o : Oper) : List AC → Prop
  | alloc (ty : TypeId) (i : TypeInfo) (z : Value) (cs : List AC) (az : o.op = .alloc ty) (hi : P.info? ty = some i) (aZ : i.zero = some z) (ak : cs = z.cells.toList.map .c) (h1 : (z.cells.toList.all fun v => v.oneCell') = true) : uX P look o cs
  | box (ty : TypeId) (x : Operand) (z : bK) (az : o.op = .box ty x) (aa : look x = some (.w z)) : uX P look o z.cells
def enters (P : Program) (f : FuncId) : Bool := match P.funcs[f]? with
  | some fn => fn.body.isSome && fn.name != "runtime.NumGoroutine"
  | none => false
def B8 : Value → Bool
  | .agg cs => cs.toList.all fun v => v.oneCell'
  | .tuple _ => false
  | _ => true
def Gb (w : World) : AC → Value → Nat → Prop
  | .p R, x, b => R.lG w x b
  | _, _, _ => False
def pt (fn : Fn) (cs : List AC) : fm where
  holds w v := ∃ vs : List Value, v = .func fn #[] vs.toArray ∧ bZ (fun _ => True) id w cs vs ∧ ∀ x ∈ cs, ∀ j, ¬ x.owns j
  lG w v b := ∃ vs : List Value, v = .func fn #[] vs.toArray ∧ ∃ (i : Nat) (x : AC) (u : Value), cs[i]? = some x ∧ vs[i]? = some u ∧ Gb w x u b
  frame w w' v := by
    rintro ⟨vs, rfl, ao, ak⟩ au
    have key : ∀ (i : Nat) (x : AC) (u : Value), cs[i]? = some x → vs[i]? = some u → gI (fun _ => True) id w' x u ∧ ∀ b, Gb w' x u b → Gb w x u b := by
      intro i x u aa hu;have h := ao.2 i x u aa hu;cases x with
      | c y => exact ⟨h, fun b ab => ab⟩
      | own k o => exact ⟨h, fun b ab => ab⟩
      | p R =>
        have := R.frame w w' u h.1 fun b ab => au b ⟨vs, rfl, i, _, u, aa, hu, ab⟩;exact ⟨⟨this.1, fun _ _ => trivial⟩, this.2⟩
    refine ⟨⟨vs, rfl, ⟨ao.1, fun i x u aa hu => (key i x u aa hu).1⟩, ak⟩, ?_⟩;rintro b ⟨wq, e, i, x, u, aa, hu, ab⟩;have bz : vs = wq := by simpa using e
    subst bz;exact ⟨vs, rfl, i, x, u, aa, hu, (key i x u aa hu).2 b ab⟩
  iM w v b := by
    rintro ⟨vs, rfl, ao, ak⟩ ⟨wq, e, i, x, u, aa, hu, ab⟩;have bz : vs = wq := by simpa using e
    subst bz;have h := ao.2 i x u aa hu;cases x with
    | p R => exact R.iM _ _ _ h.1 ab
    | c y => cases ab
    | own k o => cases ab
  cell w v := by rintro ⟨vs, rfl, _⟩; rfl
theorem pt.UW {U : Nat → Prop} {ad : Nat → Nat} {w : World} {v : Value} {fn : Fn} {cs : List AC} (h : gI U ad w (.p (pt fn cs)) v) : ∃ vs : List Value, v = .func fn #[] vs.toArray ∧ bZ U id w cs vs := by
  obtain ⟨⟨vs, rfl, ao, ak⟩, au⟩ := h;refine ⟨vs, rfl, ao.1, fun i x u aa hu => ?_⟩;have h := ao.2 i x u aa hu;cases x with
  | c y => exact h
  | own k o => exact h
  | p R => exact ⟨h.1, fun b ab => au b ⟨vs, rfl, i, _, u, aa, hu, ab⟩⟩
structure tf (P : Program) (look : Operand → Option ai) (o : Oper) (f : FuncId) (args : List ai) : Prop where
  ex : ∃ c g, o.op = .call c ∧ c.callee = .value g ∧
    ((∃ bs : List Value, look g = some (.w (.one (.c (.func (.func f) bs.toArray #[])))) ∧ bs.map (fun b => some (xK b)) ++ c.args.toList.map look = args.map some ∧ bs.all B8 = true) ∨
     ∃ cs : List AC, look g = some (.w (.one (.p (pt (.func f) cs)))) ∧ c.args.toList.map look ++ cs.map (fun x => some (.w (.one x))) = args.map some)
  enters : enters P f = true
structure wz (P : Program) (look : Operand → Option ai) (o : Oper) (av : ai) : Prop where
  ops : ∀ x ∈ o.op.operands, ∃ a, look x = some a
  pH : av.closed
  run : ∀ (U : Nat → Prop) (ad : Nat → Nat) (W : World) (env : Operand → Value), (∀ x ∈ o.op.operands, ∀ a, look x = some a → di U ad W a (env x)) →
    ∃ v bq, (execOp env o).run P W = .ok (.value v) bq ∧ di (fun b => U b ∨ W.heap.size ≤ b) ad bq av v ∧ Below W.heap.size W bq
inductive lx (P : Program) (s : aC) (o : Oper) : aC → Prop
  | fresh (av : ai) (al : wz P s.look o av) (hd : ∀ d, o.dst = some d → d < s.n) : lx P s o (s.put o.dst av)
  | quiet (av : ai) (al : wD P s.look o av) (hd : ∀ d, o.dst = some d → d < s.n) : lx P s o (s.put o.dst av)
  | load (ty : TypeId) (x : Operand) (k off : Nat) (cs : List AC) (av : bK) (az : o.op = .load ty x) (aa : s.look x = some (.w (.one (.own k off)))) (hm : s.mem k = some cs) (hv : pick P ty cs off = some av) (hd : ∀ d, o.dst = some d → d < s.n) : lx P s o (s.put o.dst (.w av))
  | store (ty : TypeId) (x y : Operand) (k off : Nat) (cs : List AC) (z : bK) (i : TypeInfo) (az : o.op = .store ty x y) (aa : s.look x = some (.w (.one (.own k off)))) (ag : s.look y = some (.w z)) (hm : s.mem k = some cs) (hi : P.info? ty = some i) (hs : i.size = z.cells.length) (ab : off + z.cells.length ≤ cs.length) (hd : ∀ d, o.dst = some d → d < s.n) : lx P s o ((s.put o.dst (.da [])).eh k (er cs off z.cells))
  | new (cs : List AC) (d : Nat) (dF : o.dst = some d) (hm : s.mem d = none) (aE : uX P s.look o cs) (hd : d < s.n) : lx P s o ((s.eh d cs).put (some d) (.w (.one (.own d 0))))
  | call (f : FuncId) (args : List ai) (r : ai) (ak : tf P s.look o f args) (hp : aT P f args r) (hd : ∀ d, o.dst = some d → d < s.n) : lx P s o (s.put o.dst r)
section
variable {P : Program} {B : ff} {A : Nat → Prop} {s s' : aC} {ad : Nat → Nat} {a : Act} {w : World} {o : Oper} {Q : Exit → Act → World → Prop}
theorem di.undef (U : Nat → Prop) : di U ad w (.da []) undef := ⟨[], rfl, rfl, fun i x v h => by simp at h⟩
theorem Rel.look {x : Operand} {av : ai} (h : Rel B A s ad a w) (aa : s.look x = some av) : di (s.free A ad) ad w av (a.eval x) := by
  cases x with
  | tmp t =>
    obtain ⟨v, h1, h2⟩ := h.hh t av aa;have : a.eval (.tmp t) = v := by simp [Act.eval, xR, h1]
    rw [this]; exact h2
  | const v =>
    simp only [aC.look] at aa
    split at aa
    · rename_i h1; cases aa; exact ⟨rfl, h1⟩
    · cases aa
  | global g => cases aa; exact ⟨rfl, rfl⟩
  | func f => cases aa; exact ⟨rfl, rfl⟩
theorem bZ.cellAt {U : Nat → Prop} {W : World} {xs : List AC} {vs : List Value} {g : Nat} {ty : TypeId} (h : bZ U ad W xs vs) (aw : W.heap[g]? = some (.cells vs.toArray ty (0, 0))) {i : Nat} {x : AC} (hi : xs[i]? = some x) :
    ∃ v, vs[i]? = some v ∧ W.cell? ⟨g, i, none⟩ = some v ∧ gI U ad W x v := by
  have bj : i < vs.length := by
    rw [← h.1];rcases jn i xs.length with q | q
    · exact q
    · rw [rk q] at hi; cases hi
  refine ⟨vs[i], cl bj, ?_, h.2 i x _ hi (cl bj)⟩;simp [World.cell?, aw, bj]
theorem bZ.sub {U : Nat → Prop} {W : World} {xs : List AC} {vs : List Value} (h : bZ U ad W xs vs) (off n : Nat) : bZ U ad W ((xs.drop off).take n) ((vs.drop off).take n) := by
  refine ⟨by simp [h.1], fun i x v aa hv => ?_⟩;rw [List.getElem?_take] at aa hv
  split at aa
  · rename_i bj
    rw [if_pos bj] at hv;rw [gF] at aa hv;exact h.2 _ x v aa hv
  · cases aa
theorem bZ.er {U : Nat → Prop} {W : World} {xs ds : List AC} {vs us : List Value} (h : bZ U ad W xs vs) (hd : bZ U ad W ds us) (off : Nat) (ab : off + ds.length ≤ xs.length) : bZ U ad W (er xs off ds) (vs.take off ++ us ++ vs.drop (off + us.length)) := by
  have aG := h.1;have aO := hd.1;refine ⟨by simp [Proofs.YtpochbhajmbfdaaGreat.er, aG, aO], fun i x v aa hv => ?_⟩;unfold Proofs.YtpochbhajmbfdaaGreat.er at aa;have dz : (xs.take off).length = off := by simp; omega
  have DQ : (vs.take off).length = off := by simp; omega
  by_cases h1 : i < off
  · rw [jo, gG (by omega), gm h1] at aa
    rw [jo, gG (by omega), gm h1] at hv;exact h.2 i x v aa hv
  · by_cases h2 : i < off + ds.length
    · rw [jo, gH (by omega), gG (by omega), dz] at aa
      rw [jo, gH (by omega), gG (by omega), DQ] at hv;exact hd.2 _ x v aa hv
    · rw [gH (by simp; omega), gF] at aa hv
      simp only [dl, dz, DQ] at aa hv;rw [← aO] at hv;have e : off + ds.length + (i - (off + ds.length)) = i := by omega
      rw [e] at aa hv;exact h.2 i x v aa hv
theorem Jh {ty : TypeId} {A : Addr} {v : Value} {d : TypeDesc} (hu : P.underlying ty = some d) (hs : ∀ bm, d ≠ .struct bm) (aL : ∀ n e, d ≠ .array n e) (ak : w.cell? A = some v) : (loadVar ty A).run P w = .ok v w := by
  have h1 : (isAgg ty).run P w = .ok false w := by
    unfold isAgg;simp only [Sem.run_bind, run_underlying hu, Result.andThen_ok];cases d <;> first | rfl | (exact absurd rfl (hs _)) | (exact absurd rfl (aL _ _))
  unfold loadVar;simp only [Sem.run_bind, h1, Result.andThen_ok, od, if_false];simp [load, Sem.run, ak]
theorem hV {ty : TypeId} {i : TypeInfo} (hi : P.info? ty = some i) : (sizeOf ty).run P w = .ok i.size w := by
  simp [sizeOf, typeInfo, program, Sem.run_bind, Sem.run, hi, Result.andThen]
theorem Jg {ty : TypeId} {A : Addr} {vs : List Value} {i : TypeInfo} {d : TypeDesc} (hu : P.underlying ty = some d) (hd : (∃ bm, d = .struct bm) ∨ ∃ n e, d = .array n e) (hi : P.info? ty = some i) (ao : vs.length = i.size) (ak : ∀ j v, vs[j]? = some v → w.cell? (A.add j) = some v) :
    (loadVar ty A).run P w = .ok (.agg vs.toArray) w := by
  have h1 : (isAgg ty).run P w = .ok true w := by
    unfold isAgg;simp only [Sem.run_bind, run_underlying hu, Result.andThen_ok];rcases hd with ⟨bm, rfl⟩ | ⟨n, e, rfl⟩ <;> rfl
  unfold loadVar;simp only [Sem.run_bind, h1, Result.andThen_ok, if_true, hV hi, ← ao, run_loadCells_list w A vs ak];rfl
end
section
variable {P : Program} {B : ff} {A : Nat → Prop} {s s' : aC} {ad : Nat → Nat} {a : Act} {w : World} {o : Oper} {Q : Exit → Act → World → Prop}
theorem P2 {U : Nat → Prop} {ty : TypeId} {cs : List AC} {off g : Nat} {av : bK} {vs : List Value} {t : TypeId} (hv : pick P ty cs off = some av) (aw : w.heap[g]? = some (.cells vs.toArray t (0, 0))) (ao : bZ U ad w cs vs) :
    ∃ v, (loadVar ty ⟨g, off, none⟩).run P w = .ok v w ∧ gS U ad w av v := by
  unfold pick at hv
  have key : ∀ d, P.underlying ty = some d → ((∃ bm, d = .struct bm) ∨ ∃ n e, d = .array n e) → ((P.info? ty).bind fun i => if off + i.size ≤ cs.length then some (bK.agg ((cs.drop off).take i.size)) else none) = some av → ∃ v, (loadVar ty ⟨g, off, none⟩).run P w = .ok v w ∧ gS U ad w av v := by
    intro d hu hd h;cases hi : P.info? ty with
    | none => rw [hi] at h; cases h
    | some i =>
      rw [hi] at h;simp only [kz] at h
      split at h
      · rename_i hle
        cases h;have hs := ao.sub off i.size;have hlen : ((vs.drop off).take i.size).length = i.size := by have := ao.1; simp; omega
        refine ⟨_, Jg hu hd hi hlen (fun j v ae => ?_), _, rfl, hs⟩;have ks : j < i.size := by rw [← hlen]; exact (bV.1 ae).1
        rw [gm ks, gF] at ae;have kP : (⟨g, off, none⟩ : Addr).add j = ⟨g, off + j, none⟩ := by unfold Addr.add; split <;> simp_all
        rw [kP];simp only [World.cell?, aw];simpa using ae
      · cases h
  have Ib : ∀ d, P.underlying ty = some d → (∀ bm, d ≠ .struct bm) → (∀ n e, d ≠ .array n e) → (cs[off]?).map bK.one = some av → ∃ v, (loadVar ty ⟨g, off, none⟩).run P w = .ok v w ∧ gS U ad w av v := by
    intro d hu h1 h2 h;cases aa : cs[off]? with
    | none => rw [aa] at h; cases h
    | some x =>
      rw [aa] at h;cases h;obtain ⟨v, q1, q2, cj⟩ := ao.cellAt aw aa;exact ⟨v, Jh hu h1 h2 q2, cj⟩
  cases hu : P.underlying ty with
  | none => rw [hu] at hv; cases hv
  | some d =>
    rw [hu] at hv;cases d <;> first | exact key _ hu (.inl ⟨_, rfl⟩) hv | exact key _ hu (.inr ⟨_, _, rfl⟩) hv | exact Ib _ hu (fun _ h => by cases h) (fun _ _ h => by cases h) hv
theorem Cy {f : FuncId} {args : Array Value} (h : enters P f = true) : (callFunc f args).run P w = .ok (.enter f args) w := by
  unfold enters at h;cases au : P.funcs[f]? with
  | none => rw [au] at h; cases h
  | some fn =>
    rw [au] at h;simp only [eo, bne_iff_ne, ne_eq] at h;obtain ⟨h1, h2⟩ := h;simp [callFunc, program, Sem.run_bind, Sem.run, au, Result.andThen, h2];intro aq;rw [aq] at h1;cases h1
def mD (ro : Option Nat) : Fence := { Fence.wide with round := ro }
theorem UT {ro : Option Nat} {n : Nat} {P : Program} {f : FuncId} {args : Array Value} {w : World} {R : Ending → World → Prop} (h : Calls P f args w R) : CallsIn (mD ro) n P f args w R := callsIn_wide.2 h
theorem aet {ro : Option Nat} {n : Nat} {P : Program} {row : String} {args : Array Value} {w : World} {R : Value → World → Prop} (h : Rows P row args w R) : RowsIn (mD ro) n P row args w R := fun c cs _ => by
  obtain ⟨v, w', ap, hs⟩ := h c cs;exact ⟨v, w', ap, stepsIn_wide.2 hs⟩
theorem xI {P : Program} {ad : Operand → Value} {o : Oper} {w w' : World} {x : Next} (h : (execOp ad o).run P w = .ok x w') (aa : ∀ d, x ≠ .defer d) : ∀ c, o.op ≠ .defer c := fun c ak => by
  simp only [execOp, ak, Sem.run_bind] at h;cases ap : (resolve ad c o.type).run P w with
  | ok d w2 => rw [ap] at h; simp only [Result.andThen_ok, Sem.run_pure, Result.ok.injEq] at h; exact aa d h.1.symm
  | halt r w2 => rw [ap] at h; simp [Result.andThen] at h
theorem Oper.RP {ro : Option Nat} {n : Nat} {P : Program} {o : Oper} {a : Act} {w : World} {K : Act → World → Prop} {Q : Exit → Act → World → Prop} (h : o.wp P a w K Q) (hd : ∀ c, o.op ≠ .defer c) : o.wpIn (mD ro) n P a w K Q := by
  refine ⟨fun _ _ => trivial, ?_⟩;rw [Oper.semAt_eq _ _ _ hd];unfold Oper.wp at h;generalize (execOp a.eval o).run P w = r at *;have aE : (mD ro).depth.isSome = true → 1 ≤ n := fun h => by simp [mD, Fence.wide] at h
  cases r with
  | ok x w' => cases x <;> first | exact h | exact ⟨aE, UT h⟩ | exact ⟨aE, aet h⟩ | exact h.elim
  | halt x w' => cases x <;> exact h
def kH (P : Program) (c : Code) (Q : Exit → Act → World → Prop) (a : Act) (w : World) : Prop := ∀ ro, c.wpIn (mD ro) 0 P Q a w
section
variable {P : Program} {Q J4 : Exit → Act → World → Prop} {a : Act} {w : World} {c x y : Code}
theorem kH.top (h : kH P c Q a w) : c.wp P Q a w := wpIn_wide.1 (h none)
theorem tc (h : kH P c Q a w) (al : ∀ e a w, Q e a w → J4 e a w) : kH P c J4 a w := fun ro => wpIn_mono (h ro) al
theorem RL (h : kH P x (Exit.then (kH P y Q) Q) a w) : kH P (.seq x y) Q a w := fun ro => wpIn_seq (wpIn_mono (h ro) fun e a w al => by cases e <;> first | exact al ro | exact al)
theorem RM (h : Q .normal a w) : kH P .skip Q a w := fun ro => wpIn_skip h
theorem RG {id : Nat} (h : Q (.exit id) a w) : kH P (.exit id) Q a w := fun ro => wpIn_exit h
theorem RK (h : Q .ret a w) : kH P .ret Q a w := fun ro => wpIn_ret h
theorem RF {c : Operand} {t : Bool} (ak : a.eval c = .bool t) (h : kH P (if t then x else y) Q a w) : kH P (.cond c x y) Q a w := fun ro => wpIn_cond ak (h ro)
theorem RE {id : Nat} (h : kH P c (Exit.inBlock id Q) a w) : kH P (.block id c) Q a w := fun ro => wpIn_block (h ro)
theorem RI {id : Nat} {ops : Array Oper} (h : ∀ ro, wpOpsIn (mD ro) 0 P ops Q (List.range ops.size) a w) : kH P (.region id ops false) Q a w := fun ro => wpIn_region (h ro)
theorem RJ {id : Nat} {ops : Array Oper} (hm : P.follows .mixedOrders = true) (h : ∀ ro, wpAnyIn (mD ro) 0 P .any ops Q ops.size (Array.replicate ops.size false) a { w with drawn := w.drawn + 1 }) : kH P (.region id ops true) Q a w := fun ro => wpIn_region_any hm (h ro)
end
theorem Oper.wu {v : Value} {w' : World} {next : Act → World → Prop} (h : (execOp a.eval o).run P w = .ok (.value v) w') (aE : next (a.put o.dst v) w') : o.wp P a w next Q := by
  unfold Oper.wp;rw [h];exact aE
theorem Rel.Nz {U : Nat → Prop} {x : ai} {v : Value} (ak : x.closed) (h : di U ad w x v) : di U id w x v := h.map (fun b ab _ => ⟨ab, rfl⟩) fun j ae => absurd ae (ak j)
theorem QP {U : Nat → Prop} {v : Value} (h : B8 v = true) : di U ad w (xK v) v := by
  cases v with
  | agg cs =>
    refine ⟨cs.toList, by simp, by simp, fun i x u aa hu => ?_⟩;rw [eJ, hu] at aa;cases aa;exact ⟨rfl, cC.1 h u (dJ hu)⟩
  | tuple vs => cases h
  | _ => exact ⟨rfl, rfl⟩
theorem lx.O7 (h : lx P s o s') (aA : Rel B A s ad a w) : ∀ c, o.op ≠ .defer c := by
  cases h with
  | quiet av al hd =>
    obtain ⟨v, h1, h2⟩ := al.run (s.free A ad) ad w a.eval (fun x aa b ab => aA.look ab);exact xI h1 (fun d h => by cases h)
  | fresh av al hd =>
    obtain ⟨v, bq, h1, h2, ab⟩ := al.run (s.free A ad) ad w a.eval (fun x aa b ab => aA.look ab);exact xI h1 (fun d h => by cases h)
  | load ty x k off cs av az => intro c ak; rw [az] at ak; cases ak
  | store ty x y k off cs z i az => intro c ak; rw [az] at ak; cases ak
  | new cs d dF hm aE hd =>
    intro c ak;cases aE with
    | alloc ty i z cs az => rw [az] at ak; cases ak
    | box ty x z az => rw [az] at ak; cases ak
  | call f args r ak hp hd =>
    intro c nW;obtain ⟨⟨c', g, az, _⟩, _⟩ := ak;rw [az] at nW; cases nW
theorem lx.sound (h : lx P s o s') (aA : Rel B A s ad a w) (ok : s.cV) : o.wp P a w (fun a' w' => ∃ bf, Rel B A s' bf a' w') Q := by
  cases h with
  | quiet av al hd =>
    obtain ⟨v, h1, h2⟩ := al.run (s.free A ad) ad w a.eval (fun x aa b ab => aA.look ab);exact Oper.wu h1 ⟨ad, aA.put hd h2⟩
  | fresh av al hd =>
    obtain ⟨v, bq, h1, h2, ab⟩ := al.run (s.free A ad) ad w a.eval (fun x aa b ab => aA.look ab);refine Oper.wu h1 ⟨ad, (aA.call ab).put hd (h2.map (fun b du ao => ⟨?_, rfl⟩) fun j ae => rfl)⟩;rcases du with h | h
    · exact h
    · refine ⟨aA.up b (lT aA.below.size h), fun k cs af e => ?_⟩
      have := aA.lt af;omega
  | load ty x k off cs av az aa hm hv hd =>
    obtain ⟨vs, t, g1, g2, g3⟩ := aA.dG k cs hm;obtain ⟨v, h1, h2⟩ := P2 hv g1 g2;have hp : a.eval x = .pointer (some ⟨ad k, off, none⟩) := aA.look aa;refine Oper.wu (v := v) (w' := w) ?_ ⟨ad, aA.put hd h2⟩;simp only [execOp, az, Instr.loadAt, hp, Instr.sureAddr, Sem.run_bind, Sem.run_pure, Result.andThen_ok, h1]
  | store ty x y k off cs z i az aa ag hm hi hs ab hd =>
    obtain ⟨vs, t, g1, g2, g3⟩ := aA.dG k cs hm;have hp : a.eval x = .pointer (some ⟨ad k, off, none⟩) := aA.look aa;have aZ : gS (s.free A ad) ad w z (a.eval y) := aA.look ag;have oU := aZ.cells;have vE : (a.eval y).cells.size = z.cells.length := by have := oU.1; simp at this; exact this.symm
    have j1 : (storeVar ty ⟨ad k, off, none⟩ (a.eval y)).run P w = .ok () (w.setRow (ad k) (vs.take off ++ (a.eval y).cells.toList ++ vs.drop (off + (a.eval y).cells.toList.length)).toArray) := by
      unfold storeVar;have ck : ¬ ((a.eval y).cells.size ≠ i.size) := by rw [vE, hs]; simp
      simp only [Sem.run_bind, hV hi, Result.andThen_ok, if_neg ck]
      have dp : ∀ v ∈ (a.eval y).cells.toList, v.oneCell' = true := fun v hv => by
        obtain ⟨j, ae⟩ := kw hv;have bj : j < z.cells.length := by rw [oU.1]; exact (bV.1 ae).1
        exact (oU.2 j _ v (cl bj) ae).cell
      have := run_storeCells_at (P := P) (ad k) off t (a.eval y).cells.toList 0 vs.toArray w g1 (by have := g2.1; simp; omega) dp;simpa using this
    have hrel := (Rel.set (k := k) (ds := er cs off z.cells) (aA.put (dst := o.dst) hd (di.undef _)) (by rw [aC.xE]; exact hm) (by rw [aC.WJ]; exact g2.er oU off ab));unfold Oper.wp
    have gu : (execOp a.eval o).run P w = .ok .skip (w.setRow (ad k) (vs.take off ++ (a.eval y).cells.toList ++ vs.drop (off + (a.eval y).cells.toList.length)).toArray) := by
      simp only [execOp, az, Instr.storeAt, hp, Instr.sureAddr, Sem.run_bind, Sem.run_pure, Result.andThen_ok, j1]
    rw [gu];exact ⟨ad, hrel⟩
  | new cs d dF hm aE hd =>
    have main : ∀ (vs : List Value) (ty : TypeId), bZ (s.free A ad) ad w cs vs → (∀ x ∈ cs, ∀ j, x.owns j → ∃ ar, s.mem j = some ar) → (execOp a.eval o).run P w = .ok (.value (.pointer (some ⟨w.heap.size, 0, none⟩))) (w.alloc (.cells vs.toArray ty)) →
        o.wp P a w (fun a' w' => ∃ bf, Rel B A ((s.eh d cs).put (some d) (.w (.one (.own d 0)))) bf a' w') Q := by
      intro vs ty ao ew gu;refine Oper.wu gu ⟨fun k => if k = d then w.heap.size else ad k, ?_⟩;rw [dF];refine (aA.new ok hd hm ao ew).put (fun d' e => by cases e; exact hd) ?_;show Value.pointer _ = Value.pointer _;simp
    cases aE with
    | alloc ty i z cs az hi aZ ak h1 =>
      subst ak;refine main z.cells.toList ty ⟨by simp, fun j x v aa hv => ?_⟩ (fun x aa j ae => ?_) ?_
      · rw [eJ, hv] at aa
        cases aa;exact ⟨rfl, cC.1 h1 v (dJ hv)⟩
      · obtain ⟨v, _, rfl⟩ := ix.1 aa
        cases ae
      · have sD : (zeroValue ty).run P w = .ok z w := by simp [zeroValue, typeInfo, program, Sem.run_bind, Sem.run, hi, Result.andThen, aZ]
        simp only [execOp, az, Instr.alloc, Sem.run_bind, sD, Result.andThen_ok, newVar, newRow, newObj, Sem.run];rfl
    | box ty x z az aa =>
      have aZ : gS (s.free A ad) ad w z (a.eval x) := aA.look aa;refine main (a.eval x).cells.toList ty aZ.cells (fun y ag j ae => ?_) ?_
      · cases x with
        | tmp t => exact ok.hh t _ j aa ⟨y, ag, ae⟩
        | const v =>
          simp only [aC.look] at aa
          split at aa
          · cases aa; simp [bK.cells] at ag; subst ag; cases ae
          · cases aa
        | global g => cases aa; simp [bK.cells] at ag; subst ag; cases ae
        | func g => cases aa; simp [bK.cells] at ag; subst ag; cases ae
      · simp only [execOp, az, Instr.box, newVar, newRow, newObj, Sem.run_bind, Sem.run, Result.andThen_ok]
        rfl
  | call f args r ak hp hd =>
    obtain ⟨⟨c, g, az, zf, a6⟩, zj⟩ := ak;have cY : ∀ {y : Operand} {x : ai}, x ∈ args → s.look y = some x → di (s.free A ad) id w x (a.eval y) := fun {y x} aa ag => Rel.Nz (ad := ad) (hp.jR x aa) (aA.look ag)
    obtain ⟨us, dT, gu⟩ : ∃ us : List Value, ko (s.free A ad) id w args us ∧ (execOp a.eval o).run P w = .ok (.enter f us.toArray) w := by
      rcases a6 with ⟨bs, aw, oJ, xi⟩ | ⟨cs, aw, oJ⟩
      · have kR : a.eval g = .func (.func f) bs.toArray #[] := (aA.look aw).1
        refine ⟨bs ++ c.args.toList.map a.eval, ?_, ?_⟩
        · refine ⟨by have := congrArg List.length oJ; simpa using this.symm, fun i x v aa hv => ?_⟩
          have h1 : (bs.map (fun b => some (xK b)) ++ c.args.toList.map s.look)[i]? = some (some x) := by rw [oJ, eJ, aa]; rfl
          rcases jn i bs.length with bj | lI
          · rw [gG (by simpa using bj), eJ] at h1
            rw [gG bj] at hv;rw [hv] at h1;simp only [hD, ib] at h1;subst h1;exact QP (cC.1 xi v (dJ hv))
          · rw [gH (by simpa using lI), eJ] at h1
            rw [gH lI, eJ] at hv;simp only [mZ] at h1;cases ag : c.args.toList[i - bs.length]? with
            | none => rw [ag] at hv; cases hv
            | some y =>
              rw [ag] at h1 hv;simp only [hD, ib] at h1 hv;subst hv;exact cY (dJ aa) h1
        · have e : bs.toArray ++ c.args.map a.eval ++ #[] = (bs ++ c.args.toList.map a.eval).toArray := by
            rw [Array.append_empty];apply Array.ext';simp
          simp only [execOp, az, resolve, zf, Deferred.ofValue, kR];simp only [Sem.run_bind, Sem.run_pure, Result.andThen_ok, invoke];rw [e];exact Cy zj
      · obtain ⟨vs, kR, cW⟩ := pt.UW (ad := ad) (aA.look aw)
        refine ⟨c.args.toList.map a.eval ++ vs, ?_, ?_⟩
        · refine ⟨by have := congrArg List.length oJ; have h2 := cW.1; simp at this ⊢; omega, fun i x v aa hv => ?_⟩
          have h1 : (c.args.toList.map s.look ++ cs.map (fun x => some (.w (.one x))))[i]? = some (some x) := by rw [oJ, eJ, aa]; rfl
          rcases jn i c.args.toList.length with bj | lI
          · rw [gG (by simpa using bj), eJ] at h1
            rw [gG (by simpa using bj), eJ] at hv;cases ag : c.args.toList[i]? with
            | none => rw [ag] at hv; cases hv
            | some y =>
              rw [ag] at h1 hv;simp only [hD, ib] at h1 hv;subst hv;exact cY (dJ aa) h1
          · rw [gH (by simpa using lI), eJ] at h1
            rw [gH (by simpa using lI)] at hv;simp only [mZ] at h1 hv;cases ag : cs[i - c.args.toList.length]? with
            | none => rw [ag] at h1; cases h1
            | some y =>
              rw [ag] at h1;simp only [hD, ib] at h1;subst h1;exact cW.2 _ y v ag hv
        · have e : (#[] : Array Value) ++ c.args.map a.eval ++ vs.toArray = (c.args.toList.map a.eval ++ vs).toArray := by
            apply Array.ext';simp
          simp only [execOp, az, resolve, zf, Deferred.ofValue, kR];simp only [Sem.run_bind, Sem.run_pure, Result.andThen_ok, invoke];rw [e];exact Cy zj
    unfold Oper.wp;rw [gu];refine (hp.call (s.free A ad) w _ dT).mono ?_;rintro e w' ⟨v, rfl, hv, ab⟩;refine ⟨ad, (aA.call ab).put hd (hv.map (fun b du ao => ⟨?_, rfl⟩) fun j ae => absurd ae (hp.ct j))⟩;rcases du with h | h
    · exact h
    · refine ⟨aA.up b (lT aA.below.size h), fun k cs af e => ?_⟩
      have := aA.lt af;omega
end
def afV : ai := .da []
def want (ops : Array Oper) (o : Oper) (s : aC) : Option Bool :=
  match o.guard with
  | none => some true
  | some (g, b) =>
    match (ops[g]?).bind (·.dst) with
    | some d => match s.tmps d with
      | some (.w (.one (.c (.bool x)))) => some (some x == some b)
      | some (.da _) => some false
      | _ => none
    | none => none
def mj (o : Oper) : Nat :=
  match o.op with
  | .load .. => 1
  | .store .. => 2
  | _ => 0
def vO (x y : Oper) : Bool := !(mj x == 2 && mj y != 0) && !(mj x != 0 && mj y == 2)
def addrOf (o : Oper) : Option Operand :=
  match o.op with
  | .load _ x => some x
  | .store _ x _ => some x
  | _ => none
def yA : ai → ai → Bool
  | .w (.one (.own k _)), .w (.one (.own j _)) => !Nat.beq k j
  | .w (.one (.own _ _)), .w (.one (.p _)) => true
  | .w (.one (.p _)), .w (.one (.own _ _)) => true
  | _, _ => false
theorem F1 {k j o p : Nat} (h : yA (.w (.one (.own k o))) (.w (.one (.own j p))) = true) : k ≠ j := fun e => by
  subst e;simp [yA, Nat.beq_refl] at h
def yi (s : aC) (x y : Oper) : Prop := vO x y = true ∨ ∃ a b u v, addrOf x = some a ∧ addrOf y = some b ∧ s.look a = some u ∧ s.look b = some v ∧ yA u v = true
section
variable {P : Program} {B : ff} {A : Nat → Prop} {s s1 s2 s' : aC} {ad : Nat → Nat} {a : Act} {w : World} {o bn bk : Oper} {ops : Array Oper}
theorem Ok {x : Operand} {dst : Option Nat} {v : ai} (h : ∀ d, dst = some d → x ≠ .tmp d) : (s.put dst v).look x = s.look x := by
  cases dst with
  | none => rfl
  | some d =>
    cases x with
    | tmp t => simp only [aC.look, aC.put]; exact ca _ _ (fun e => h d rfl (by rw [e]))
    | _ => rfl
theorem aaP {x : Operand} {k : Nat} {cs : List AC} : (s.eh k cs).look x = s.look x := by cases x <;> rfl
theorem wD.congr {look gE : Operand → Option ai} {av : ai} (h : wD P look o av) (e : ∀ x ∈ o.op.operands, gE x = look x) : wD P gE o av :=
  ⟨h.aeS, fun x aa => by rw [e x aa]; exact h.ops x aa, fun U ad W env he => h.run U ad W env fun x aa a aL => he x aa a (by rw [e x aa]; exact aL), fun j ae => by
    obtain ⟨x, aa, a, aL, XK⟩ := h.own j ae;exact ⟨x, aa, a, by rw [e x aa]; exact aL, XK⟩⟩
theorem wz.congr {look gE : Operand → Option ai} {av : ai} (h : wz P look o av) (e : ∀ x ∈ o.op.operands, gE x = look x) : wz P gE o av :=
  ⟨fun x aa => by rw [e x aa]; exact h.ops x aa, h.pH, fun U ad W env he => h.run U ad W env fun x aa a aL => he x aa a (by rw [e x aa]; exact aL)⟩
theorem uX.congr {look gE : Operand → Option ai} {cs : List AC} (h : uX P look o cs) (e : ∀ x ∈ o.op.operands, gE x = look x) : uX P gE o cs := by
  cases h with
  | alloc ty i z cs az hi aZ ak h1 => exact .alloc ty i z cs az hi aZ ak h1
  | box ty x z az aa => exact .box ty x z az (by rw [e x (by simp [az, Op.operands])]; exact aa)
theorem tf.congr {look gE : Operand → Option ai} {f : FuncId} {args : List ai} (h : tf P look o f args) (e : ∀ x ∈ o.op.operands, gE x = look x) : tf P gE o f args := by
  obtain ⟨⟨c, g, az, ak, a6⟩, he⟩ := h;have LJ : gE g = look g := e g (by simp [az, Op.operands, Call.operands, ak]);have iF : c.args.toList.map gE = c.args.toList.map look := qf fun x aa => e x (by simp [az, Op.operands, Call.operands, ak]; exact .inr (by simpa using aa));refine ⟨⟨c, g, az, ak, ?_⟩, he⟩;rcases a6 with ⟨bs, aw, aL, ab⟩ | ⟨cs, aw, aL⟩
  · exact .inl ⟨bs, by rw [LJ]; exact aw, by rw [iF]; exact aL, ab⟩
  · exact .inr ⟨cs, by rw [LJ]; exact aw, by rw [iF]; exact aL⟩
theorem aC.put_comm (s : aC) {x y : Option Nat} (v u : ai) (h : ∀ d, x = some d → y ≠ some d) : (s.put x v).put y u = (s.put y u).put x v := by
  cases x with
  | none => rfl
  | some d =>
    cases y with
    | none => rfl
    | some e =>
      have ck : e ≠ d := fun he => h d rfl (by rw [he]);simp only [aC.put];rw [Rx _ _ _ ck]
theorem aC.xP (s : aC) (x : Option Nat) (v : ai) (k : Nat) (cs : List AC) : (s.put x v).eh k cs = (s.eh k cs).put x v := by cases x <;> rfl
theorem aC.aeU (s : aC) {k j : Nat} (cs ds : List AC) (h : j ≠ k) : (s.eh k cs).eh j ds = (s.eh j ds).eh k cs := by
  simp only [aC.eh];rw [Rx _ _ _ h]
structure cq where
  v : ai
  m : Option (Nat × List AC)
def cq.on (e : cq) (dst : Option Nat) (s : aC) : aC :=
  match e.m with
  | some (k, cs) => (s.eh k cs).put dst e.v
  | none => s.put dst e.v
inductive e8 (P : Program) (n : Nat) (look : Operand → Option ai) (mem : Nat → Option (List AC)) (o : Oper) : Bool → cq → Prop
  | skip : e8 P n look mem o false ⟨.da [], none⟩
  | quiet (av : ai) (al : wD P look o av) : e8 P n look mem o true ⟨av, none⟩
  | fresh (av : ai) (al : wz P look o av) : e8 P n look mem o true ⟨av, none⟩
  | load (ty : TypeId) (x : Operand) (k off : Nat) (cs : List AC) (av : bK) (az : o.op = .load ty x) (aa : look x = some (.w (.one (.own k off)))) (hm : mem k = some cs) (hv : pick P ty cs off = some av) : e8 P n look mem o true ⟨.w av, none⟩
  | store (ty : TypeId) (x y : Operand) (k off : Nat) (cs : List AC) (z : bK) (i : TypeInfo) (az : o.op = .store ty x y) (aa : look x = some (.w (.one (.own k off)))) (ag : look y = some (.w z)) (hm : mem k = some cs) (hi : P.info? ty = some i) (hs : i.size = z.cells.length) (ab : off + z.cells.length ≤ cs.length) : e8 P n look mem o true ⟨.da [], some (k, er cs off z.cells)⟩
  | new (cs : List AC) (d : Nat) (dF : o.dst = some d) (hm : mem d = none) (aE : uX P look o cs) : e8 P n look mem o true ⟨.w (.one (.own d 0)), some (d, cs)⟩
  | call (f : FuncId) (args : List ai) (r : ai) (ak : tf P look o f args) (hp : aT P f args r) : e8 P n look mem o true ⟨r, none⟩
theorem e8.step {e : cq} (h : e8 P s.n s.look s.mem o true e) (hd : ∀ d, o.dst = some d → d < s.n) : lx P s o (e.on o.dst s) := by
  cases h with
  | quiet av al => exact .quiet av al hd
  | fresh av al => exact .fresh av al hd
  | load ty x k off cs av az aa hm hv => exact .load ty x k off cs av az aa hm hv hd
  | store ty x y k off cs z i az aa ag hm hi hs ab =>
    have := lx.store (P := P) (s := s) ty x y k off cs z i az aa ag hm hi hs ab hd;rw [aC.xP] at this;exact this
  | new cs d dF hm aE =>
    have := lx.new (P := P) (s := s) cs d dF hm aE (hd d dF);rw [← dF] at this;exact this
  | call f args r ak hp => exact .call f args r ak hp hd
theorem cq.re (e : cq) (dst : Option Nat) (s : aC) : (e.on dst s).mem = match e.m with | some (k, cs) => bS s.mem k cs | none => s.mem := by
  unfold cq.on
  split
  · rename_i h; rw [aC.xE]; simp [aC.eh]
  · rename_i h; rw [aC.xE]
theorem cq.rc (e : cq) (dst : Option Nat) (s : aC) {x : Operand} (h : ∀ d, dst = some d → x ≠ .tmp d) : (e.on dst s).look x = s.look x := by
  unfold cq.on
  split
  · rw [Ok h, aaP]
  · rw [Ok h]
theorem cq.uA (e : cq) (dst : Option Nat) (s : aC) : (e.on dst s).n = s.n := by
  unfold cq.on
  split
  · rw [aC.sK]; rfl
  · rw [aC.sK]
theorem cq.Ap (e f : cq) (x y : Option Nat) (s : aC) (h : ∀ d, x = some d → y ≠ some d) (af : ∀ k cs j ds, e.m = some (k, cs) → f.m = some (j, ds) → j ≠ k) : f.on y (e.on x s) = e.on x (f.on y s) := by
  unfold cq.on;cases he : e.m with
  | none =>
    cases au : f.m with
    | none => simp only [he, au]; exact aC.put_comm s _ _ h
    | some q => obtain ⟨j, ds⟩ := q; simp only [he, au]; rw [aC.xP]; exact aC.put_comm _ _ _ h
  | some p =>
    obtain ⟨k, cs⟩ := p;cases au : f.m with
    | none => simp only [he, au]; rw [aC.xP]; exact aC.put_comm _ _ _ h
    | some q =>
      obtain ⟨j, ds⟩ := q;simp only [he, au];rw [aC.xP, aC.xP, aC.aeU s _ _ (af k cs j ds he au)];exact aC.put_comm _ _ _ h
theorem ui {x : Operand} {d : Nat} {y : Oper} (h : d ∉ y.looksAt ops) (aa : x ∈ y.op.operands) : x ≠ .tmp d := fun e => h (by
  subst e;exact List.mem_append_left _ (List.mem_filterMap.2 ⟨.tmp d, by simpa using aa, rfl⟩))
theorem e8.swap {b c : Bool} {e f : cq} (ok : s.cV) (he : e8 P s.n s.look s.mem bn b e) (au : e8 P (e.on bn.dst s).n (e.on bn.dst s).look (e.on bn.dst s).mem bk c f) (pV : bn.apart ops bk = true) (mJ : yi s bn bk) :
    e8 P s.n s.look s.mem bk c f ∧ e8 P (f.on bk.dst s).n (f.on bk.dst s).look (f.on bk.dst s).mem bn b e ∧ f.on bk.dst (e.on bn.dst s) = e.on bn.dst (f.on bk.dst s) := by
  obtain ⟨a1, a2, a3⟩ := Oper.apart_spec pV;have mR : ∀ x ∈ bk.op.operands, (e.on bn.dst s).look x = s.look x := fun x aa => cq.rc _ _ _ fun d hd => ui (a1 d hd) aa;have cQ := cq.re e bn.dst s
 
  have vu : ∀ k cs, e.m = some (k, cs) → (∃ ar, s.mem k = some ar) ∨ s.mem k = none := fun k cs _ => by
    cases h : s.mem k with
    | none => exact .inr rfl
    | some c => exact .inl ⟨c, rfl⟩
  have PC : ∀ x k off, s.look x = some (.w (.one (.own k off))) → ∃ cs, s.mem k = some cs := fun x k off aa => by
    cases x with
    | tmp t => exact ok.hh t _ k aa ⟨.own k off, by simp [bK.cells], rfl⟩
    | const v => simp only [aC.look] at aa; split at aa <;> cases aa
    | global g => cases aa
    | func g => cases aa
 
  have OI : ∀ x k off, addrOf bk = some x → mj bk ≠ 0 → s.look x = some (.w (.one (.own k off))) → (e.on bn.dst s).mem k = s.mem k := by
    intro x k off G6 Hn aa;rw [cQ];cases he with
    | skip => rfl
    | quiet av al => rfl
    | fresh av al => rfl
    | load => rfl
    | call => rfl
    | store ty x' y' k' Pp cs z i az kU ag hm hi hs ab =>
      rcases mJ with mJ | ⟨a, b, q, p, aL, du, iF, l8, ck⟩
      · exfalso
        have : mj bn = 2 := by simp [mj, az]
        simp [vO, this, Hn] at mJ
      · simp only [addrOf, az, ib] at aL
        subst aL;rw [kU] at iF;cases iF;rw [G6] at du;cases du;rw [aa] at l8;cases l8;show bS s.mem k' _ k = s.mem k;exact ca _ _ (Ne.symm (F1 ck))
    | new cs d dF hm aE =>
      obtain ⟨c, ak⟩ := PC x k off aa;show bS s.mem d cs k = s.mem k;exact ca _ _ (fun e => by subst e; rw [hm] at ak; cases ak)
  have mc : e8 P s.n s.look s.mem bk c f := by
    cases au with
    | skip => exact .skip
    | quiet av al => exact .quiet av (al.congr fun x aa => (mR x aa).symm)
    | fresh av al => exact .fresh av (al.congr fun x aa => (mR x aa).symm)
    | load ty x k off cs av az aa hm hv =>
      have kU : s.look x = some (.w (.one (.own k off))) := by rw [← mR x (by simp [az, Op.operands])]; exact aa
      exact .load ty x k off cs av az kU (by rw [← OI x k off (by simp [addrOf, az]) (by simp [mj, az]) kU]; exact hm) hv
    | store ty x y k off cs z i az aa ag hm hi hs ab =>
      have kU : s.look x = some (.w (.one (.own k off))) := by rw [← mR x (by simp [az, Op.operands])]; exact aa
      exact .store ty x y k off cs z i az kU (by rw [← mR y (by simp [az, Op.operands])]; exact ag) (by rw [← OI x k off (by simp [addrOf, az]) (by simp [mj, az]) kU]; exact hm) hi hs ab
    | new cs d dF hm aE =>
      refine .new cs d dF ?_ (aE.congr fun x aa => (mR x aa).symm);rw [cQ] at hm;cases mI : e.m with
      | none => rw [mI] at hm; exact hm
      | some p =>
        obtain ⟨k, c⟩ := p;rw [mI] at hm
        by_cases gV : d = k
        · subst gV
          change bS s.mem d c d = none at hm
          rw [cy] at hm;cases hm
        · change bS s.mem k c d = none at hm
          rwa [ca _ _ gV] at hm
    | call g args r ak hp => exact .call g args r (ak.congr fun x aa => (mR x aa).symm) hp
  have lj : ∀ x ∈ bn.op.operands, (f.on bk.dst s).look x = s.look x := fun x aa => cq.rc _ _ _ fun d hd => ui (a3 d hd) aa;have OC := cq.re f bk.dst s
  have He : e8 P (f.on bk.dst s).n (f.on bk.dst s).look (f.on bk.dst s).mem bn b e := by
    have OG : ∀ x k off, addrOf bn = some x → mj bn ≠ 0 → s.look x = some (.w (.one (.own k off))) → (f.on bk.dst s).mem k = s.mem k := by
      intro x k off G6 Hn aa;rw [OC];cases mc with
      | skip => rfl
      | quiet av al => rfl
      | fresh av al => rfl
      | load => rfl
      | call => rfl
      | store ty x' y' k' Pp cs z i az kU ag hm hi hs ab =>
        rcases mJ with mJ | ⟨a, b, q, p, aL, du, iF, l8, ck⟩
        · exfalso
          have : mj bk = 2 := by simp [mj, az]
          simp [vO, this, Hn] at mJ
        · simp only [addrOf, az, ib] at du
          subst du;rw [kU] at l8;cases l8;rw [G6] at aL;cases aL;rw [aa] at iF;cases iF;show bS s.mem k' _ k = s.mem k;exact ca _ _ (F1 ck)
      | new cs d dF hm aE =>
        obtain ⟨c, ak⟩ := PC x k off aa;show bS s.mem d cs k = s.mem k;exact ca _ _ (fun e => by subst e; rw [hm] at ak; cases ak)
    cases he with
    | skip => exact .skip
    | quiet av al => exact .quiet av (al.congr fun x aa => lj x aa)
    | fresh av al => exact .fresh av (al.congr fun x aa => lj x aa)
    | load ty x k off cs av az aa hm hv => exact .load ty x k off cs av az (by rw [lj x (by simp [az, Op.operands])]; exact aa) (by rw [OG x k off (by simp [addrOf, az]) (by simp [mj, az]) aa]; exact hm) hv
    | store ty x y k off cs z i az aa ag hm hi hs ab => exact .store ty x y k off cs z i az (by rw [lj x (by simp [az, Op.operands])]; exact aa) (by rw [lj y (by simp [az, Op.operands])]; exact ag) (by rw [OG x k off (by simp [addrOf, az]) (by simp [mj, az]) aa]; exact hm) hi hs ab
    | new cs d dF hm aE =>
      refine .new cs d dF ?_ (aE.congr fun x aa => lj x aa);rw [OC];cases mc with
      | skip => exact hm
      | quiet av al => exact hm
      | fresh av al => exact hm
      | load => exact hm
      | call => exact hm
      | store ty x' y' k' Pp ar z i az kU ag gl hi hs ab =>
        show bS s.mem k' _ d = none;rw [ca _ _ (fun e => by subst e; rw [hm] at gl; cases gl)];exact hm
      | new ar d' X6 gl Dg =>
        show bS s.mem d' _ d = none;rw [ca _ _ (fun e => a2 d dF (by rw [X6, e]))];exact hm
    | call g args r ak hp => exact .call g args r (ak.congr fun x aa => lj x aa) hp
  refine ⟨mc, He, cq.Ap e f bn.dst bk.dst s a2 ?_⟩;intro k cs j ds h1 h2 V1;subst V1;cases he with
  | skip => cases h1
  | quiet => cases h1
  | fresh => cases h1
  | load => cases h1
  | call => cases h1
  | store ty x y k' off ar z i az aa ag hm hi hs ab =>
    cases h1;cases mc with
    | skip => cases h2
    | quiet => cases h2
    | fresh => cases h2
    | load => cases h2
    | call => cases h2
    | store afR dE rG cf ab9 tx z2 i2 xo HT =>
      cases h2;rcases mJ with mJ | ⟨a, b, q, p, aL, du, iF, l8, ck⟩
      · simp [vO, mj, az, xo] at mJ
      · simp only [addrOf, az, xo, ib] at aL du
        subst aL;subst du;rw [aa] at iF;rw [HT] at l8;cases iF;cases l8;exact F1 ck rfl
    | new tx d2 ML n0 Hw => cases h2; rw [n0] at hm; cases hm
  | new ar d dF hm aE =>
    cases h1;cases mc with
    | skip => cases h2
    | quiet => cases h2
    | fresh => cases h2
    | load => cases h2
    | call => cases h2
    | store afR dE rG cf ab9 tx z2 i2 xo HT zM n0 => cases h2; rw [n0] at hm; cases hm
    | new tx d2 ML n0 Hw => cases h2; exact a2 _ dF ML
end
section
variable {P : Program} {B : ff} {A : Nat → Prop} {s s1 s2 s' : aC} {ad : Nat → Nat} {a : Act} {w : World} {o bn bk : Oper} {ops : Array Oper} {md : Region.Mode}
theorem look_ok {x : Operand} {av : ai} {j : Nat} (ok : s.cV) (aa : s.look x = some av) (ae : av.owns j) : ∃ cs, s.mem j = some cs := by
  have none : ∀ v, ¬ (ai.w (.one (.c v))).owns j := fun v ⟨y, ag, h⟩ => by simp [bK.cells] at ag; subst ag; cases h
  cases x with
  | tmp t => exact ok.hh t av j aa ae
  | const v =>
    simp only [aC.look] at aa
    split at aa
    · cases aa; exact absurd ae (none _)
    · cases aa
  | global g => cases aa; exact absurd ae (none _)
  | func g => cases aa; exact absurd ae (none _)
theorem aC.cV.put {dst : Option Nat} {av : ai} (ok : s.cV) (h : ∀ j, av.owns j → ∃ cs, s.mem j = some cs) : (s.put dst av).cV := by
  cases dst with
  | none => exact ok
  | some d =>
    refine ⟨fun t bv j aD ae => ?_, ok.dG⟩;simp only [aC.put] at aD ⊢
    by_cases e : t = d
    · subst e; rw [cy] at aD; cases aD; exact h j ae
    · rw [ca _ _ e] at aD; exact ok.hh t bv j aD ae
theorem aC.cV.eh {k : Nat} {cs : List AC} (ok : s.cV) (h : ∀ x ∈ cs, ∀ j, x.owns j → ∃ ar, s.mem j = some ar) : (s.eh k cs).cV := by
  have up : ∀ j, (∃ c, s.mem j = some c) → ∃ c, (s.eh k cs).mem j = some c := fun j ⟨c, ak⟩ => by
    by_cases e : j = k
    · exact ⟨cs, by rw [e]; exact cy _ _ _⟩
    · exact ⟨c, by simp only [aC.eh]; rw [ca _ _ e]; exact ak⟩
  refine ⟨fun t bv j aD ae => up j (ok.hh t bv j aD ae), fun k' c x j af aa ae => up j ?_⟩;simp only [aC.eh] at af
  by_cases e : k' = k
  · subst e; rw [cy] at af; cases af; exact h x aa j ae
  · rw [ca _ _ e] at af; exact ok.dG k' c x j af aa ae
theorem adF {ty : TypeId} {cs : List AC} {off : Nat} {av : bK} (h : pick P ty cs off = some av) : ∀ x ∈ av.cells, x ∈ cs := by
  unfold pick at h
  split at h
  · cases hi : P.info? ty with
    | none => rw [hi] at h; cases h
    | some i =>
      rw [hi] at h;simp only [kz] at h
      split at h
      · cases h; exact fun x aa => ob (qd aa)
      · cases h
  · cases hi : P.info? ty with
    | none => rw [hi] at h; cases h
    | some i =>
      rw [hi] at h;simp only [kz] at h
      split at h
      · cases h; exact fun x aa => ob (qd aa)
      · cases h
  · cases aa : cs[off]? with
    | none => rw [aa] at h; cases h
    | some y => rw [aa] at h; cases h; intro x kU; simp [bK.cells] at kU; subst kU; exact dJ aa
  · cases h
theorem lx.ok (h : lx P s o s') (ok : s.cV) : s'.cV := by
  cases h with
  | quiet av al hd =>
    refine ok.put fun j ae => ?_;obtain ⟨x, aa, b, ab, XS⟩ := al.own j ae;exact look_ok ok ab XS
  | fresh av al hd => exact ok.put fun j ae => absurd ae (al.pH j)
  | load ty x k off cs av az aa hm hv hd =>
    refine ok.put fun j ae => ?_;obtain ⟨y, ag, mg⟩ := ae;exact ok.dG k cs y j hm (adF hv y ag) mg
  | store ty x y k off cs z i az aa ag hm hi hs ab hd =>
    rw [aC.xP];refine aC.cV.put (ok.eh fun x aa j ae => ?_) fun j ae => (by obtain ⟨y, ag, _⟩ := ae; cases ag);unfold er at aa;simp only [ms] at aa;rcases aa with (h1 | h1) | h1
    · exact ok.dG k cs x j hm (qd h1) ae
    · exact look_ok ok ag ⟨x, h1, ae⟩
    · exact ok.dG k cs x j hm (ob h1) ae
  | new cs d dF hm aE hd =>
    refine aC.cV.put (ok.eh fun x aa j ae => ?_) fun j ae => ?_
    · cases aE with
      | alloc ty i z cs az hi aZ ak h1 => subst ak; obtain ⟨v, _, rfl⟩ := ix.1 aa; cases ae
      | box ty y z az ag => exact look_ok ok ag ⟨x, aa, ae⟩
    · obtain ⟨y, ag, mg⟩ := ae
      simp [bK.cells] at ag;subst ag;cases mg;exact ⟨cs, cy _ _ _⟩
  | call f args r ak hp hd => exact ok.put fun j ae => absurd ae (hp.ct j)
def rZ (P : Program) (ops : Array Oper) (o : Oper) (K : aC → Prop) (s : aC) : Prop :=
  ∃ b, want ops o s = some b ∧ ∃ e, e8 P s.n s.look s.mem o b e ∧ (∀ d, o.dst = some d → d < s.n) ∧ K (e.on o.dst s)
def yq (P : Program) (md : Region.Mode) (ops : Array Oper) (K : aC → Prop) : Nat → Array Bool → aC → Prop
  | 0, bA, s => Region.ready md ops bA = [] ∧ K s
  | fu + 1, bA, s => (Region.ready md ops bA = [] → K s) ∧
    ∀ i ∈ Region.ready md ops bA, ∀ o, ops[i]? = some o → rZ P ops o (yq P md ops K fu (bA.setIfInBounds i true)) s
theorem RN {b : Bool} (h : want ops o s = some b) (aA : Rel B A s ad a w) : Region.wanted o (yielded ops a.tmps) = b := by
  unfold want at h;unfold Region.wanted
  split at h
  · rename_i aw; rw [aw]; cases h; rfl
  · rename_i g bT aw
    rw [aw]
    split at h
    · rename_i d hd
      split at h
      · rename_i x aa
        cases h;obtain ⟨v, h1, h2⟩ := aA.hh d _ aa;obtain ⟨rfl, _⟩ := h2;simp [yielded, hd, h1]
      · rename_i xs aa
        cases h;obtain ⟨v, h1, h2⟩ := aA.hh d _ aa;obtain ⟨vs, rfl, _⟩ := h2;simp [yielded, hd, h1]
      · cases h
    · cases h
theorem yQ {b : Bool} {e : cq} (ok : s.cV) (he : e8 P s.n s.look s.mem o b e) (hd : ∀ d, o.dst = some d → d < s.n) : (e.on o.dst s).cV := by
  cases b with
  | true => exact (he.step hd).ok ok
  | false => cases he; exact ok.put fun j ae => (by obtain ⟨y, ag, _⟩ := ae; cases ag)
theorem Kw {ro : Option Nat} {K : aC → Prop} {iY : Act → World → Prop} {Q : Exit → Act → World → Prop} {i : Nat} (hi : ops[i]? = some o) (ok : s.cV) (aA : Rel B A s ad a w) (h : rZ P ops o K s)
    (ef : ∀ s' bf a' w', s'.cV → Rel B A s' bf a' w' → K s' → iY a' w') : wpOpIn (mD ro) 0 P ops Q i iY a w := by
  obtain ⟨b, hw, e, he, hd, af⟩ := h;have oS := RN hw aA;unfold wpOpIn;simp only [hi];cases b with
  | true =>
    rw [oS];simp only [if_true];have dN := (he.step hd).ok ok;exact Oper.RP (Oper.wp_mono (fun a' w' ⟨bf, ap⟩ => ef _ bf a' w' dN ap af) (lx.sound (he.step hd) aA ok)) ((he.step hd).O7 aA)
  | false =>
    rw [oS];simp only [od, if_false];cases he;exact ⟨fun _ _ => trivial, ef _ ad _ _ (ok.put fun j ae => (by obtain ⟨y, ag, _⟩ := ae; cases ag)) (aA.put hd (di.undef _)) af⟩
theorem Kt {ro : Option Nat} {K : aC → Prop} {Q : Exit → Act → World → Prop} (jA : ∀ s' bf a' w', s'.cV → Rel B A s' bf a' w' → K s' → Q .normal a' w') : ∀ (fu : Nat) (bA : Array Bool) (s : aC) (ad : Nat → Nat) (a : Act) (w : World), s.cV → Rel B A s ad a w →
    yq P md ops K fu bA s → wpAnyIn (mD ro) 0 P md ops Q fu bA a w
  | 0, _, _, _, _, _, ok, aA, h => ⟨h.1, jA _ _ _ _ ok aA h.2⟩
  | fu + 1, bA, s, ad, a, w, ok, aA, h => ⟨fun aI => jA _ _ _ _ ok aA (h.1 aI), fun i hi => by
      obtain ⟨aI, o, az, _⟩ := mem_ready.1 hi;exact Kw az ok aA (h.2 i hi o az) fun s' bf a' w' dN cE af => Kt jA fu _ s' bf a' w' dN cE af⟩
theorem x5 {b : Option Bool} {e : cq} {dst : Option Nat} (ao : ∀ d, dst = some d → d ∉ o.looksAt ops) : want ops o (e.on dst s) = want ops o s := by
  have aD : ∀ d, (∀ d', dst = some d' → d ≠ d') → (e.on dst s).tmps d = s.tmps d := fun d h => by
    have := cq.rc e dst s (x := .tmp d) (fun d' sn bz => h d' sn (by cases bz; rfl));exact this
  unfold want;cases aw : o.guard with
  | none => rfl
  | some p =>
    obtain ⟨g, bT⟩ := p;simp only;cases hd : (ops[g]?).bind (·.dst) with
    | none => rfl
    | some d =>
      simp only
      rw [aD d (fun d' sn bz => ao d' sn (by
        subst bz;unfold Oper.looksAt;rw [aw];exact List.mem_append_right _ (by simp [hd])))]
theorem Tn {b : Bool} {e : cq} {K : aC → Prop} (ok : s.cV) (hw : want ops bn s = some b) (he : e8 P s.n s.look s.mem bn b e) (tV : ∀ d, bn.dst = some d → d < s.n) (pV : bn.apart ops bk = true) (mJ : yi s bn bk) (h : rZ P ops bk K (e.on bn.dst s)) :
    rZ P ops bk (fun t => (want ops bn t = some b ∧ e8 P t.n t.look t.mem bn b e ∧ (∀ d, bn.dst = some d → d < t.n) ∧ t.cV) ∧ K (e.on bn.dst t)) s := by
  obtain ⟨a1, a2, a3⟩ := Oper.apart_spec pV;obtain ⟨c, sA, f, au, qV, af⟩ := h;obtain ⟨h1, h2, aq⟩ := e8.swap ok he au pV mJ;rw [x5 (b := none) a1] at sA;have vp : ∀ d, bk.dst = some d → d < s.n := fun d hd => by have := qV d hd; rwa [cq.uA] at this
  refine ⟨c, sA, f, h1, vp, ⟨?_, h2, fun d hd => by rw [cq.uA]; exact tV d hd, yQ ok h1 vp⟩, by rw [← aq]; exact af⟩;rw [x5 (b := none) a3];exact hw
theorem Tm {K iY : aC → Prop} (h : ∀ s, K s → iY s) (a6 : rZ P ops o K s) : rZ P ops o iY s :=
  let ⟨b, h1, e, h2, aq, aK⟩ := a6
  ⟨b, h1, e, h2, aq, h _ aK⟩
def pA (ops : Array Oper) (bA : Array Bool) (x y : Oper) (s : aC) : Prop :=
  vO x y = true ∨ ∃ t u o p, addrOf x = some (.tmp t) ∧ addrOf y = some (.tmp u) ∧ s.tmps t = some o ∧ s.tmps u = some p ∧ yA o p = true ∧
    ∀ i bn, ops[i]? = some bn → bA.getD i true = false → bn.dst ≠ some t ∧ bn.dst ≠ some u
theorem pA.sep {bA : Array Bool} (h : pA ops bA bn bk s) : yi s bn bk := by
  rcases h with h | ⟨t, u, o, p, h1, h2, aq, aK, cO, _⟩
  · exact .inl h
  · exact .inr ⟨_, _, o, p, h1, h2, aq, aK, cO⟩
theorem cq.xL {e : cq} {dst : Option Nat} {t : Nat} (h : dst ≠ some t) : (e.on dst s).tmps t = s.tmps t := by
  have := cq.rc e dst s (x := .tmp t) (fun d hd bz => by cases bz; exact h hd);exact this
theorem pA.on {bA : Array Bool} {f : cq} {o : Oper} {i : Nat} (h : pA ops bA bn bk s) (az : ops[i]? = some o) (jg : bA.getD i true = false) : pA ops (bA.setIfInBounds i true) bn bk (f.on o.dst s) := by
  rcases h with h | ⟨t, u, q, p, h1, h2, aq, aK, cO, ek⟩
  · exact .inl h
  · obtain ⟨hy, j2⟩ := ek i o az jg
    refine .inr ⟨t, u, q, p, h1, h2, by rw [cq.xL hy]; exact aq, by rw [cq.xL j2]; exact aK, cO, fun fN fO gY ue => ek fN fO gY ?_⟩
    by_cases e : i = fN
    · subst e; exact jg
    · rwa [getD_set_ne true e] at ue
theorem To {b : Bool} {e : cq} {K : aC → Prop} (ok : s.cV) (hw : want ops bn s = some b) (he : e8 P s.n s.look s.mem bn b e) (tV : ∀ d, bn.dst = some d → d < s.n) (pV : bn.apart ops bk = true) (mJ : yi s bn bk) (h : rZ P ops bk K (e.on bn.dst s)) :
    rZ P ops bk (fun t => (∃ f : cq, t = f.on bk.dst s) ∧ (want ops bn t = some b ∧ e8 P t.n t.look t.mem bn b e ∧ (∀ d, bn.dst = some d → d < t.n) ∧ t.cV) ∧ K (e.on bn.dst t)) s := by
  obtain ⟨c, h1, f, h2, aq, aK⟩ := Tn ok hw he tV pV mJ h;exact ⟨c, h1, f, h2, aq, ⟨f, rfl⟩, aK⟩
def waits (md : Region.Mode) (ops : Array Oper) : Nat → Nat → Nat → Bool
  | 0, _, _ => false
  | f + 1, j, i => match ops[j]? with
    | some o => o.after.any fun e => Region.binds md e && (e.on == i || waits md ops f e.on i)
    | none => false
def Down (md : Region.Mode) (ops : Array Oper) (bA : Array Bool) : Prop := ∀ k o, bA.getD k false = true → ops[k]? = some o → ∀ e ∈ o.after, Region.binds md e = true → bA.getD e.on false = true
theorem JD {bA : Array Bool} (hd : Down md ops bA) : ∀ (f j i : Nat) (o : Oper), ops[j]? = some o → (∀ e ∈ o.after, Region.binds md e = true → bA.getD e.on false = true) → waits md ops f j i = true → bA.getD i false = true
  | 0, _, _, _, _, _, h => by cases h
  | f + 1, j, i, o, az, dp, h => by
    simp only [waits, az] at h;obtain ⟨e, he, ab⟩ := Array.any_eq_true'.1 h;simp only [eo, rl, beq_iff_eq] at ab;obtain ⟨h1, h2⟩ := ab;have ao := dp e he h1;rcases h2 with h2 | h2
    · rw [← h2]; exact ao
    · cases gY : ops[e.on]? with
      | none => cases f <;> simp [waits, gY] at h2
      | some fO => exact JD hd f e.on i fO gY (fun bz He du => hd e.on fO ao gY bz He du) h2
theorem Down.set {bA : Array Bool} (hd : Down md ops bA) {j : Nat} (ae : j ∈ Region.ready md ops bA) : Down md ops (bA.setIfInBounds j true) := by
  intro k o af az e he ab;obtain ⟨_, bk, fS, dp⟩ := mem_ready.1 ae
  by_cases bz : j = k
  · subst bz
    rw [fS] at az;cases az;exact getD_set_true (dp e he ab)
  · refine getD_set_true (hd k o ?_ az e he ab)
    have : (bA.setIfInBounds j true).getD k false = bA.getD k false := by simp [Array.getElem?_setIfInBounds_ne bz]
    rwa [this] at af
theorem Tl {K : aC → Prop} {i : Nat} {b : Bool} {e : cq} (hi : ops[i]? = some bn) : ∀ (fu : Nat) (bA : Array Bool) (s : aC),
      (∀ j bk, ops[j]? = some bk → j ≠ i → bA.getD j true = false → (∀ e ∈ bk.after, Region.binds md e = true → e.on ≠ i) → waits md ops 4 j i = false → bn.apart ops bk = true ∧ pA ops bA bn bk s) →
      Down md ops bA → i ∈ Region.ready md ops bA → s.cV → want ops bn s = some b → e8 P s.n s.look s.mem bn b e → (∀ d, bn.dst = some d → d < s.n) →
      yq P md ops K fu (bA.setIfInBounds i true) (e.on bn.dst s) → yq P md ops K (fu + 1) bA s := by
  intro fu
  induction fu with
  | zero =>
    intro bA s _ gh ap ok hw he hd H;refine ⟨fun h => (by rw [h] at ap; cases ap), fun j ae bk fS => ?_⟩
    by_cases gD : j = i
    · subst gD; rw [hi] at fS; cases fS; exact ⟨b, hw, e, he, hd, H⟩
    · have := ready_mono ae gD
      rw [H.1] at this;cases this
  | succ fu cF =>
    intro bA s jW gh ap ok hw he hd H;refine ⟨fun h => (by rw [h] at ap; cases ap), fun j ae bk fS => ?_⟩
    by_cases gD : j = i
    · subst gD; rw [hi] at fS; cases fS; exact ⟨b, hw, e, he, hd, H⟩
    · have h1 := H.2 j (ready_mono ae gD) bk fS
      obtain ⟨vt, aca, zx, dp⟩ := mem_ready.1 ae;rw [fS] at zx;cases zx
      have ss : ∀ e ∈ bk.after, Region.binds md e = true → e.on ≠ i := fun e he ab sr => by
        have h1 := dp e he ab;have aI := (mem_ready.1 ap).1;rw [sr] at h1;rcases jn i bA.size with aF | aF
        · simp [aF] at aI h1; rw [aI] at h1; cases h1
        · simp [vV aF] at h1
      have sB : waits md ops 4 j i = false := by
        cases sA : waits md ops 4 j i with
        | false => rfl
        | true =>
          have h1 := JD gh 4 j i bk fS dp sA;have aI := (mem_ready.1 ap).1;rcases jn i bA.size with aF | aF
          · simp [aF] at aI h1; rw [aI] at h1; cases h1
          · simp [vV aF] at h1
      obtain ⟨g1, g2⟩ := jW j bk fS gD vt ss sB;have h2 := To ok hw he hd g1 g2.sep h1;refine Tm (fun t aq => ?_) h2;obtain ⟨⟨f, rfl⟩, aq⟩ := aq
      have Hg : ∀ k ok, ops[k]? = some ok → k ≠ i → (bA.setIfInBounds j true).getD k true = false →
          (∀ e ∈ ok.after, Region.binds md e = true → e.on ≠ i) → waits md ops 4 k i = false → bn.apart ops ok = true ∧ pA ops (bA.setIfInBounds j true) bn ok (f.on bk.dst s) := fun k ok af kT jg jX Dp => by
        have ue : bA.getD k true = false := by
          by_cases ld : j = k
          · subst ld; exact vt
          · rwa [getD_set_ne true ld] at jg
        obtain ⟨q1, q2⟩ := jW k ok af kT ue jX Dp;exact ⟨q1, q2.on fS vt⟩
      refine cF (bA.setIfInBounds j true) _ Hg (gh.set ae) (ready_mono ap (Ne.symm gD)) aq.1.2.2.2 aq.1.1 aq.1.2.1 aq.1.2.2.1 ?_;rw [Array.setIfInBounds_comm _ _ gD];exact aq.2
def bi (P : Program) (ops : Array Oper) (K : aC → Prop) : List Oper → aC → Prop
  | [], s => K s
  | o :: rest, s => rZ P ops o (bi P ops K rest) s
def IY (x y : Oper) : Option (Nat × Nat) :=
  match addrOf x, addrOf y with
  | some (.tmp t), some (.tmp u) => some (t, u)
  | _, _ => none
def o7 (ops : Array Oper) (bA : Array Bool) (t : Nat) : Bool := (List.range ops.size).all fun j => bA.getD j true || match ops[j]? with
  | some o => o.dst != some t
  | none => true
def mw (s : aC) (p : Nat × Nat) : Bool :=
  match s.tmps p.1, s.tmps p.2 with
  | some x, some y => yA x y
  | _, _ => false
def DT (md : Region.Mode) (ops : Array Oper) (ia : List (Nat × Nat)) (bA : Array Bool) (i : Nat) : Bool :=
  match ops[i]? with
  | none => false
  | some bn => (List.range ops.size).all fun j => j == i || bA.getD j true || match ops[j]? with
      | some bk => vO bn bk || waits md ops 4 j i || match IY bn bk with
        | some (t, u) => ia.contains (t, u) && o7 ops bA t && o7 ops bA u
        | none => false
      | none => true
theorem D7 {bA : Array Bool} {t : Nat} (h : o7 ops bA t = true) (j : Nat) (o : Oper) (az : ops[j]? = some o) (jg : bA.getD j true = false) : o.dst ≠ some t := by (try (unfold o7 at *)); grind
theorem OD {i : Nat} {ia : List (Nat × Nat)} {bA : Array Bool} (hi : ops[i]? = some bn) (h : DT md ops ia bA i = true) (hs : ∀ p ∈ ia, o7 ops bA p.1 = true → o7 ops bA p.2 = true → mw s p = true) (j : Nat) (bk : Oper)
    (ae : ops[j]? = some bk) (ck : j ≠ i) (jg : bA.getD j true = false) (jX : waits md ops 4 j i = false) : pA ops bA bn bk s := by
  simp only [DT, hi, cC, List.mem_range] at h;have h1 := h j (ln.1 ae).1;simp only [ae, rl, beq_iff_eq, ck, false_or, jg, od] at h1;rcases h1 with (h1 | h1) | h1
  · exact .inl h1
  · rw [jX] at h1; cases h1
  · split at h1
    · rename_i t u hp
      simp only [eo] at h1;obtain ⟨⟨c1, c2⟩, k6⟩ := h1;have mf := hs (t, u) (by simpa using c1) c2 k6;unfold IY at hp
      split at hp
      · rename_i oj kF aG aO
        cases hp;unfold mw at mf
        split at mf
        · rename_i o fU q1 q2
          exact .inr ⟨t, u, o, fU, aG, aO, q1, q2, mf, fun fN fO gY ue => ⟨D7 c2 fN fO gY ue, D7 k6 fN fO gY ue⟩⟩
        · cases mf
      · cases hp
    · cases h1
def Aa (md : Region.Mode) (ops : Array Oper) (ia : List (Nat × Nat)) : List Nat → Array Bool → Bool
  | [], bA => (Region.ready md ops bA).isEmpty
  | k :: ord, bA => (Region.ready md ops bA).contains k && Region.free md ops bA k && DT md ops ia bA k && Aa md ops ia ord (bA.setIfInBounds k true)
def getAll (l : List Oper) : List Nat → Option (List Oper)
  | [] => some []
  | i :: ord => match l[i]?, getAll l ord with
    | some o, some r => some (o :: r)
    | _, _ => none
theorem GK {l : List Oper} : ∀ (ord : List Nat) (r : List Oper), getAll l ord = some r → r.length = ord.length ∧ ∀ (j : Nat), r[j]? = (ord[j]?).bind (l[·]?)
  | [], r, h => by cases h; exact ⟨rfl, fun j => by simp⟩
  | i :: ord, r, h => by
    simp only [getAll] at h
    split at h
    · rename_i o a8 az ap
      cases h;obtain ⟨h1, h2⟩ := GK ord a8 ap;refine ⟨by simp [h1], fun j => ?_⟩;cases j with
      | zero => simp [az]
      | succ j => simpa using h2 j
    · cases h
theorem Ku {K : aC → Prop} : ∀ (l : List Oper) (s : aC), bi P ops K l s → ∃ s', K s' ∧ ∀ t, (∀ o ∈ l, o.dst ≠ some t) → s'.tmps t = s.tmps t
  | [], s, h => ⟨s, h, fun _ _ => rfl⟩
  | o :: l, s, ⟨b, hw, e, he, hd, ef⟩ => by
    obtain ⟨s', h1, h2⟩ := Ku l _ ef;exact ⟨s', h1, fun t aD => (h2 t fun fO gY => aD fO (by simp [gY])).trans (cq.xL (aD o (by simp)))⟩
theorem Ks {K : aC → Prop} {ia : List (Nat × Nat)} : ∀ (ord : List Nat) (l : List Oper) (bA : Array Bool) (s : aC), l.length = ord.length → (∀ (j : Nat), l[j]? = (ord[j]?).bind (ops[·]?)) → (∀ k ∈ ord, bA.getD k true = false) → (∀ k, k < ops.size → bA.getD k true = false → k ∈ ord) → ord.Nodup → Down md ops bA → s.cV →
    Aa md ops ia ord bA = true → bi P ops (fun s => ia.all (mw s) = true ∧ K s) l s → yq P md ops K l.length bA s
  | [], [], _, _, _, _, _, _, _, _, _, eY, h => ⟨by simpa [Aa] using eY, h.2⟩
  | [], _ :: _, _, _, hlen, _, _, _, _, _, _, _, _ => by cases hlen
  | _ :: _, [], _, _, hlen, _, _, _, _, _, _, _, _ => by cases hlen
  | k :: ord, o :: l, bA, s, hlen, ao, jg, Hd, hr, gh, ok, eY, h => by
    have aI : ops[k]? = some o := by simpa using (ao 0).symm
    have sq := Ku _ _ h;simp only [Aa, eo] at eY;obtain ⟨⟨⟨ap, au⟩, hm⟩, GS⟩ := eY;obtain ⟨b, hw, e, he, hd, ef⟩ := h
    have hs : ∀ p ∈ ia, o7 ops bA p.1 = true → o7 ops bA p.2 = true → mw s p = true := fun p hp hy j2 => by
      obtain ⟨s', ⟨h1, _⟩, h2⟩ := sq
      have hB : ∀ t, o7 ops bA t = true → ∀ fO ∈ o :: l, fO.dst ≠ some t := fun t aD fO gY => by
        obtain ⟨j, ae⟩ := kw gY;rw [ao j] at ae;cases al : (k :: ord)[j]? with
        | none => rw [al] at ae; cases ae
        | some q => rw [al] at ae; exact D7 aD q fO ae (jg _ (dJ al))
      have := cC.1 h1 p hp;unfold mw at this ⊢;rw [h2 p.1 (hB _ hy), h2 p.2 (hB _ j2)] at this;exact this
    rw [List.nodup_cons] at hr;have ck : ∀ q ∈ ord, k ≠ q := fun q al e => hr.1 (by rw [e]; exact al);refine Tl aI l.length bA s (fun j bk h1 h2 aq aK cO => ⟨Region.free_spec aI au j bk h1 h2 aq aK, OD aI hm hs j bk h1 h2 aq cO⟩) gh (by simpa using ap) ok hw he hd ?_;refine Ks ord l _ _ (by simpa using hlen) (fun j => by simpa using ao (j + 1)) (fun q al => by rw [getD_set_ne true (ck q al)]; exact jg q (by simp [al])) (fun q al vv => ?_) hr.2 (gh.set (by simpa using ap)) (yQ ok he hd) GS ef
    by_cases bz : k = q
    · subst bz
      have : k < bA.size := by
        have := jg k (by simp);rcases jn k bA.size with aF | aF
        · exact aF
        · simp [vV aF] at this
      simp [this] at vv
    · rw [getD_set_ne true bz] at vv
      rcases hf.1 (Hd q al vv) with aF | aF
      · exact absurd aF.symm bz
      · exact aF
def vQ (ops : Array Oper) (ord : List Nat) : List (Nat × Nat) :=
  match ord with
  | [] => []
  | i :: rest => (match ops[i]? with
    | some bn => bif mj bn != 0 then rest.filterMap fun j => match ops[j]? with
        | some bk => bif vO bn bk || waits .any ops 4 j i then none else IY bn bk
        | none => none
      else []
    | none => []) ++ vQ ops rest
def early (o : Oper) : Bool := (match o.op with | .alloc _ => true | _ => false) && o.after.isEmpty && o.guard.isNone
def rh (l : List Oper) : List Nat := ((List.range l.length).filter fun i => match l[i]? with | some o => early o | none => false) ++ (List.range l.length).filter fun i => match l[i]? with | some o => !early o | none => false
def fI (P : Program) (c : Code) (Q : Exit → aC → Prop) (s : aC) : Prop :=
  s.cV → ∀ B A ad a w, Rel B A s ad a w → kH P c (fun e a' w' => ∃ s' bf, s'.cV ∧ Rel B A s' bf a' w' ∧ Q e s') a w
def Ah : List Nat → Bool
  | [] => true
  | x :: xs => !xs.contains x && Ah xs
theorem IH : ∀ (l : List Nat), Ah l = true → l.Nodup
  | [], _ => List.nodup_nil
  | x :: xs, h => by
    simp only [Ah, eo, uH, List.contains_eq_mem, mX] at h;exact List.nodup_cons.2 ⟨h.1, IH xs h.2⟩
def LC (l : List Oper) : Bool := Nat.beq (rh l).length l.length && Ah (rh l) && (List.range l.length).all (fun i => (rh l).contains i) && (rh l).all (fun i => Nat.blt i l.length) && Aa .any l.toArray (vQ l.toArray (rh l)) (rh l) (Array.replicate l.length false)
theorem hI {id : Nat} {l cG : List Oper} {Q : Exit → aC → Prop} (hm : P.follows .mixedOrders = true) (eY : LC l = true) (ao : getAll l (rh l) = some cG)
    (h : bi P l.toArray (fun s => (vQ l.toArray (rh l)).all (mw s) = true ∧ Q .normal s) cG s) : fI P (.region id l.toArray true) Q s := by
  intro ok B A ad a w aA;refine RJ hm fun ro => ?_;unfold LC at eY;simp only [eo, cC, List.mem_range, List.contains_eq_mem, c0] at eY;obtain ⟨⟨⟨⟨oC, b1⟩, b2⟩, eF⟩, dV⟩ := eY;obtain ⟨g1, g2⟩ := GK _ _ ao;have hd : Rel B A s ad a { w with drawn := w.drawn + 1 } := aA.call ((Below.refl _ w).drew);refine Kt (K := Q .normal) (fun s' bf a' w' dN cE af => ⟨s', bf, dN, cE, af⟩) _ _ s ad a _ ok hd ?_;have nd := IH _ b1;have hlen : (rh l).length = l.length := hE oC;have := Ks (md := .any) (ops := l.toArray) (rh l) cG (Array.replicate l.length false) s g1 (by simpa using g2) (fun q al => by have := eF q al; simp [Nat.blt_eq] at this; simp [this]) (fun q al _ => b2 q (by simpa using al)) nd (fun k o af => by exfalso; rcases jn k l.length with q | q <;> simp [Array.getElem?_replicate, q] at af) ok dV h;rw [g1, hlen] at this;simpa using this
theorem Kv {ro : Option Nat} {K : aC → Prop} {Q : Exit → Act → World → Prop} (jA : ∀ s' bf a' w', s'.cV → Rel B A s' bf a' w' → K s' → Q .normal a' w') : ∀ (l : List Oper) (k : Nat) (s : aC) (ad : Nat → Nat) (a : Act) (w : World), (∀ (j : Nat), l[j]? = ops[k + j]?) → s.cV → Rel B A s ad a w →
    bi P ops K l s → wpOpsIn (mD ro) 0 P ops Q ((List.range l.length).map (k + ·)) a w
  | [], _, _, _, _, _, _, ok, aA, h => jA _ _ _ _ ok aA h
  | o :: l, k, s, ad, a, w, ao, ok, aA, h => by
    have aI : ops[k]? = some o := by simpa using (ao 0).symm
    have e : (List.range (o :: l).length).map (k + ·) = k :: (List.range l.length).map (k + 1 + ·) := by
      rw [mq, List.range_succ_eq_map, lp, List.map_map];congr 1;apply qf;intro j _;simp [Nat.add_assoc, Nat.add_comm 1 j]
    rw [e, wpOpsIn_cons];refine Kw aI ok aA h fun s' bf a' w' dN cE af => Kv jA l (k + 1) s' bf a' w' (fun j => by have := ao (j + 1); simpa [Nat.add_assoc, Nat.add_comm 1 j] using this) dN cE af
theorem bO {id : Nat} {l : List Oper} {Q : Exit → aC → Prop} (h : bi P l.toArray (Q .normal) l s) : fI P (.region id l.toArray false) Q s := by
  intro ok B A ad a w aA;refine RI fun ro => ?_;have := Kv (ro := ro) (ops := l.toArray) (K := Q .normal) (Q := fun e a' w' => ∃ s' bf, s'.cV ∧ Rel B A s' bf a' w' ∧ Q e s') (fun s' bf a' w' dN cE af => ⟨s', bf, dN, cE, af⟩) l 0 s ad a w (by simp) ok aA h;simpa using this
end
section
variable {P : Program} {B : ff} {A : Nat → Prop} {s s1 s2 s' : aC} {ad : Nat → Nat} {a : Act} {w : World} {Q : Exit → aC → Prop} {x y : Code}
def r2 (next : aC → Prop) (Q : Exit → aC → Prop) : Exit → aC → Prop
  | .normal, s => next s
  | e, s => Q e s
theorem bR (h : fI P x (r2 (fun s' => fI P y Q s') Q) s) : fI P (.seq x y) Q s := by
  intro ok B A ad a w aA;refine RL (tc (h ok B A ad a w aA) ?_);rintro e a' w' ⟨s', bf, dN, cE, al⟩;cases e <;> first | exact al dN B A bf a' w' cE | exact ⟨s', bf, dN, cE, al⟩
theorem eU (h : Q .normal s) : fI P .skip Q s := fun ok B A ad a w aA => RM ⟨s, ad, ok, aA, h⟩
theorem qJ {id : Nat} (h : Q (.exit id) s) : fI P (.exit id) Q s := fun ok B A ad a w aA => RG ⟨s, ad, ok, aA, h⟩
theorem b7 (h : Q .ret s) : fI P .ret Q s := fun ok B A ad a w aA => RK ⟨s, ad, ok, aA, h⟩
theorem KQ {c : Operand} {t : Bool} (ak : s.look c = some (.w (.one (.c (.bool t))))) (h1 : t = true → fI P x Q s) (aI : t = false → fI P y Q s) : fI P (.cond c x y) Q s := by
  intro ok B A ad a w aA;have hv : a.eval c = .bool t := (aA.look ak).1;refine RF hv ?_;cases t with
  | true => exact h1 rfl ok B A ad a w aA
  | false => exact aI rfl ok B A ad a w aA
theorem ik {c : Operand} (ak : s.look c = some (.w (.one (.c (.bool true))))) (h1 : fI P x Q s) : fI P (.cond c x y) Q s := KQ ak (fun _ => h1) (fun e => by cases e)
theorem gU {c : Operand} (ak : s.look c = some (.w (.one (.c (.bool false))))) (aI : fI P y Q s) : fI P (.cond c x y) Q s := KQ ak (fun e => by cases e) (fun _ => aI)
def tj (id : Nat) (Q : Exit → aC → Prop) : Exit → aC → Prop
  | .exit mQ, s => bif Nat.beq mQ id then Q .normal s else Q (.exit mQ) s
  | e, s => Q e s
theorem gg {id : Nat} (h : fI P x (tj id Q) s) : fI P (.block id x) Q s := by
  intro ok B A ad a w aA;refine RE (tc (h ok B A ad a w aA) ?_);rintro e a' w' ⟨s', bf, dN, cE, al⟩;cases e with
  | exit mQ =>
    simp only [Exit.inBlock];simp only [tj] at al;cases ab : Nat.beq mQ id with
    | true => rw [ab] at al; rw [if_pos (hE ab)]; exact ⟨s', bf, dN, cE, al⟩
    | false =>
      rw [ab] at al;have : mQ ≠ id := fun e => by subst e; rw [Nat.beq_refl] at ab; cases ab
      rw [if_neg this]; exact ⟨s', bf, dN, cE, al⟩
  | _ => exact ⟨s', bf, dN, cE, al⟩
structure aC.br (s s' : aC) : Prop where
  n : s'.n = s.n
  hh : ∀ t av, s'.tmps t = some av → s.tmps t = some av
  dG : ∀ k cs, s'.mem k = some cs → s.mem k = some cs
theorem Rel.le (h : Rel B A s ad a w) (l : s.br s') : Rel B A s' ad a w := by
  have au : ∀ b, s.free A ad b → b < w.heap.size → s'.free A ad b ∧ w.heap[b]? = w.heap[b]? := fun b ab _ => ⟨⟨ab.1, fun k cs af => ab.2 k cs (l.dG k cs af)⟩, rfl⟩;refine ⟨h.qb, by rw [l.n]; exact h.size, fun t av aD => ?_, fun k cs af => ?_, fun k k' c c' af e0 e => h.inj k k' c c' (l.dG _ _ af) (l.dG _ _ e0) e, h.below, h.up, fun k b af => by rw [l.n]; exact h.kp k b af⟩
  · obtain ⟨v, h1, h2⟩ := h.hh t av (l.hh t av aD)
    exact ⟨v, h1, h2.map au fun _ _ => rfl⟩
  · obtain ⟨vs, ty, h1, h2, aq⟩ := h.dG k cs (l.dG k cs af)
    exact ⟨vs, ty, h1, h2.map au fun _ _ _ _ => rfl, aq⟩
theorem RH {c : Code} {Q : Exit → Act → World → Prop} (I : Nat → Act → World → Prop) {n : Nat} (h₀ : I n a w)
    (round : ∀ n a w, I n a w → kH P c (Exit.then (fun a' w' => ∃ m, m < n ∧ I m a' w') Q) a w) : kH P (Code.loop c) Q a w := by
  intro ro b k cs jf ab me
  have key : ∀ n a w, I n a w →
      ∃ e a' w', Q e a' w' ∧ ArrivesIn (Machine.fenced P (mD ro)) P (lone (b.atR a (.code c :: .inLoop c :: k)) cs w) b k cs e a' w' := by
    intro n
    induction n using Nat.strongRecOn with
    | _ n cF =>
      intro a w bu;obtain ⟨e, wM, x6, al, tS⟩ := round n a w bu ro b (.inLoop c :: k) cs jf ab me;cases e with
      | normal =>
        obtain ⟨m, bj, Xu⟩ := al;obtain ⟨Wj, Um, aga, YS, XL⟩ := cF m bj wM x6 Xu;exact ⟨Wj, Um, aga, YS, .of_steps (StepsIn.trans tS (.one (fenced_calm ab me rfl) stepR_inLoop)) XL⟩
      | exit id => exact ⟨_, wM, x6, al, .pass (x := .inLoop c) rfl (fun _ _ => .inl (by simp)) tS⟩
      | goto l => exact ⟨_, wM, x6, al, .pass (x := .inLoop c) rfl (fun _ _ => .inl (by simp)) tS⟩
      | ret => exact ⟨_, wM, x6, al, .pass (x := .inLoop c) rfl (fun _ _ => .inl (by simp)) tS⟩
      | panic ch => exact ⟨_, wM, x6, al, .pass (x := .inLoop c) rfl (fun _ _ => .inl (by simp)) tS⟩
      | outgrown => exact ⟨_, wM, x6, al, .pass (x := .inLoop c) rfl (fun _ _ => .inl (by simp)) tS⟩
  obtain ⟨e, a', w', al, tS⟩ := key _ a w h₀;exact ⟨e, a', w', al, .of_steps (.one (fenced_calm ab me rfl) stepR_loop) tS⟩
theorem KS (I : Nat → aC → Prop) (n : Nat) (eP : aC) (q5 : s.br eP) (acb : eP.cV) (aI : I n eP)
    (round : ∀ n s, I n s → fI P x (r2 (fun s' => ∃ m, m < n ∧ ∃ AO, s'.br AO ∧ AO.cV ∧ I m AO) Q) s) : fI P (.loop x) Q s := by
  intro ok B A ad a w aA;refine RH (fun n a w => ∃ s ad, s.cV ∧ Rel B A s ad a w ∧ I n s) ⟨eP, ad, acb, aA.le q5, aI⟩ ?_;rintro n a w ⟨s, ad, ok, aA, bu⟩;refine tc (round n s bu ok B A ad a w aA) ?_;rintro e a' w' ⟨s', bf, dN, cE, al⟩;cases e with
  | normal =>
    obtain ⟨m, hm, AO, ao, vR, cn⟩ := al;exact ⟨m, hm, AO, bf, vR, cE.le ao, cn⟩
  | _ => exact ⟨s', bf, dN, cE, al⟩
def ai.br (x y : ai) : Prop := ∀ U ad W v, di U ad W x v → di U ad W y v
theorem ai.br.refl (x : ai) : x.br x := fun _ _ _ _ h => h
theorem ai.br.of_eq {x y : ai} (h : x = y) : x.br y := by subst h; exact .refl x
def iS (P : Program) (s : aC) : ResultVar → Option bK
  | .tmp t => match s.tmps t with
    | some (.w x) => some x
    | _ => none
  | .cell a ty => match s.tmps a with
    | some (.w (.one (.own k off))) => (s.mem k).bind (pick P ty · off)
    | _ => none
def packed : List bK → ai
  | [x] => .w x
  | xs => .da xs
def yB (P : Program) (fn : Func) (r : ai) : Exit → aC → Prop
  | .normal, s | .ret, s => ∃ xs, fn.results.toList.map (iS P s) = xs.map some ∧ (packed xs).br r
  | _, _ => False
theorem QX {α : Type} {f : α → Sem Value} : ∀ (l : List α) (vs : List Value), l.length = vs.length → (∀ (i : Nat) x v, l[i]? = some x → vs[i]? = some v → (f x).run P w = .ok v w) → (l.mapM f).run P w = .ok vs w
  | [], [], _, _ => rfl
  | [], _ :: _, h, _ => by cases h
  | _ :: _, [], h, _ => by cases h
  | x :: l, v :: vs, ao, h => by
    have aI := h 0 x v rfl rfl;have cF := QX l vs (by simpa using ao) (fun i x v aa hv => h (i + 1) x v (by simpa using aa) (by simpa using hv));rw [List.mapM_cons];simp only [Sem.run_bind, aI, Result.andThen_ok, cF];rfl
def AD (a : Act) : ResultVar → Sem Value
  | .tmp t => pure (a.tmps.getD t undef)
  | .cell b t => do loadVar t (← asAddr (a.tmps.getD b undef))
theorem ad7 (fn : Func) (a : Act) : results fn a.tmps = (do let vs ← fn.results.mapM (AD a); pure (if h : vs.size = 1 then vs[0] else .tuple vs)) := rfl
theorem ad6 {v : ResultVar} {z : bK} (aA : Rel B A s ad a w) (h : iS P s v = some z) : ∃ u, (AD a v).run P w = .ok u w ∧ gS (s.free A ad) ad w z u := by
  cases v with
  | tmp t =>
    simp only [iS] at h
    split at h
    · rename_i x aa
      cases h;obtain ⟨v, h1, h2⟩ := aA.hh t _ aa;refine ⟨v, ?_, h2⟩;simp [AD, xR, h1]
    · cases h
  | cell b ty =>
    simp only [iS] at h
    split at h
    · rename_i k off aa
      cases hm : s.mem k with
      | none => rw [hm] at h; cases h
      | some cs =>
        rw [hm] at h;obtain ⟨vs, t, g1, g2, g3⟩ := aA.dG k cs hm;obtain ⟨u, h1, h2⟩ := P2 h g1 g2;obtain ⟨p, q1, q2⟩ := aA.hh b _ aa;cases q2;refine ⟨u, ?_, h2⟩;simp only [AD, xR, q1, Option.getD_some, asAddr, Sem.run_bind, Sem.run_pure, Result.andThen_ok, h1]
    · cases h
theorem Qx {fn : Func} {xs : List bK} (aA : Rel B A s ad a w) (h : fn.results.toList.map (iS P s) = xs.map some) : ∃ v, (results fn a.tmps).run P w = .ok v w ∧ di (s.free A ad) ad w (packed xs) v := by
  have key : ∀ (l : List ResultVar) (xs : List bK), l.map (iS P s) = xs.map some → ∃ vs : List Value, vs.length = xs.length ∧ l.length = vs.length ∧ (∀ (i : Nat) r u, l[i]? = some r → vs[i]? = some u → (AD a r).run P w = .ok u w) ∧ ∀ (i : Nat) x u, xs[i]? = some x → vs[i]? = some u → gS (s.free A ad) ad w x u := by
    intro l
    induction l with
    | nil => intro xs h; cases xs with
      | nil => exact ⟨[], rfl, rfl, fun i r u h => by simp at h, fun i x u h => by simp at h⟩
      | cons => cases h
    | cons r l cF =>
      intro xs h;cases xs with
      | nil => cases h
      | cons x xs =>
        simp only [lp, List.cons.injEq] at h;obtain ⟨vs, aG, aO, cz, eX⟩ := cF xs h.2;obtain ⟨u, q1, q2⟩ := ad6 aA h.1;refine ⟨u :: vs, by simp [aG], by simp [aO], fun i a8 kF h1 h2 => ?_, fun i x' kF h1 h2 => ?_⟩
        · cases i with
          | zero => simp at h1 h2; subst h1; subst h2; exact q1
          | succ i => exact cz i a8 kF (by simpa using h1) (by simpa using h2)
        · cases i with
          | zero => simp at h1 h2; subst h1; subst h2; exact q2
          | succ i => exact eX i x' kF (by simpa using h1) (by simpa using h2)
  obtain ⟨vs, aG, aO, cz, eX⟩ := key _ _ h;have hm := QX (P := P) (w := w) _ vs aO cz
  have gu : (results fn a.tmps).run P w = .ok (if h : vs.toArray.size = 1 then vs.toArray[0] else .tuple vs.toArray) w := by
    rw [ad7, Array.mapM_eq_mapM_toList];simp only [map_eq_pure_bind, bind_assoc, Sem.run_bind];rw [hm];simp only [Result.andThen_ok, Sem.run_bind, Sem.run_pure]
  refine ⟨_, gu, ?_⟩
  match vs, xs, aG, eX with
  | [], [], _, _ => exact ⟨[], rfl, rfl, fun i x v h => by simp at h⟩
  | [v], [x], _, eX => exact eX 0 x v rfl rfl
  | v1 :: v2 :: vs, dh :: dE :: xs, aG, eX =>
    rw [dif_neg (by simp)];exact ⟨v1 :: v2 :: vs, rfl, aG.symm, eX⟩
def start (n : Nat) (args : List ai) : aC := ⟨n, fun t => args[t]?, fun _ => none⟩
def te (P : Program) (c : Code) (Q : Exit → aC → Prop) (s : aC) : Prop :=
  s.cV → ∀ W A ad a w, Rel (ff.all W) A s ad a w → c.wp P (fun e a' w' => ∃ s' bf, s'.cV ∧ Rel (ff.all W) A s' bf a' w' ∧ Q e s') a w
theorem P1 {f : FuncId} {fn : Func} {c : Code} {args : List ai} {r : ai} (au : P.funcs[f]? = some fn) (ab : fn.body = some c) (aE : args.length ≤ fn.ntmps) (jR : ∀ x ∈ args, x.closed) (ct : r.closed)
    (h : te P c (yB P fn r) (start fn.ntmps args)) : aT P f args r := by
  refine ⟨jR, ct, fun U W vs dT => ?_⟩;have ao := dT.1
 
  refine calls_of_wp au ab ?_;have ok : (start fn.ntmps args).cV := ⟨fun t av j aD ae => absurd ae (jR av (dJ aD) j), fun k cs x j af => by cases af⟩
  have aA : Rel (ff.all W) (fun b => U b ∨ W.heap.size ≤ b) (start fn.ntmps args) id { tmps := vs.toArray ++ Array.replicate (fn.ntmps - vs.toArray.size) undef, defers := [] } W := by
    refine ⟨rfl, by simp [start]; omega, fun t av aD => ?_, (fun k cs af => by cases af), (fun k k' cs ar af => by cases af), kh.refl (ff.all W), fun b ab => .inr ab, fun k b af => (by cases af)⟩;have bj : t < vs.length := by rw [← ao]; exact (bV.1 aD).1
    refine ⟨vs[t], by simp [Array.getElem?_append, bj], ?_⟩;exact (dT.2 t av _ aD (cl bj)).map (fun b ab _ => ⟨⟨.inl ab, fun k cs af => by cases af⟩, rfl⟩) fun _ _ => rfl
  refine wp_mono (h ok W _ id _ W aA) ?_;rintro e a' w' ⟨s', bf, dN, cE, al⟩
  have fin : (∃ xs, fn.results.toList.map (iS P s') = xs.map some ∧ (packed xs).br r) → a'.defers = [] ∧ ∃ v, (results fn a'.tmps).run P w' = .ok v w' ∧ ∃ u, Ending.returned v = .returned u ∧ di (fun b => U b ∨ W.heap.size ≤ b) id w' r u ∧ Below W.heap.size W w' := by
    rintro ⟨xs, h1, h2⟩;obtain ⟨v, q1, q2⟩ := Qx cE h1;exact ⟨cE.qb, v, q1, v, rfl, (h2 _ _ _ _ q2).map (fun b ab _ => ⟨ab.1, rfl⟩) fun j ae => absurd ae (ct j), cE.below.all⟩
  cases e with
  | normal => exact fin al
  | ret => exact fin al
  | _ => exact al.elim
theorem adz {f : FuncId} {fn : Func} {c : Code} {args : List ai} {r : ai} (au : P.funcs[f]? = some fn) (ab : fn.body = some c) (aE : args.length ≤ fn.ntmps) (jR : ∀ x ∈ args, x.closed) (ct : r.closed)
    (h : fI P c (yB P fn r) (start fn.ntmps args)) : aT P f args r :=
  P1 au ab aE jR ct fun ok W A ad a w aA => (h ok (ff.all W) A ad a w aA).top
end
end Go.Proofs.YtpochbhajmbfdaaGreat
