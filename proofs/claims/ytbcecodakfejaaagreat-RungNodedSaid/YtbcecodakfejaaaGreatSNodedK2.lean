/-
  My own texts, without what this claim does not need. My own text.
-/
import Derived.Below
import Derived.Still
import Derived.OrdersIn
import Derived.Laws.CopyRow
import Derived.Laws.Cells
import Derived.Test.YtbcecodakfejaaaGreatSNodedK1
set_option maxRecDepth 100000
set_option maxHeartbeats 64000000
set_option linter.unusedVariables false
set_option linter.unusedSimpArgs false
set_option linter.unusedSectionVars false
namespace Go.Proofs.YtbcecodakfejaaaGreat
open Go.RowKit
structure e0 where
  holds : World → Value → Prop
  kX : World → Value → Nat → Prop
  frame : ∀ w w' v, holds w v → (∀ b, kX w v b → w'.heap[b]? = w.heap[b]?) → holds w' v ∧ ∀ b, kX w' v b → kX w v b
  ir : ∀ w v b, holds w v → kX w v b → b < w.heap.size
  cell : ∀ w v, holds w v → v.oneCell' = true
inductive AC where
  | c (v : Value)
  | own (k off : Nat)
  | p (R : e0)
inductive bz where
  | one (x : AC)
  | agg (xs : List AC)
inductive ah where
  | w (x : bz)
  | cr (xs : List bz)
def bz.cells : bz → List AC
  | .one x => [x]
  | .agg xs => xs
def gh (U : Nat → Prop) (ad : Nat → Nat) (W : World) : AC → Value → Prop
  | .c v, x => x = v ∧ v.oneCell' = true
  | .own k off, x => x = .pointer (some ⟨ad k, off, none⟩)
  | .p R, x => R.holds W x ∧ ∀ b, R.kX W x b → U b
def bL (U : Nat → Prop) (ad : Nat → Nat) (W : World) (xs : List AC) (vs : List Value) : Prop :=
  xs.length = vs.length ∧ ∀ (i : Nat) (x : AC) (v : Value), xs[i]? = some x → vs[i]? = some v → gh U ad W x v
def fX (U : Nat → Prop) (ad : Nat → Nat) (W : World) : bz → Value → Prop
  | .one x, v => gh U ad W x v
  | .agg xs, v => ∃ vs : List Value, v = .agg vs.toArray ∧ bL U ad W xs vs
def da (U : Nat → Prop) (ad : Nat → Nat) (W : World) : ah → Value → Prop
  | .w x, v => fX U ad W x v
  | .cr xs, v => ∃ vs : List Value, v = .tuple vs.toArray ∧ xs.length = vs.length ∧ ∀ (i : Nat) (x : bz) (v : Value), xs[i]? = some x → vs[i]? = some v → fX U ad W x v
def AC.owns : AC → Nat → Prop
  | .own k _, j => j = k
  | _, _ => False
def bz.owns (x : bz) (j : Nat) : Prop := ∃ y ∈ x.cells, y.owns j
def ah.owns : ah → Nat → Prop
  | .w x, j => x.owns j
  | .cr xs, j => ∃ x ∈ xs, x.owns j
section
variable {U cF : Nat → Prop} {ad aY : Nat → Nat} {W bh : World}
theorem gh.cell {x : AC} {v : Value} (h : gh U ad W x v) : v.oneCell' = true := by
  cases x with
  | c u => obtain ⟨rfl, h⟩ := h; exact h
  | own k off => cases h; rfl
  | p R => exact R.cell _ _ h.1
theorem gh.map {x : AC} {v : Value} (h : gh U ad W x v) (dx : ∀ b, U b → b < W.heap.size → cF b ∧ bh.heap[b]? = W.heap[b]?) (jq : ∀ j, x.owns j → aY j = ad j) : gh cF aY bh x v := by
  cases x with
  | c u => exact h
  | own k off => simp only [gh] at h ⊢; rw [h, jq k rfl]
  | p R =>
    obtain ⟨h1, h2⟩ := h;have an := R.frame W bh v h1 (fun b ab => (dx b (h2 b ab) (R.ir _ _ _ h1 ab)).2);exact ⟨an.1, fun b ab => (dx b (h2 b (an.2 b ab)) (R.ir _ _ _ h1 (an.2 b ab))).1⟩
theorem bL.map {xs : List AC} {vs : List Value} (h : bL U ad W xs vs) (dx : ∀ b, U b → b < W.heap.size → cF b ∧ bh.heap[b]? = W.heap[b]?) (jq : ∀ j x, x ∈ xs → x.owns j → aY j = ad j) : bL cF aY bh xs vs :=
  ⟨h.1, fun i x v aa hv => (h.2 i x v aa hv).map dx fun j ae => jq j x (c7 aa) ae⟩
theorem fX.map {x : bz} {v : Value} (h : fX U ad W x v) (dx : ∀ b, U b → b < W.heap.size → cF b ∧ bh.heap[b]? = W.heap[b]?) (jq : ∀ j, x.owns j → aY j = ad j) : fX cF aY bh x v := by
  cases x with
  | one x => exact gh.map h dx fun j ae => jq j ⟨x, by simp [bz.cells], ae⟩
  | agg xs =>
    obtain ⟨vs, e, h⟩ := h;exact ⟨vs, e, h.map dx fun j x aa ae => jq j ⟨x, aa, ae⟩⟩
theorem da.map {x : ah} {v : Value} (h : da U ad W x v) (dx : ∀ b, U b → b < W.heap.size → cF b ∧ bh.heap[b]? = W.heap[b]?) (jq : ∀ j, x.owns j → aY j = ad j) : da cF aY bh x v := by
  cases x with
  | w x => exact fX.map h dx jq
  | cr xs =>
    obtain ⟨vs, e, ak, h⟩ := h;exact ⟨vs, e, ak, fun i x v aa hv => (h i x v aa hv).map dx fun j ae => jq j ⟨x, c7 aa, ae⟩⟩
theorem fX.cells {x : bz} {v : Value} (h : fX U ad W x v) : bL U ad W x.cells v.cells.toList := by
  cases x with
  | one x =>
    have aj : v.cells = #[v] := by
      have := gh.cell h;cases v <;> simp_all [Value.cells, Value.oneCell']
    rw [aj];refine ⟨rfl, fun i y u ai hu => ?_⟩;simp only [bz.cells] at ai;cases i with
    | zero => simp at ai hu; subst ai; subst hu; exact h
    | succ i => simp at ai
  | agg xs =>
    obtain ⟨vs, rfl, h⟩ := h;exact h
end
def bK {α : Type} (f : Nat → Option α) (k : Nat) (v : α) : Nat → Option α := fun j => bif Nat.beq j k then some v else f j
theorem cx {α : Type} (f : Nat → Option α) (k : Nat) (v : α) : bK f k v k = some v := by simp [bK]
theorem cl {α : Type} (f : Nat → Option α) {k j : Nat} (v : α) (h : j ≠ k) : bK f k v j = f j := by
  have : Nat.beq j k = false := by
    cases ab : Nat.beq j k with
    | false => rfl
    | true => exact absurd (hb ab) h
  simp [bK, this]
theorem RR {α : Type} (f : Nat → Option α) {k j : Nat} (v u : α) (h : j ≠ k) : bK (bK f k v) j u = bK (bK f j u) k v := by
  funext i
  by_cases h1 : i = j
  · subst h1; rw [cx, cl _ _ h, cx]
  · by_cases h2 : i = k
    · subst h2; rw [cl _ _ h1, cx, cx]
    · rw [cl _ _ h1, cl _ _ h2, cl _ _ h2, cl _ _ h1]
structure aA where
  n : Nat
  tmps : Nat → Option ah
  mem : Nat → Option (List AC)
def aA.put (s : aA) (dst : Option Nat) (v : ah) : aA :=
  match dst with
  | some d => { s with tmps := bK s.tmps d v }
  | none => s
def aA.eh (s : aA) (k : Nat) (cs : List AC) : aA := { s with mem := bK s.mem k cs }
def Pm : Value → bz
  | .agg cs => .agg (cs.toList.map .c)
  | v => .one (.c v)
def xw : Value → ah
  | .tuple vs => .cr (vs.toList.map Pm)
  | v => .w (Pm v)
def aA.look (s : aA) : Operand → Option ah
  | .tmp t => s.tmps t
  | .const v => if v.oneCell' then some (.w (.one (.c v))) else none
  | .global g => some (.w (.one (.c (.pointer (some ⟨g, 0, none⟩)))))
  | .func f => some (.w (.one (.c (.func (.func f) #[] #[]))))
def aA.free (s : aA) (A : Nat → Prop) (ad : Nat → Nat) (b : Nat) : Prop := A b ∧ ∀ k cs, s.mem k = some cs → ad k ≠ b
structure aA.cE (s : aA) : Prop where
  hf : ∀ t av j, s.tmps t = some av → av.owns j → ∃ cs, s.mem j = some cs
  dn : ∀ k cs x j, s.mem k = some cs → x ∈ cs → x.owns j → ∃ au, s.mem j = some au
structure eH where
  W : World
  F : Nat → Prop
  lt : ∀ b, F b → b < W.heap.size
  N : Nat → Option Nat
  marks : List Deferred := []
def eH.all (W : World) : eH := ⟨W, fun b => b < W.heap.size, fun _ h => h, fun _ => none, []⟩
def rj (B : eH) (s : aA) (ad : Nat → Nat) : Prop := ∀ k b, B.N k = some b → s.n ≤ k ∧ ad k = b
structure iN (B : eH) (w : World) : Prop where
  os : w.os = B.W.os
  tape : w.tape = B.W.tape
  output : w.output = B.W.output
  size : B.W.heap.size ≤ w.heap.size
  block : ∀ b, B.F b → w.heap[b]? = B.W.heap[b]?
theorem iN.then {B : eH} {w w' : World} (h : iN B w) (ab : Below w.heap.size w w') : iN B w' :=
  ⟨ab.os.trans h.os, ab.tape.trans h.tape, ab.output.trans h.output, ha h.size ab.size, fun b ar => (ab.block b (pW (B.lt b ar) h.size)).trans (h.block b ar)⟩
theorem iN.refl (B : eH) : iN B B.W := ⟨rfl, rfl, rfl, dJ _, fun _ _ => rfl⟩
theorem iN.all {W w : World} (h : iN (eH.all W) w) : Below W.heap.size W w := ⟨h.os, h.tape, h.output, h.size, fun k af => h.block k af⟩
structure Rel (B : eH) (A : Nat → Prop) (s : aA) (ad : Nat → Nat) (a : Act) (w : World) : Prop where
  pT : a.defers = B.marks
  size : a.tmps.size = s.n
  hf : ∀ t av, s.tmps t = some av → ∃ v, a.tmps[t]? = some v ∧ da (s.free A ad) ad w av v
  dn : ∀ k cs, s.mem k = some cs → ∃ (vs : List Value) (ty : TypeId), w.heap[ad k]? = some (.cells vs.toArray ty (0, 0)) ∧ bL (s.free A ad) ad w cs vs ∧ ¬ B.F (ad k)
  inj : ∀ k k' cs au, s.mem k = some cs → s.mem k' = some au → ad k = ad k' → k = k'
  below : iN B w
  up : ∀ b, B.W.heap.size ≤ b → A b
  jH : rj B s ad
section
variable {B : eH} {A : Nat → Prop} {s : aA} {ad : Nat → Nat} {a : Act} {w w' : World}
theorem aA.WJ (s : aA) (dst : Option Nat) (v : ah) (A : Nat → Prop) (ad : Nat → Nat) : (s.put dst v).free A ad = s.free A ad := by cases dst <;> rfl
theorem aA.xo (s : aA) (dst : Option Nat) (v : ah) : (s.put dst v).mem = s.mem := by cases dst <;> rfl
theorem aA.sq (s : aA) (dst : Option Nat) (v : ah) : (s.put dst v).n = s.n := by cases dst <;> rfl
theorem Rel.put {dst : Option Nat} {av : ah} {v : Value} (h : Rel B A s ad a w) (hd : ∀ d, dst = some d → d < s.n) (hv : da (s.free A ad) ad w av v) : Rel B A (s.put dst av) ad (a.put dst v) w := by
  cases dst with
  | none => exact h
  | some d =>
    have bg := hd d rfl;refine ⟨h.pT, by simp [aA.put, Act.put, h.size], fun t bv aB => ?_, h.dn, h.inj, h.below, h.up, h.jH⟩;simp only [aA.put] at aB
    by_cases e : t = d
    · subst e
      rw [cx] at aB;cases aB;exact ⟨v, by simp [Act.put, h.size, bg], hv⟩
    · rw [cl _ _ e] at aB
      obtain ⟨u, h1, h2⟩ := h.hf t bv aB;exact ⟨u, by simp only [Act.put]; rw [Array.getElem?_setIfInBounds_ne (Ne.symm e)]; exact h1, h2⟩
theorem Rel.lt {k : Nat} {cs : List AC} (h : Rel B A s ad a w) (af : s.mem k = some cs) : ad k < w.heap.size := by
  obtain ⟨vs, ty, h1, _⟩ := h.dn k cs af;exact (jv.1 h1).1
theorem Rel.call (h : Rel B A s ad a w) (ab : Below w.heap.size w w') : Rel B A s ad a w' := by
  have dx : ∀ b, s.free A ad b → b < w.heap.size → s.free A ad b ∧ w'.heap[b]? = w.heap[b]? := fun b c4 ak => ⟨c4, ab.block b ak⟩;refine ⟨h.pT, h.size, fun t av aB => ?_, fun k cs af => ?_, h.inj, h.below.then ab, h.up, h.jH⟩
  · obtain ⟨v, h1, h2⟩ := h.hf t av aB
    exact ⟨v, h1, h2.map dx fun _ _ => rfl⟩
  · obtain ⟨vs, ty, h1, h2, an⟩ := h.dn k cs af
    exact ⟨vs, ty, by rw [ab.block _ (h.lt af)]; exact h1, h2.map dx fun _ _ _ _ => rfl, an⟩
theorem Rel.new {d : Nat} {cs : List AC} {vs : List Value} {ty : TypeId} (h : Rel B A s ad a w) (ok : s.cE) (fY : d < s.n) (hm : s.mem d = none) (hv : bL (s.free A ad) ad w cs vs) (dT : ∀ x ∈ cs, ∀ j, x.owns j → ∃ au, s.mem j = some au) :
    Rel B A (s.eh d cs) (fun k => if k = d then w.heap.size else ad k) a (w.alloc (.cells vs.toArray ty)) := by
  have bU : ∀ k au, s.mem k = some au → k ≠ d := fun k au af e => by subst e; rw [hm] at af; cases af
  have dx : ∀ b, s.free A ad b → b < w.heap.size → (s.eh d cs).free A (fun k => if k = d then w.heap.size else ad k) b ∧ (w.alloc (.cells vs.toArray ty)).heap[b]? = w.heap[b]? := by
    intro b ab ak;refine ⟨⟨ab.1, fun k au af => ?_⟩, Below.heap_alloc _ _ _ ak⟩;simp only [aA.eh] at af
    by_cases e : k = d
    · subst e; simp; omega
    · rw [cl _ _ e] at af
      simp only [e, if_false];exact ab.2 k au af
  have cp : ∀ j, (∃ au, s.mem j = some au) → (if j = d then w.heap.size else ad j) = ad j := fun j ⟨au, ae⟩ => by rw [if_neg (bU j au ae)]
  refine ⟨h.pT, h.size, fun t av aB => ?_, fun k au af => ?_, fun k k' c1 c2 af eL e => ?_, h.below.then ((Below.refl _ _).alloc (dJ _) _), h.up, fun k b af => ?_⟩
  · obtain ⟨v, h1, h2⟩ := h.hf t av aB
    exact ⟨v, h1, h2.map dx fun j ae => cp j (ok.hf t av j aB ae)⟩
  · simp only [aA.eh] at af
    by_cases e : k = d
    · subst e
      rw [cx] at af;cases af;refine ⟨vs, ty, ?_, hv.map dx fun j x aa ae => cp j (dT x aa j ae), ?_⟩
      · show (w.heap.push _)[if k = k then w.heap.size else ad k]? = _; simp
      · simp only [if_true]; exact fun ar => by have := B.lt _ ar; have := h.below.size; omega
    · rw [cl _ _ e] at af
      obtain ⟨us, t, h1, h2, an⟩ := h.dn k au af;refine ⟨us, t, ?_, h2.map dx fun j x aa ae => cp j (ok.dn k au x j af aa ae), ?_⟩
      · simp only [e, if_false]; rw [Below.heap_alloc _ _ _ (h.lt af)]; exact h1
      · simp only [e, if_false]; exact an
  · simp only [aA.eh] at af eL
    by_cases aF : k = d <;> by_cases aM : k' = d
    · rw [aF, aM]
    · rw [cl _ _ aM] at eL
      have := h.lt eL;simp [aF, aM] at e;omega
    · rw [cl _ _ aF] at af
      have := h.lt af;simp [aF, aM] at e;omega
    · rw [cl _ _ aF] at af
      rw [cl _ _ aM] at eL;simp [aF, aM] at e;exact h.inj k k' _ _ af eL e
  · obtain ⟨h1, h2⟩ := h.jH k b af
    refine ⟨h1, ?_⟩;rw [if_neg (fun e => by subst e; exact absurd fY (Nat.not_lt.2 h1))];exact h2
theorem Rel.set {k : Nat} {cs ds : List AC} {us : List Value} (h : Rel B A s ad a w) (af : s.mem k = some cs) (hv : bL (s.free A ad) ad w ds us) : Rel B A (s.eh k ds) ad a (w.setRow (ad k) us.toArray) := by
  have jP : (s.eh k ds).free A ad = s.free A ad := by
    funext b;apply propext
    constructor
    · rintro ⟨de, ab⟩
      refine ⟨de, fun j au ae => ?_⟩
      by_cases e : j = k
      · subst e; exact ab j ds (by simp [aA.eh, cx])
      · exact ab j au (by simp only [aA.eh]; rw [cl _ _ e]; exact ae)
    · rintro ⟨de, ab⟩
      refine ⟨de, fun j au ae => ?_⟩;simp only [aA.eh] at ae
      by_cases e : j = k
      · subst e; exact ab j cs af
      · rw [cl _ _ e] at ae; exact ab j au ae
  obtain ⟨vs, ty, g1, g2, g3⟩ := h.dn k cs af;have np : (w.setRow (ad k) us.toArray).heap[ad k]? = some (.cells us.toArray ty (0, 0)) := setRow_heap w (ad k) vs.toArray us.toArray ty (0, 0) g1
  have vi : ∀ b, b ≠ ad k → (w.setRow (ad k) us.toArray).heap[b]? = w.heap[b]? := fun b ab => by
    simp only [World.setRow, uc]; rw [if_neg (Ne.symm ab)]
  have dx : ∀ b, s.free A ad b → b < w.heap.size → s.free A ad b ∧ (w.setRow (ad k) us.toArray).heap[b]? = w.heap[b]? := fun b ab _ => ⟨ab, vi b (Ne.symm (ab.2 k cs af))⟩;refine ⟨h.pT, h.size, fun t av aB => ?_, fun j au ae => ?_, fun j eS c1 c2 ae jQ e => ?_, ?_, h.up, h.jH⟩
  · obtain ⟨v, h1, h2⟩ := h.hf t av aB
    exact ⟨v, h1, by rw [jP]; exact h2.map dx fun _ _ => rfl⟩
  · simp only [aA.eh] at ae
    rw [jP]
    by_cases e : j = k
    · subst e
      rw [cx] at ae;cases ae;exact ⟨us, ty, np, hv.map dx fun _ _ _ _ => rfl, g3⟩
    · rw [cl _ _ e] at ae
      obtain ⟨vV, agR, h1, h2, an⟩ := h.dn j au ae;exact ⟨vV, agR, by rw [vi _ (fun bq => e (h.inj j k _ _ ae af bq))]; exact h1, h2.map dx fun _ _ _ _ => rfl, an⟩
  · have hold : ∀ i c, (s.eh k ds).mem i = some c → ∃ c', s.mem i = some c' := fun i c hi => by
      simp only [aA.eh] at hi
      by_cases e : i = k
      · exact ⟨cs, by rw [e]; exact af⟩
      · rw [cl _ _ e] at hi; exact ⟨c, hi⟩
    obtain ⟨d1, q1⟩ := hold j c1 ae;obtain ⟨d2, q2⟩ := hold eS c2 jQ;exact h.inj j eS _ _ q1 q2 e
  · exact ⟨h.below.os, h.below.tape, h.below.output, by have := h.below.size; simpa [World.setRow] using this, fun b ab => (vi b (fun e => by subst e; exact g3 ab)).trans (h.below.block b ab)⟩
end
def ah.closed (x : ah) : Prop := ∀ j, ¬ x.owns j
def kb (U : Nat → Prop) (ad : Nat → Nat) (W : World) (xs : List ah) (vs : List Value) : Prop :=
  xs.length = vs.length ∧ ∀ (i : Nat) (x : ah) (v : Value), xs[i]? = some x → vs[i]? = some v → da U ad W x v
structure aC (P : Program) (f : FuncId) (args : List ah) (r : ah) : Prop where
  jI : ∀ x ∈ args, x.closed
  bW : r.closed
  call : ∀ (U : Nat → Prop) (W : World) (vs : List Value), kb U id W args vs →
    Calls P f vs.toArray W fun e bh => ∃ v, e = .returned v ∧ da (fun b => U b ∨ W.heap.size ≤ b) id bh r v ∧ Below W.heap.size W bh
structure wh (P : Program) (look : Operand → Option ah) (o : Oper) (av : ah) : Prop where
  afN : ∀ cs b, o.op ≠ .select cs b
  ops : ∀ x ∈ o.op.operands, ∃ a, look x = some a
  run : ∀ (U : Nat → Prop) (ad : Nat → Nat) (W : World) (env : Operand → Value), (∀ x ∈ o.op.operands, ∀ a, look x = some a → da U ad W a (env x)) →
    ∃ v, (execOp env o).run P W = .ok (.value v) W ∧ da U ad W av v
  own : ∀ j, av.owns j → ∃ x ∈ o.op.operands, ∃ a, look x = some a ∧ a.owns j
def pick (P : Program) (ty : TypeId) (cs : List AC) (off : Nat) : Option bz :=
  match P.underlying ty with
  | some (.struct _) | some (.array _ _) => (P.info? ty).bind fun i => if off + i.size ≤ cs.length then some (.agg ((cs.drop off).take i.size)) else none
  | some _ => (cs[off]?).map .one
  | none => none
def eD (cs : List AC) (off : Nat) (ds : List AC) : List AC := cs.take off ++ ds ++ cs.drop (off + ds.length)
inductive uC (P : Program) (look : Operand → Option ah) (o : Oper) : List AC → Prop
  | alloc (ty : TypeId) (i : TypeInfo) (z : Value) (cs : List AC) (az : o.op = .alloc ty) (hi : P.info? ty = some i) (aP : i.zero = some z) (aj : cs = z.cells.toList.map .c) (h1 : (z.cells.toList.all fun v => v.oneCell') = true) : uC P look o cs
  | box (ty : TypeId) (x : Operand) (z : bz) (az : o.op = .box ty x) (aa : look x = some (.w z)) : uC P look o z.cells
def enters (P : Program) (f : FuncId) : Bool := match P.funcs[f]? with
  | some fn => fn.body.isSome && fn.name != "runtime.NumGoroutine"
  | none => false
def Bz : Value → Bool
  | .agg cs => cs.toList.all fun v => v.oneCell'
  | .tuple _ => false
  | _ => true
def Fl (w : World) : AC → Value → Nat → Prop
  | .p R, x, b => R.kX w x b
  | _, _, _ => False
def pf (fn : Fn) (cs : List AC) : e0 where
  holds w v := ∃ vs : List Value, v = .func fn #[] vs.toArray ∧ bL (fun _ => True) id w cs vs ∧ ∀ x ∈ cs, ∀ j, ¬ x.owns j
  kX w v b := ∃ vs : List Value, v = .func fn #[] vs.toArray ∧ ∃ (i : Nat) (x : AC) (u : Value), cs[i]? = some x ∧ vs[i]? = some u ∧ Fl w x u b
  frame w w' v := by
    rintro ⟨vs, rfl, ak, aj⟩ ar
    have key : ∀ (i : Nat) (x : AC) (u : Value), cs[i]? = some x → vs[i]? = some u → gh (fun _ => True) id w' x u ∧ ∀ b, Fl w' x u b → Fl w x u b := by
      intro i x u aa hu;have h := ak.2 i x u aa hu;cases x with
      | c y => exact ⟨h, fun b ab => ab⟩
      | own k o => exact ⟨h, fun b ab => ab⟩
      | p R =>
        have := R.frame w w' u h.1 fun b ab => ar b ⟨vs, rfl, i, _, u, aa, hu, ab⟩;exact ⟨⟨this.1, fun _ _ => trivial⟩, this.2⟩
    refine ⟨⟨vs, rfl, ⟨ak.1, fun i x u aa hu => (key i x u aa hu).1⟩, aj⟩, ?_⟩;rintro b ⟨vV, e, i, x, u, aa, hu, ab⟩;have bq : vs = vV := by simpa using e
    subst bq;exact ⟨vs, rfl, i, x, u, aa, hu, (key i x u aa hu).2 b ab⟩
  ir w v b := by
    rintro ⟨vs, rfl, ak, aj⟩ ⟨vV, e, i, x, u, aa, hu, ab⟩;have bq : vs = vV := by simpa using e
    subst bq;have h := ak.2 i x u aa hu;cases x with
    | p R => exact R.ir _ _ _ h.1 ab
    | c y => cases ab
    | own k o => cases ab
  cell w v := by rintro ⟨vs, rfl, _⟩; rfl
theorem pf.Vh {U : Nat → Prop} {ad : Nat → Nat} {w : World} {v : Value} {fn : Fn} {cs : List AC} (h : gh U ad w (.p (pf fn cs)) v) : ∃ vs : List Value, v = .func fn #[] vs.toArray ∧ bL U id w cs vs := by
  obtain ⟨⟨vs, rfl, ak, aj⟩, ar⟩ := h;refine ⟨vs, rfl, ak.1, fun i x u aa hu => ?_⟩;have h := ak.2 i x u aa hu;cases x with
  | c y => exact h
  | own k o => exact h
  | p R => exact ⟨h.1, fun b ab => ar b ⟨vs, rfl, i, _, u, aa, hu, ab⟩⟩
structure sQ (P : Program) (look : Operand → Option ah) (o : Oper) (f : FuncId) (args : List ah) : Prop where
  ex : ∃ c g, o.op = .call c ∧ c.callee = .value g ∧
    ((∃ bs : List Value, look g = some (.w (.one (.c (.func (.func f) bs.toArray #[])))) ∧ bs.map (fun b => some (xw b)) ++ c.args.toList.map look = args.map some ∧ bs.all Bz = true) ∨
     ∃ cs : List AC, look g = some (.w (.one (.p (pf (.func f) cs)))) ∧ c.args.toList.map look ++ cs.map (fun x => some (.w (.one x))) = args.map some)
  enters : enters P f = true
structure v8 (P : Program) (look : Operand → Option ah) (o : Oper) (av : ah) : Prop where
  ops : ∀ x ∈ o.op.operands, ∃ a, look x = some a
  pw : av.closed
  run : ∀ (U : Nat → Prop) (ad : Nat → Nat) (W : World) (env : Operand → Value), (∀ x ∈ o.op.operands, ∀ a, look x = some a → da U ad W a (env x)) →
    ∃ v bh, (execOp env o).run P W = .ok (.value v) bh ∧ da (fun b => U b ∨ W.heap.size ≤ b) ad bh av v ∧ Below W.heap.size W bh
inductive lc (P : Program) (s : aA) (o : Oper) : aA → Prop
  | fresh (av : ah) (al : v8 P s.look o av) (hd : ∀ d, o.dst = some d → d < s.n) : lc P s o (s.put o.dst av)
  | quiet (av : ah) (al : wh P s.look o av) (hd : ∀ d, o.dst = some d → d < s.n) : lc P s o (s.put o.dst av)
  | load (ty : TypeId) (x : Operand) (k off : Nat) (cs : List AC) (av : bz) (az : o.op = .load ty x) (aa : s.look x = some (.w (.one (.own k off)))) (hm : s.mem k = some cs) (hv : pick P ty cs off = some av) (hd : ∀ d, o.dst = some d → d < s.n) : lc P s o (s.put o.dst (.w av))
  | store (ty : TypeId) (x y : Operand) (k off : Nat) (cs : List AC) (z : bz) (i : TypeInfo) (az : o.op = .store ty x y) (aa : s.look x = some (.w (.one (.own k off)))) (ai : s.look y = some (.w z)) (hm : s.mem k = some cs) (hi : P.info? ty = some i) (hs : i.size = z.cells.length) (ab : off + z.cells.length ≤ cs.length) (hd : ∀ d, o.dst = some d → d < s.n) : lc P s o ((s.put o.dst (.cr [])).eh k (eD cs off z.cells))
  | new (cs : List AC) (d : Nat) (dG : o.dst = some d) (hm : s.mem d = none) (ax : uC P s.look o cs) (hd : d < s.n) : lc P s o ((s.eh d cs).put (some d) (.w (.one (.own d 0))))
  | call (f : FuncId) (args : List ah) (r : ah) (aj : sQ P s.look o f args) (hp : aC P f args r) (hd : ∀ d, o.dst = some d → d < s.n) : lc P s o (s.put o.dst r)
section
variable {P : Program} {B : eH} {A : Nat → Prop} {s s' : aA} {ad : Nat → Nat} {a : Act} {w : World} {o : Oper} {Q : Exit → Act → World → Prop}
theorem da.undef (U : Nat → Prop) : da U ad w (.cr []) undef := ⟨[], rfl, rfl, fun i x v h => by simp at h⟩
theorem Rel.look {x : Operand} {av : ah} (h : Rel B A s ad a w) (aa : s.look x = some av) : da (s.free A ad) ad w av (a.eval x) := by
  cases x with
  | tmp t =>
    obtain ⟨v, h1, h2⟩ := h.hf t av aa;have : a.eval (.tmp t) = v := by simp [Act.eval, Array.getD_eq_getD_getElem?, h1]
    rw [this]; exact h2
  | const v =>
    simp only [aA.look] at aa
    split at aa
    · rename_i h1; cases aa; exact ⟨rfl, h1⟩
    · cases aa
  | global g => cases aa; exact ⟨rfl, rfl⟩
  | func f => cases aa; exact ⟨rfl, rfl⟩
theorem bL.cellAt {U : Nat → Prop} {W : World} {xs : List AC} {vs : List Value} {g : Nat} {ty : TypeId} (h : bL U ad W xs vs) (aq : W.heap[g]? = some (.cells vs.toArray ty (0, 0))) {i : Nat} {x : AC} (hi : xs[i]? = some x) :
    ∃ v, vs[i]? = some v ∧ W.cell? ⟨g, i, none⟩ = some v ∧ gh U ad W x v := by
  have bg : i < vs.length := by
    rw [← h.1];rcases hz i xs.length with q | q
    · exact q
    · rw [k7 q] at hi; cases hi
  refine ⟨vs[i], bN bg, ?_, h.2 i x _ hi (bN bg)⟩;simp [World.cell?, aq, bg]
theorem bL.sub {U : Nat → Prop} {W : World} {xs : List AC} {vs : List Value} (h : bL U ad W xs vs) (off n : Nat) : bL U ad W ((xs.drop off).take n) ((vs.drop off).take n) := by
  refine ⟨by simp [h.1], fun i x v aa hv => ?_⟩;rw [List.getElem?_take] at aa hv
  split at aa
  · rename_i bg
    rw [if_pos bg] at hv;rw [fV] at aa hv;exact h.2 _ x v aa hv
  · cases aa
theorem bL.eD {U : Nat → Prop} {W : World} {xs ds : List AC} {vs us : List Value} (h : bL U ad W xs vs) (hd : bL U ad W ds us) (off : Nat) (ab : off + ds.length ≤ xs.length) : bL U ad W (eD xs off ds) (vs.take off ++ us ++ vs.drop (off + us.length)) := by
  have aF := h.1;have aM := hd.1;refine ⟨by simp [Proofs.YtbcecodakfejaaaGreat.eD, aF, aM], fun i x v aa hv => ?_⟩;unfold Proofs.YtbcecodakfejaaaGreat.eD at aa;have cM : (xs.take off).length = off := by simp; omega
  have C2 : (vs.take off).length = off := by simp; omega
  by_cases h1 : i < off
  · rw [iu, gd (by omega), fE h1] at aa
    rw [iu, gd (by omega), fE h1] at hv;exact h.2 i x v aa hv
  · by_cases h2 : i < off + ds.length
    · rw [iu, gz (by omega), gd (by omega), cM] at aa
      rw [iu, gz (by omega), gd (by omega), C2] at hv;exact hd.2 _ x v aa hv
    · rw [gz (by simp; omega), fV] at aa hv
      simp only [cJ, cM, C2] at aa hv;rw [← aM] at hv;have e : off + ds.length + (i - (off + ds.length)) = i := by omega
      rw [e] at aa hv;exact h.2 i x v aa hv
theorem ID {ty : TypeId} {A : Addr} {v : Value} {d : TypeDesc} (hu : P.underlying ty = some d) (hs : ∀ bi, d ≠ .struct bi) (aJ : ∀ n e, d ≠ .array n e) (aj : w.cell? A = some v) : (loadVar ty A).run P w = .ok v w := by
  have h1 : (isAgg ty).run P w = .ok false w := by
    unfold isAgg;simp only [Sem.run_bind, run_underlying hu, Result.andThen_ok];cases d <;> first | rfl | (exact absurd rfl (hs _)) | (exact absurd rfl (aJ _ _))
  unfold loadVar;simp only [Sem.run_bind, h1, Result.andThen_ok, nD, if_false];simp [load, Sem.run, aj]
theorem hB {ty : TypeId} {i : TypeInfo} (hi : P.info? ty = some i) : (sizeOf ty).run P w = .ok i.size w := by
  simp [sizeOf, typeInfo, program, Sem.run_bind, Sem.run, hi, Result.andThen]
theorem IC {ty : TypeId} {A : Addr} {vs : List Value} {i : TypeInfo} {d : TypeDesc} (hu : P.underlying ty = some d) (hd : (∃ bi, d = .struct bi) ∨ ∃ n e, d = .array n e) (hi : P.info? ty = some i) (ak : vs.length = i.size) (aj : ∀ j v, vs[j]? = some v → w.cell? (A.add j) = some v) :
    (loadVar ty A).run P w = .ok (.agg vs.toArray) w := by
  have h1 : (isAgg ty).run P w = .ok true w := by
    unfold isAgg;simp only [Sem.run_bind, run_underlying hu, Result.andThen_ok];rcases hd with ⟨bi, rfl⟩ | ⟨n, e, rfl⟩ <;> rfl
  unfold loadVar;simp only [Sem.run_bind, h1, Result.andThen_ok, if_true, hB hi, ← ak, run_loadCells_list w A vs aj];rfl
end
section
variable {P : Program} {B : eH} {A : Nat → Prop} {s s' : aA} {ad : Nat → Nat} {a : Act} {w : World} {o : Oper} {Q : Exit → Act → World → Prop}
theorem Qh {U : Nat → Prop} {ty : TypeId} {cs : List AC} {off g : Nat} {av : bz} {vs : List Value} {t : TypeId} (hv : pick P ty cs off = some av) (aq : w.heap[g]? = some (.cells vs.toArray t (0, 0))) (ak : bL U ad w cs vs) :
    ∃ v, (loadVar ty ⟨g, off, none⟩).run P w = .ok v w ∧ fX U ad w av v := by
  unfold pick at hv
  have key : ∀ d, P.underlying ty = some d → ((∃ bi, d = .struct bi) ∨ ∃ n e, d = .array n e) → ((P.info? ty).bind fun i => if off + i.size ≤ cs.length then some (bz.agg ((cs.drop off).take i.size)) else none) = some av → ∃ v, (loadVar ty ⟨g, off, none⟩).run P w = .ok v w ∧ fX U ad w av v := by
    intro d hu hd h;cases hi : P.info? ty with
    | none => rw [hi] at h; cases h
    | some i =>
      rw [hi] at h;simp only [ks] at h
      split at h
      · rename_i hle
        cases h;have hs := ak.sub off i.size;have hlen : ((vs.drop off).take i.size).length = i.size := by have := ak.1; simp; omega
        refine ⟨_, IC hu hd hi hlen (fun j v ae => ?_), _, rfl, hs⟩;have jQ : j < i.size := by rw [← hlen]; exact (bM.1 ae).1
        rw [fE jQ, fV] at ae;have kC : (⟨g, off, none⟩ : Addr).add j = ⟨g, off + j, none⟩ := by unfold Addr.add; split <;> simp_all
        rw [kC];simp only [World.cell?, aq];simpa using ae
      · cases h
  have Hr : ∀ d, P.underlying ty = some d → (∀ bi, d ≠ .struct bi) → (∀ n e, d ≠ .array n e) → (cs[off]?).map bz.one = some av → ∃ v, (loadVar ty ⟨g, off, none⟩).run P w = .ok v w ∧ fX U ad w av v := by
    intro d hu h1 h2 h;cases aa : cs[off]? with
    | none => rw [aa] at h; cases h
    | some x =>
      rw [aa] at h;cases h;obtain ⟨v, q1, q2, bO⟩ := ak.cellAt aq aa;exact ⟨v, ID hu h1 h2 q2, bO⟩
  cases hu : P.underlying ty with
  | none => rw [hu] at hv; cases hv
  | some d =>
    rw [hu] at hv;cases d <;> first | exact key _ hu (.inl ⟨_, rfl⟩) hv | exact key _ hu (.inr ⟨_, _, rfl⟩) hv | exact Hr _ hu (fun _ h => by cases h) (fun _ _ h => by cases h) hv
theorem BS {f : FuncId} {args : Array Value} (h : enters P f = true) : (callFunc f args).run P w = .ok (.enter f args) w := by
  unfold enters at h;cases ar : P.funcs[f]? with
  | none => rw [ar] at h; cases h
  | some fn =>
    rw [ar] at h;simp only [dc, bne_iff_ne, ne_eq] at h;obtain ⟨h1, h2⟩ := h;simp [callFunc, program, Sem.run_bind, Sem.run, ar, Result.andThen, h2];intro an;rw [an] at h1;cases h1
def lj (ro : Option Nat) : Fence := { Fence.wide with round := ro }
theorem Vg {ro : Option Nat} {n : Nat} {P : Program} {f : FuncId} {args : Array Value} {w : World} {R : Ending → World → Prop} (h : Calls P f args w R) : CallsIn (lj ro) n P f args w R := callsIn_wide.2 h
theorem aff {ro : Option Nat} {n : Nat} {P : Program} {row : String} {args : Array Value} {w : World} {R : Value → World → Prop} (h : Rows P row args w R) : RowsIn (lj ro) n P row args w R := fun c cs _ => by
  obtain ⟨v, w', ap, hs⟩ := h c cs;exact ⟨v, w', ap, stepsIn_wide.2 hs⟩
theorem xt {P : Program} {ad : Operand → Value} {o : Oper} {w w' : World} {x : Next} (h : (execOp ad o).run P w = .ok x w') (aa : ∀ d, x ≠ .defer d) : ∀ c, o.op ≠ .defer c := fun c aj => by
  simp only [execOp, aj, Sem.run_bind] at h;cases ap : (resolve ad c o.type).run P w with
  | ok d w2 => rw [ap] at h; simp only [Result.andThen_ok, Sem.run_pure, Result.ok.injEq] at h; exact aa d h.1.symm
  | halt r w2 => rw [ap] at h; simp [Result.andThen] at h
theorem Oper.Jf {ro : Option Nat} {n : Nat} {P : Program} {o : Oper} {a : Act} {w : World} {K : Act → World → Prop} {Q : Exit → Act → World → Prop} (h : o.wp P a w K Q) (hd : ∀ c, o.op ≠ .defer c) : o.wpIn (lj ro) n P a w K Q := by
  refine ⟨fun _ _ => trivial, ?_⟩;rw [Oper.semAt_eq _ _ _ hd];unfold Oper.wp at h;generalize (execOp a.eval o).run P w = r at *;have ax : (lj ro).depth.isSome = true → 1 ≤ n := fun h => by simp [lj, Fence.wide] at h
  cases r with
  | ok x w' => cases x <;> first | exact h | exact ⟨ax, Vg h⟩ | exact ⟨ax, aff h⟩ | exact h.elim
  | halt x w' => cases x <;> exact h
def j7 (P : Program) (c : Code) (Q : Exit → Act → World → Prop) (a : Act) (w : World) : Prop := ∀ ro, c.wpIn (lj ro) 0 P Q a w
section
variable {P : Program} {Q JC : Exit → Act → World → Prop} {a : Act} {w : World} {c x y : Code}
theorem j7.top (h : j7 P c Q a w) : c.wp P Q a w := wpIn_wide.1 (h none)
theorem nI (h : j7 P c Q a w) (al : ∀ e a w, Q e a w → JC e a w) : j7 P c JC a w := fun ro => wpIn_mono (h ro) al
theorem Jc (h : j7 P x (Exit.then (j7 P y Q) Q) a w) : j7 P (.seq x y) Q a w := fun ro => wpIn_seq (wpIn_mono (h ro) fun e a w al => by cases e <;> first | exact al ro | exact al)
theorem R1 (h : Q .normal a w) : j7 P .skip Q a w := fun ro => wpIn_skip h
theorem RX {id : Nat} (h : Q (.exit id) a w) : j7 P (.exit id) Q a w := fun ro => wpIn_exit h
theorem RZ (h : Q .ret a w) : j7 P .ret Q a w := fun ro => wpIn_ret h
theorem I9 {c : Operand} {t : Bool} (aj : a.eval c = .bool t) (h : j7 P (if t then x else y) Q a w) : j7 P (.cond c x y) Q a w := fun ro => wpIn_cond aj (h ro)
theorem I8 {id : Nat} (h : j7 P c (Exit.inBlock id Q) a w) : j7 P (.block id c) Q a w := fun ro => wpIn_block (h ro)
theorem Jb {id : Nat} {ops : Array Oper} (h : ∀ ro, wpOpsIn (lj ro) 0 P ops Q (List.range ops.size) a w) : j7 P (.region id ops false) Q a w := fun ro => wpIn_region (h ro)
theorem RY {id : Nat} {ops : Array Oper} (hm : P.follows .mixedOrders = true) (h : ∀ ro, wpAnyIn (lj ro) 0 P .any ops Q ops.size (Array.replicate ops.size false) a { w with drawn := w.drawn + 1 }) : j7 P (.region id ops true) Q a w := fun ro => wpIn_region_any hm (h ro)
end
theorem Oper.um {v : Value} {w' : World} {next : Act → World → Prop} (h : (execOp a.eval o).run P w = .ok (.value v) w') (ax : next (a.put o.dst v) w') : o.wp P a w next Q := by
  unfold Oper.wp;rw [h];exact ax
theorem Rel.NA {U : Nat → Prop} {x : ah} {v : Value} (aj : x.closed) (h : da U ad w x v) : da U id w x v := h.map (fun b ab _ => ⟨ab, rfl⟩) fun j ae => absurd ae (aj j)
theorem Rb {U : Nat → Prop} {v : Value} (h : Bz v = true) : da U ad w (xw v) v := by
  cases v with
  | agg cs =>
    refine ⟨cs.toList, by simp, by simp, fun i x u aa hu => ?_⟩;rw [eg, hu] at aa;cases aa;exact ⟨rfl, cB.1 h u (c7 hu)⟩
  | tuple vs => cases h
  | _ => exact ⟨rfl, rfl⟩
theorem lc.O4 (h : lc P s o s') (aw : Rel B A s ad a w) : ∀ c, o.op ≠ .defer c := by
  cases h with
  | quiet av al hd =>
    obtain ⟨v, h1, h2⟩ := al.run (s.free A ad) ad w a.eval (fun x aa b ab => aw.look ab);exact xt h1 (fun d h => by cases h)
  | fresh av al hd =>
    obtain ⟨v, bh, h1, h2, ab⟩ := al.run (s.free A ad) ad w a.eval (fun x aa b ab => aw.look ab);exact xt h1 (fun d h => by cases h)
  | load ty x k off cs av az => intro c aj; rw [az] at aj; cases aj
  | store ty x y k off cs z i az => intro c aj; rw [az] at aj; cases aj
  | new cs d dG hm ax hd =>
    intro c aj;cases ax with
    | alloc ty i z cs az => rw [az] at aj; cases aj
    | box ty x z az => rw [az] at aj; cases aj
  | call f args r aj hp hd =>
    intro c nU;obtain ⟨⟨c', g, az, _⟩, _⟩ := aj;rw [az] at nU; cases nU
theorem lc.sound (h : lc P s o s') (aw : Rel B A s ad a w) (ok : s.cE) : o.wp P a w (fun a' w' => ∃ aY, Rel B A s' aY a' w') Q := by
  cases h with
  | quiet av al hd =>
    obtain ⟨v, h1, h2⟩ := al.run (s.free A ad) ad w a.eval (fun x aa b ab => aw.look ab);exact Oper.um h1 ⟨ad, aw.put hd h2⟩
  | fresh av al hd =>
    obtain ⟨v, bh, h1, h2, ab⟩ := al.run (s.free A ad) ad w a.eval (fun x aa b ab => aw.look ab);refine Oper.um h1 ⟨ad, (aw.call ab).put hd (h2.map (fun b c4 ak => ⟨?_, rfl⟩) fun j ae => rfl)⟩;rcases c4 with h | h
    · exact h
    · refine ⟨aw.up b (ha aw.below.size h), fun k cs af e => ?_⟩
      have := aw.lt af;omega
  | load ty x k off cs av az aa hm hv hd =>
    obtain ⟨vs, t, g1, g2, g3⟩ := aw.dn k cs hm;obtain ⟨v, h1, h2⟩ := Qh hv g1 g2;have hp : a.eval x = .pointer (some ⟨ad k, off, none⟩) := aw.look aa;refine Oper.um (v := v) (w' := w) ?_ ⟨ad, aw.put hd h2⟩;simp only [execOp, az, Instr.loadAt, hp, Instr.sureAddr, Sem.run_bind, Sem.run_pure, Result.andThen_ok, h1]
  | store ty x y k off cs z i az aa ai hm hi hs ab hd =>
    obtain ⟨vs, t, g1, g2, g3⟩ := aw.dn k cs hm;have hp : a.eval x = .pointer (some ⟨ad k, off, none⟩) := aw.look aa;have aP : fX (s.free A ad) ad w z (a.eval y) := aw.look ai;have oO := aP.cells;have vo : (a.eval y).cells.size = z.cells.length := by have := oO.1; simp at this; exact this.symm
    have iW : (storeVar ty ⟨ad k, off, none⟩ (a.eval y)).run P w = .ok () (w.setRow (ad k) (vs.take off ++ (a.eval y).cells.toList ++ vs.drop (off + (a.eval y).cells.toList.length)).toArray) := by
      unfold storeVar;have bU : ¬ ((a.eval y).cells.size ≠ i.size) := by rw [vo, hs]; simp
      simp only [Sem.run_bind, hB hi, Result.andThen_ok, if_neg bU]
      have dF : ∀ v ∈ (a.eval y).cells.toList, v.oneCell' = true := fun v hv => by
        obtain ⟨j, ae⟩ := j1 hv;have bg : j < z.cells.length := by rw [oO.1]; exact (bM.1 ae).1
        exact (oO.2 j _ v (bN bg) ae).cell
      have := run_storeCells_at (P := P) (ad k) off t (a.eval y).cells.toList 0 vs.toArray w g1 (by have := g2.1; simp; omega) dF;simpa using this
    have hrel := (Rel.set (k := k) (ds := eD cs off z.cells) (aw.put (dst := o.dst) hd (da.undef _)) (by rw [aA.xo]; exact hm) (by rw [aA.WJ]; exact g2.eD oO off ab));unfold Oper.wp
    have fS : (execOp a.eval o).run P w = .ok .skip (w.setRow (ad k) (vs.take off ++ (a.eval y).cells.toList ++ vs.drop (off + (a.eval y).cells.toList.length)).toArray) := by
      simp only [execOp, az, Instr.storeAt, hp, Instr.sureAddr, Sem.run_bind, Sem.run_pure, Result.andThen_ok, iW]
    rw [fS];exact ⟨ad, hrel⟩
  | new cs d dG hm ax hd =>
    have main : ∀ (vs : List Value) (ty : TypeId), bL (s.free A ad) ad w cs vs → (∀ x ∈ cs, ∀ j, x.owns j → ∃ au, s.mem j = some au) → (execOp a.eval o).run P w = .ok (.value (.pointer (some ⟨w.heap.size, 0, none⟩))) (w.alloc (.cells vs.toArray ty)) →
        o.wp P a w (fun a' w' => ∃ aY, Rel B A ((s.eh d cs).put (some d) (.w (.one (.own d 0)))) aY a' w') Q := by
      intro vs ty ak cp fS;refine Oper.um fS ⟨fun k => if k = d then w.heap.size else ad k, ?_⟩;rw [dG];refine (aw.new ok hd hm ak cp).put (fun d' e => by cases e; exact hd) ?_;show Value.pointer _ = Value.pointer _;simp
    cases ax with
    | alloc ty i z cs az hi aP aj h1 =>
      subst aj;refine main z.cells.toList ty ⟨by simp, fun j x v aa hv => ?_⟩ (fun x aa j ae => ?_) ?_
      · rw [eg, hv] at aa
        cases aa;exact ⟨rfl, cB.1 h1 v (c7 hv)⟩
      · obtain ⟨v, _, rfl⟩ := iv.1 aa
        cases ae
      · have sb : (zeroValue ty).run P w = .ok z w := by simp [zeroValue, typeInfo, program, Sem.run_bind, Sem.run, hi, Result.andThen, aP]
        simp only [execOp, az, Instr.alloc, Sem.run_bind, sb, Result.andThen_ok, newVar, newRow, newObj, Sem.run];rfl
    | box ty x z az aa =>
      have aP : fX (s.free A ad) ad w z (a.eval x) := aw.look aa;refine main (a.eval x).cells.toList ty aP.cells (fun y ai j ae => ?_) ?_
      · cases x with
        | tmp t => exact ok.hf t _ j aa ⟨y, ai, ae⟩
        | const v =>
          simp only [aA.look] at aa
          split at aa
          · cases aa; simp [bz.cells] at ai; subst ai; cases ae
          · cases aa
        | global g => cases aa; simp [bz.cells] at ai; subst ai; cases ae
        | func g => cases aa; simp [bz.cells] at ai; subst ai; cases ae
      · simp only [execOp, az, Instr.box, newVar, newRow, newObj, Sem.run_bind, Sem.run, Result.andThen_ok]
        rfl
  | call f args r aj hp hd =>
    obtain ⟨⟨c, g, az, yT, aU⟩, yZ⟩ := aj;have c6 : ∀ {y : Operand} {x : ah}, x ∈ args → s.look y = some x → da (s.free A ad) id w x (a.eval y) := fun {y x} aa ai => Rel.NA (ad := ad) (hp.jI x aa) (aw.look ai)
    obtain ⟨us, cL, fS⟩ : ∃ us : List Value, kb (s.free A ad) id w args us ∧ (execOp a.eval o).run P w = .ok (.enter f us.toArray) w := by
      rcases aU with ⟨bs, aq, oD, w4⟩ | ⟨cs, aq, oD⟩
      · have iC : a.eval g = .func (.func f) bs.toArray #[] := (aw.look aq).1
        refine ⟨bs ++ c.args.toList.map a.eval, ?_, ?_⟩
        · refine ⟨by have := congrArg List.length oD; simpa using this.symm, fun i x v aa hv => ?_⟩
          have h1 : (bs.map (fun b => some (xw b)) ++ c.args.toList.map s.look)[i]? = some (some x) := by rw [oD, eg, aa]; rfl
          rcases hz i bs.length with bg | kE
          · rw [gd (by simpa using bg), eg] at h1
            rw [gd bg] at hv;rw [hv] at h1;simp only [gL, h0] at h1;subst h1;exact Rb (cB.1 w4 v (c7 hv))
          · rw [gz (by simpa using kE), eg] at h1
            rw [gz kE, eg] at hv;simp only [mP] at h1;cases ai : c.args.toList[i - bs.length]? with
            | none => rw [ai] at hv; cases hv
            | some y =>
              rw [ai] at h1 hv;simp only [gL, h0] at h1 hv;subst hv;exact c6 (c7 aa) h1
        · have e : bs.toArray ++ c.args.map a.eval ++ #[] = (bs ++ c.args.toList.map a.eval).toArray := by
            rw [Array.append_empty];apply Array.ext';simp
          simp only [execOp, az, resolve, yT, Deferred.ofValue, iC];simp only [Sem.run_bind, Sem.run_pure, Result.andThen_ok, invoke];rw [e];exact BS yZ
      · obtain ⟨vs, iC, cZ⟩ := pf.Vh (ad := ad) (aw.look aq)
        refine ⟨c.args.toList.map a.eval ++ vs, ?_, ?_⟩
        · refine ⟨by have := congrArg List.length oD; have h2 := cZ.1; simp at this ⊢; omega, fun i x v aa hv => ?_⟩
          have h1 : (c.args.toList.map s.look ++ cs.map (fun x => some (.w (.one x))))[i]? = some (some x) := by rw [oD, eg, aa]; rfl
          rcases hz i c.args.toList.length with bg | kE
          · rw [gd (by simpa using bg), eg] at h1
            rw [gd (by simpa using bg), eg] at hv;cases ai : c.args.toList[i]? with
            | none => rw [ai] at hv; cases hv
            | some y =>
              rw [ai] at h1 hv;simp only [gL, h0] at h1 hv;subst hv;exact c6 (c7 aa) h1
          · rw [gz (by simpa using kE), eg] at h1
            rw [gz (by simpa using kE)] at hv;simp only [mP] at h1 hv;cases ai : cs[i - c.args.toList.length]? with
            | none => rw [ai] at h1; cases h1
            | some y =>
              rw [ai] at h1;simp only [gL, h0] at h1;subst h1;exact cZ.2 _ y v ai hv
        · have e : (#[] : Array Value) ++ c.args.map a.eval ++ vs.toArray = (c.args.toList.map a.eval ++ vs).toArray := by
            apply Array.ext';simp
          simp only [execOp, az, resolve, yT, Deferred.ofValue, iC];simp only [Sem.run_bind, Sem.run_pure, Result.andThen_ok, invoke];rw [e];exact BS yZ
    unfold Oper.wp;rw [fS];refine (hp.call (s.free A ad) w _ cL).mono ?_;rintro e w' ⟨v, rfl, hv, ab⟩;refine ⟨ad, (aw.call ab).put hd (hv.map (fun b c4 ak => ⟨?_, rfl⟩) fun j ae => absurd ae (hp.bW j))⟩;rcases c4 with h | h
    · exact h
    · refine ⟨aw.up b (ha aw.below.size h), fun k cs af e => ?_⟩
      have := aw.lt af;omega
end
def agY : ah := .cr []
def want (ops : Array Oper) (o : Oper) (s : aA) : Option Bool :=
  match o.guard with
  | none => some true
  | some (g, b) =>
    match (ops[g]?).bind (·.dst) with
    | some d => match s.tmps d with
      | some (.w (.one (.c (.bool x)))) => some (some x == some b)
      | some (.cr _) => some false
      | _ => none
    | none => none
def l4 (o : Oper) : Nat :=
  match o.op with
  | .load .. => 1
  | .store .. => 2
  | _ => 0
def vx (x y : Oper) : Bool := !(l4 x == 2 && l4 y != 0) && !(l4 x != 0 && l4 y == 2)
def addrOf (o : Oper) : Option Operand :=
  match o.op with
  | .load _ x => some x
  | .store _ x _ => some x
  | _ => none
def yq : ah → ah → Bool
  | .w (.one (.own k _)), .w (.one (.own j _)) => !Nat.beq k j
  | .w (.one (.own _ _)), .w (.one (.p _)) => true
  | .w (.one (.p _)), .w (.one (.own _ _)) => true
  | _, _ => false
theorem Fc {k j o p : Nat} (h : yq (.w (.one (.own k o))) (.w (.one (.own j p))) = true) : k ≠ j := fun e => by
  subst e;simp [yq, Nat.beq_refl] at h
def ya (s : aA) (x y : Oper) : Prop := vx x y = true ∨ ∃ a b u v, addrOf x = some a ∧ addrOf y = some b ∧ s.look a = some u ∧ s.look b = some v ∧ yq u v = true
section
variable {P : Program} {B : eH} {A : Nat → Prop} {s s1 s2 s' : aA} {ad : Nat → Nat} {a : Act} {w : World} {o bo bw : Oper} {ops : Array Oper}
theorem Oi {x : Operand} {dst : Option Nat} {v : ah} (h : ∀ d, dst = some d → x ≠ .tmp d) : (s.put dst v).look x = s.look x := by
  cases dst with
  | none => rfl
  | some d =>
    cases x with
    | tmp t => simp only [aA.look, aA.put]; exact cl _ _ (fun e => h d rfl (by rw [e]))
    | _ => rfl
theorem aaN {x : Operand} {k : Nat} {cs : List AC} : (s.eh k cs).look x = s.look x := by cases x <;> rfl
theorem wh.congr {look gx : Operand → Option ah} {av : ah} (h : wh P look o av) (e : ∀ x ∈ o.op.operands, gx x = look x) : wh P gx o av :=
  ⟨h.afN, fun x aa => by rw [e x aa]; exact h.ops x aa, fun U ad W env he => h.run U ad W env fun x aa a aJ => he x aa a (by rw [e x aa]; exact aJ), fun j ae => by
    obtain ⟨x, aa, a, aJ, Xu⟩ := h.own j ae;exact ⟨x, aa, a, by rw [e x aa]; exact aJ, Xu⟩⟩
theorem v8.congr {look gx : Operand → Option ah} {av : ah} (h : v8 P look o av) (e : ∀ x ∈ o.op.operands, gx x = look x) : v8 P gx o av :=
  ⟨fun x aa => by rw [e x aa]; exact h.ops x aa, h.pw, fun U ad W env he => h.run U ad W env fun x aa a aJ => he x aa a (by rw [e x aa]; exact aJ)⟩
theorem uC.congr {look gx : Operand → Option ah} {cs : List AC} (h : uC P look o cs) (e : ∀ x ∈ o.op.operands, gx x = look x) : uC P gx o cs := by
  cases h with
  | alloc ty i z cs az hi aP aj h1 => exact .alloc ty i z cs az hi aP aj h1
  | box ty x z az aa => exact .box ty x z az (by rw [e x (by simp [az, Op.operands])]; exact aa)
theorem sQ.congr {look gx : Operand → Option ah} {f : FuncId} {args : List ah} (h : sQ P look o f args) (e : ∀ x ∈ o.op.operands, gx x = look x) : sQ P gx o f args := by
  obtain ⟨⟨c, g, az, aj, aU⟩, he⟩ := h;have BQ : gx g = look g := e g (by simp [az, Op.operands, Call.operands, aj]);have iz : c.args.toList.map gx = c.args.toList.map look := nE fun x aa => e x (by simp [az, Op.operands, Call.operands, aj]; exact .inr (by simpa using aa));refine ⟨⟨c, g, az, aj, ?_⟩, he⟩;rcases aU with ⟨bs, aq, aJ, ab⟩ | ⟨cs, aq, aJ⟩
  · exact .inl ⟨bs, by rw [BQ]; exact aq, by rw [iz]; exact aJ, ab⟩
  · exact .inr ⟨cs, by rw [BQ]; exact aq, by rw [iz]; exact aJ⟩
theorem aA.put_comm (s : aA) {x y : Option Nat} (v u : ah) (h : ∀ d, x = some d → y ≠ some d) : (s.put x v).put y u = (s.put y u).put x v := by
  cases x with
  | none => rfl
  | some d =>
    cases y with
    | none => rfl
    | some e =>
      have bU : e ≠ d := fun he => h d rfl (by rw [he]);simp only [aA.put];rw [RR _ _ _ bU]
theorem aA.xD (s : aA) (x : Option Nat) (v : ah) (k : Nat) (cs : List AC) : (s.put x v).eh k cs = (s.eh k cs).put x v := by cases x <;> rfl
theorem aA.afP (s : aA) {k j : Nat} (cs ds : List AC) (h : j ≠ k) : (s.eh k cs).eh j ds = (s.eh j ds).eh k cs := by
  simp only [aA.eh];rw [RR _ _ _ h]
structure cm where
  v : ah
  m : Option (Nat × List AC)
def cm.on (e : cm) (dst : Option Nat) (s : aA) : aA :=
  match e.m with
  | some (k, cs) => (s.eh k cs).put dst e.v
  | none => s.put dst e.v
inductive eX (P : Program) (n : Nat) (look : Operand → Option ah) (mem : Nat → Option (List AC)) (o : Oper) : Bool → cm → Prop
  | skip : eX P n look mem o false ⟨.cr [], none⟩
  | quiet (av : ah) (al : wh P look o av) : eX P n look mem o true ⟨av, none⟩
  | fresh (av : ah) (al : v8 P look o av) : eX P n look mem o true ⟨av, none⟩
  | load (ty : TypeId) (x : Operand) (k off : Nat) (cs : List AC) (av : bz) (az : o.op = .load ty x) (aa : look x = some (.w (.one (.own k off)))) (hm : mem k = some cs) (hv : pick P ty cs off = some av) : eX P n look mem o true ⟨.w av, none⟩
  | store (ty : TypeId) (x y : Operand) (k off : Nat) (cs : List AC) (z : bz) (i : TypeInfo) (az : o.op = .store ty x y) (aa : look x = some (.w (.one (.own k off)))) (ai : look y = some (.w z)) (hm : mem k = some cs) (hi : P.info? ty = some i) (hs : i.size = z.cells.length) (ab : off + z.cells.length ≤ cs.length) : eX P n look mem o true ⟨.cr [], some (k, eD cs off z.cells)⟩
  | new (cs : List AC) (d : Nat) (dG : o.dst = some d) (hm : mem d = none) (ax : uC P look o cs) : eX P n look mem o true ⟨.w (.one (.own d 0)), some (d, cs)⟩
  | call (f : FuncId) (args : List ah) (r : ah) (aj : sQ P look o f args) (hp : aC P f args r) : eX P n look mem o true ⟨r, none⟩
theorem eX.step {e : cm} (h : eX P s.n s.look s.mem o true e) (hd : ∀ d, o.dst = some d → d < s.n) : lc P s o (e.on o.dst s) := by
  cases h with
  | quiet av al => exact .quiet av al hd
  | fresh av al => exact .fresh av al hd
  | load ty x k off cs av az aa hm hv => exact .load ty x k off cs av az aa hm hv hd
  | store ty x y k off cs z i az aa ai hm hi hs ab =>
    have := lc.store (P := P) (s := s) ty x y k off cs z i az aa ai hm hi hs ab hd;rw [aA.xD] at this;exact this
  | new cs d dG hm ax =>
    have := lc.new (P := P) (s := s) cs d dG hm ax (hd d dG);rw [← dG] at this;exact this
  | call f args r aj hp => exact .call f args r aj hp hd
theorem cm.qY (e : cm) (dst : Option Nat) (s : aA) : (e.on dst s).mem = match e.m with | some (k, cs) => bK s.mem k cs | none => s.mem := by
  unfold cm.on
  split
  · rename_i h; rw [aA.xo]; simp [aA.eh]
  · rename_i h; rw [aA.xo]
theorem cm.qX (e : cm) (dst : Option Nat) (s : aA) {x : Operand} (h : ∀ d, dst = some d → x ≠ .tmp d) : (e.on dst s).look x = s.look x := by
  unfold cm.on
  split
  · rw [Oi h, aaN]
  · rw [Oi h]
theorem cm.tT (e : cm) (dst : Option Nat) (s : aA) : (e.on dst s).n = s.n := by
  unfold cm.on
  split
  · rw [aA.sq]; rfl
  · rw [aA.sq]
theorem cm.zW (e f : cm) (x y : Option Nat) (s : aA) (h : ∀ d, x = some d → y ≠ some d) (af : ∀ k cs j ds, e.m = some (k, cs) → f.m = some (j, ds) → j ≠ k) : f.on y (e.on x s) = e.on x (f.on y s) := by
  unfold cm.on;cases he : e.m with
  | none =>
    cases ar : f.m with
    | none => simp only [he, ar]; exact aA.put_comm s _ _ h
    | some q => obtain ⟨j, ds⟩ := q; simp only [he, ar]; rw [aA.xD]; exact aA.put_comm _ _ _ h
  | some p =>
    obtain ⟨k, cs⟩ := p;cases ar : f.m with
    | none => simp only [he, ar]; rw [aA.xD]; exact aA.put_comm _ _ _ h
    | some q =>
      obtain ⟨j, ds⟩ := q;simp only [he, ar];rw [aA.xD, aA.xD, aA.afP s _ _ (af k cs j ds he ar)];exact aA.put_comm _ _ _ h
theorem tJ {x : Operand} {d : Nat} {y : Oper} (h : d ∉ y.looksAt ops) (aa : x ∈ y.op.operands) : x ≠ .tmp d := fun e => h (by
  subst e;exact List.mem_append_left _ (List.mem_filterMap.2 ⟨.tmp d, by simpa using aa, rfl⟩))
theorem eX.swap {b c : Bool} {e f : cm} (ok : s.cE) (he : eX P s.n s.look s.mem bo b e) (ar : eX P (e.on bo.dst s).n (e.on bo.dst s).look (e.on bo.dst s).mem bw c f) (rU : bo.apart ops bw = true) (mD : ya s bo bw) :
    eX P s.n s.look s.mem bw c f ∧ eX P (f.on bw.dst s).n (f.on bw.dst s).look (f.on bw.dst s).mem bo b e ∧ f.on bw.dst (e.on bo.dst s) = e.on bo.dst (f.on bw.dst s) := by
  obtain ⟨a1, a2, a3⟩ := Oper.apart_spec rU;have mI : ∀ x ∈ bw.op.operands, (e.on bo.dst s).look x = s.look x := fun x aa => cm.qX _ _ _ fun d hd => tJ (a1 d hd) aa;have cN := cm.qY e bo.dst s
 
  have vb : ∀ k cs, e.m = some (k, cs) → (∃ au, s.mem k = some au) ∨ s.mem k = none := fun k cs _ => by
    cases h : s.mem k with
    | none => exact .inr rfl
    | some c => exact .inl ⟨c, rfl⟩
  have PD : ∀ x k off, s.look x = some (.w (.one (.own k off))) → ∃ cs, s.mem k = some cs := fun x k off aa => by
    cases x with
    | tmp t => exact ok.hf t _ k aa ⟨.own k off, by simp [bz.cells], rfl⟩
    | const v => simp only [aA.look] at aa; split at aa <;> cases aa
    | global g => cases aa
    | func g => cases aa
 
  have OA : ∀ x k off, addrOf bw = some x → l4 bw ≠ 0 → s.look x = some (.w (.one (.own k off))) → (e.on bo.dst s).mem k = s.mem k := by
    intro x k off Ge Gx aa;rw [cN];cases he with
    | skip => rfl
    | quiet av al => rfl
    | fresh av al => rfl
    | load => rfl
    | call => rfl
    | store ty x' y' k' Pq cs z i az kF ai hm hi hs ab =>
      rcases mD with mD | ⟨a, b, q, p, aJ, c4, iz, lS, bU⟩
      · exfalso
        have : l4 bo = 2 := by simp [l4, az]
        simp [vx, this, Gx] at mD
      · simp only [addrOf, az, h0] at aJ
        subst aJ;rw [kF] at iz;cases iz;rw [Ge] at c4;cases c4;rw [aa] at lS;cases lS;show bK s.mem k' _ k = s.mem k;exact cl _ _ (Ne.symm (Fc bU))
    | new cs d dG hm ax =>
      obtain ⟨c, aj⟩ := PD x k off aa;show bK s.mem d cs k = s.mem k;exact cl _ _ (fun e => by subst e; rw [hm] at aj; cases aj)
  have ni : eX P s.n s.look s.mem bw c f := by
    cases ar with
    | skip => exact .skip
    | quiet av al => exact .quiet av (al.congr fun x aa => (mI x aa).symm)
    | fresh av al => exact .fresh av (al.congr fun x aa => (mI x aa).symm)
    | load ty x k off cs av az aa hm hv =>
      have kF : s.look x = some (.w (.one (.own k off))) := by rw [← mI x (by simp [az, Op.operands])]; exact aa
      exact .load ty x k off cs av az kF (by rw [← OA x k off (by simp [addrOf, az]) (by simp [l4, az]) kF]; exact hm) hv
    | store ty x y k off cs z i az aa ai hm hi hs ab =>
      have kF : s.look x = some (.w (.one (.own k off))) := by rw [← mI x (by simp [az, Op.operands])]; exact aa
      exact .store ty x y k off cs z i az kF (by rw [← mI y (by simp [az, Op.operands])]; exact ai) (by rw [← OA x k off (by simp [addrOf, az]) (by simp [l4, az]) kF]; exact hm) hi hs ab
    | new cs d dG hm ax =>
      refine .new cs d dG ?_ (ax.congr fun x aa => (mI x aa).symm);rw [cN] at hm;cases lr : e.m with
      | none => rw [lr] at hm; exact hm
      | some p =>
        obtain ⟨k, c⟩ := p;rw [lr] at hm
        by_cases ie : d = k
        · subst ie
          change bK s.mem d c d = none at hm
          rw [cx] at hm;cases hm
        · change bK s.mem k c d = none at hm
          rwa [cl _ _ ie] at hm
    | call g args r aj hp => exact .call g args r (aj.congr fun x aa => (mI x aa).symm) hp
  have k1 : ∀ x ∈ bo.op.operands, (f.on bw.dst s).look x = s.look x := fun x aa => cm.qX _ _ _ fun d hd => tJ (a3 d hd) aa;have Ov := cm.qY f bw.dst s
  have nV : eX P (f.on bw.dst s).n (f.on bw.dst s).look (f.on bw.dst s).mem bo b e := by
    have Oy : ∀ x k off, addrOf bo = some x → l4 bo ≠ 0 → s.look x = some (.w (.one (.own k off))) → (f.on bw.dst s).mem k = s.mem k := by
      intro x k off Ge Gx aa;rw [Ov];cases ni with
      | skip => rfl
      | quiet av al => rfl
      | fresh av al => rfl
      | load => rfl
      | call => rfl
      | store ty x' y' k' Pq cs z i az kF ai hm hi hs ab =>
        rcases mD with mD | ⟨a, b, q, p, aJ, c4, iz, lS, bU⟩
        · exfalso
          have : l4 bw = 2 := by simp [l4, az]
          simp [vx, this, Gx] at mD
        · simp only [addrOf, az, h0] at c4
          subst c4;rw [kF] at lS;cases lS;rw [Ge] at aJ;cases aJ;rw [aa] at iz;cases iz;show bK s.mem k' _ k = s.mem k;exact cl _ _ (Fc bU)
      | new cs d dG hm ax =>
        obtain ⟨c, aj⟩ := PD x k off aa;show bK s.mem d cs k = s.mem k;exact cl _ _ (fun e => by subst e; rw [hm] at aj; cases aj)
    cases he with
    | skip => exact .skip
    | quiet av al => exact .quiet av (al.congr fun x aa => k1 x aa)
    | fresh av al => exact .fresh av (al.congr fun x aa => k1 x aa)
    | load ty x k off cs av az aa hm hv => exact .load ty x k off cs av az (by rw [k1 x (by simp [az, Op.operands])]; exact aa) (by rw [Oy x k off (by simp [addrOf, az]) (by simp [l4, az]) aa]; exact hm) hv
    | store ty x y k off cs z i az aa ai hm hi hs ab => exact .store ty x y k off cs z i az (by rw [k1 x (by simp [az, Op.operands])]; exact aa) (by rw [k1 y (by simp [az, Op.operands])]; exact ai) (by rw [Oy x k off (by simp [addrOf, az]) (by simp [l4, az]) aa]; exact hm) hi hs ab
    | new cs d dG hm ax =>
      refine .new cs d dG ?_ (ax.congr fun x aa => k1 x aa);rw [Ov];cases ni with
      | skip => exact hm
      | quiet av al => exact hm
      | fresh av al => exact hm
      | load => exact hm
      | call => exact hm
      | store ty x' y' k' Pq au z i az kF ai fR hi hs ab =>
        show bK s.mem k' _ d = none;rw [cl _ _ (fun e => by subst e; rw [hm] at fR; cases fR)];exact hm
      | new au d' XO fR GJ =>
        show bK s.mem d' _ d = none;rw [cl _ _ (fun e => a2 d dG (by rw [XO, e]))];exact hm
    | call g args r aj hp => exact .call g args r (aj.congr fun x aa => k1 x aa) hp
  refine ⟨ni, nV, cm.zW e f bo.dst bw.dst s a2 ?_⟩;intro k cs j ds h1 h2 We;subst We;cases he with
  | skip => cases h1
  | quiet => cases h1
  | fresh => cases h1
  | load => cases h1
  | call => cases h1
  | store ty x y k' off au z i az aa ai hm hi hs ab =>
    cases h1;cases ni with
    | skip => cases h2
    | quiet => cases h2
    | fresh => cases h2
    | load => cases h2
    | call => cases h2
    | store agS cz qd bJ ab9 tc z2 i2 pK Ha =>
      cases h2;rcases mD with mD | ⟨a, b, q, p, aJ, c4, iz, lS, bU⟩
      · simp [vx, l4, az, pK] at mD
      · simp only [addrOf, az, pK, h0] at aJ c4
        subst aJ;subst c4;rw [aa] at iz;rw [Ha] at lS;cases iz;cases lS;exact Fc bU rfl
    | new tc d2 ML nW GK => cases h2; rw [nW] at hm; cases hm
  | new au d dG hm ax =>
    cases h1;cases ni with
    | skip => cases h2
    | quiet => cases h2
    | fresh => cases h2
    | load => cases h2
    | call => cases h2
    | store agS cz qd bJ ab9 tc z2 i2 pK Ha Hc nW => cases h2; rw [nW] at hm; cases hm
    | new tc d2 ML nW GK => cases h2; exact a2 _ dG ML
end
section
variable {P : Program} {B : eH} {A : Nat → Prop} {s s1 s2 s' : aA} {ad : Nat → Nat} {a : Act} {w : World} {o bo bw : Oper} {ops : Array Oper} {md : Region.Mode}
theorem look_ok {x : Operand} {av : ah} {j : Nat} (ok : s.cE) (aa : s.look x = some av) (ae : av.owns j) : ∃ cs, s.mem j = some cs := by
  have none : ∀ v, ¬ (ah.w (.one (.c v))).owns j := fun v ⟨y, ai, h⟩ => by simp [bz.cells] at ai; subst ai; cases h
  cases x with
  | tmp t => exact ok.hf t av j aa ae
  | const v =>
    simp only [aA.look] at aa
    split at aa
    · cases aa; exact absurd ae (none _)
    · cases aa
  | global g => cases aa; exact absurd ae (none _)
  | func g => cases aa; exact absurd ae (none _)
theorem aA.cE.put {dst : Option Nat} {av : ah} (ok : s.cE) (h : ∀ j, av.owns j → ∃ cs, s.mem j = some cs) : (s.put dst av).cE := by
  cases dst with
  | none => exact ok
  | some d =>
    refine ⟨fun t bv j aB ae => ?_, ok.dn⟩;simp only [aA.put] at aB ⊢
    by_cases e : t = d
    · subst e; rw [cx] at aB; cases aB; exact h j ae
    · rw [cl _ _ e] at aB; exact ok.hf t bv j aB ae
theorem aA.cE.eh {k : Nat} {cs : List AC} (ok : s.cE) (h : ∀ x ∈ cs, ∀ j, x.owns j → ∃ au, s.mem j = some au) : (s.eh k cs).cE := by
  have up : ∀ j, (∃ c, s.mem j = some c) → ∃ c, (s.eh k cs).mem j = some c := fun j ⟨c, aj⟩ => by
    by_cases e : j = k
    · exact ⟨cs, by rw [e]; exact cx _ _ _⟩
    · exact ⟨c, by simp only [aA.eh]; rw [cl _ _ e]; exact aj⟩
  refine ⟨fun t bv j aB ae => up j (ok.hf t bv j aB ae), fun k' c x j af aa ae => up j ?_⟩;simp only [aA.eh] at af
  by_cases e : k' = k
  · subst e; rw [cx] at af; cases af; exact h x aa j ae
  · rw [cl _ _ e] at af; exact ok.dn k' c x j af aa ae
theorem aea {ty : TypeId} {cs : List AC} {off : Nat} {av : bz} (h : pick P ty cs off = some av) : ∀ x ∈ av.cells, x ∈ cs := by
  unfold pick at h
  split at h
  · cases hi : P.info? ty with
    | none => rw [hi] at h; cases h
    | some i =>
      rw [hi] at h;simp only [ks] at h
      split at h
      · cases h; exact fun x aa => mO (nB aa)
      · cases h
  · cases hi : P.info? ty with
    | none => rw [hi] at h; cases h
    | some i =>
      rw [hi] at h;simp only [ks] at h
      split at h
      · cases h; exact fun x aa => mO (nB aa)
      · cases h
  · cases aa : cs[off]? with
    | none => rw [aa] at h; cases h
    | some y => rw [aa] at h; cases h; intro x kF; simp [bz.cells] at kF; subst kF; exact c7 aa
  · cases h
theorem lc.ok (h : lc P s o s') (ok : s.cE) : s'.cE := by
  cases h with
  | quiet av al hd =>
    refine ok.put fun j ae => ?_;obtain ⟨x, aa, b, ab, XA⟩ := al.own j ae;exact look_ok ok ab XA
  | fresh av al hd => exact ok.put fun j ae => absurd ae (al.pw j)
  | load ty x k off cs av az aa hm hv hd =>
    refine ok.put fun j ae => ?_;obtain ⟨y, ai, l0⟩ := ae;exact ok.dn k cs y j hm (aea hv y ai) l0
  | store ty x y k off cs z i az aa ai hm hi hs ab hd =>
    rw [aA.xD];refine aA.cE.put (ok.eh fun x aa j ae => ?_) fun j ae => (by obtain ⟨y, ai, _⟩ := ae; cases ai);unfold eD at aa;simp only [kr] at aa;rcases aa with (h1 | h1) | h1
    · exact ok.dn k cs x j hm (nB h1) ae
    · exact look_ok ok ai ⟨x, h1, ae⟩
    · exact ok.dn k cs x j hm (mO h1) ae
  | new cs d dG hm ax hd =>
    refine aA.cE.put (ok.eh fun x aa j ae => ?_) fun j ae => ?_
    · cases ax with
      | alloc ty i z cs az hi aP aj h1 => subst aj; obtain ⟨v, _, rfl⟩ := iv.1 aa; cases ae
      | box ty y z az ai => exact look_ok ok ai ⟨x, aa, ae⟩
    · obtain ⟨y, ai, l0⟩ := ae
      simp [bz.cells] at ai;subst ai;cases l0;exact ⟨cs, cx _ _ _⟩
  | call f args r aj hp hd => exact ok.put fun j ae => absurd ae (hp.bW j)
def rD (P : Program) (ops : Array Oper) (o : Oper) (K : aA → Prop) (s : aA) : Prop :=
  ∃ b, want ops o s = some b ∧ ∃ e, eX P s.n s.look s.mem o b e ∧ (∀ d, o.dst = some d → d < s.n) ∧ K (e.on o.dst s)
def yk (P : Program) (md : Region.Mode) (ops : Array Oper) (K : aA → Prop) : Nat → Array Bool → aA → Prop
  | 0, bt, s => Region.ready md ops bt = [] ∧ K s
  | fg + 1, bt, s => (Region.ready md ops bt = [] → K s) ∧
    ∀ i ∈ Region.ready md ops bt, ∀ o, ops[i]? = some o → rD P ops o (yk P md ops K fg (bt.setIfInBounds i true)) s
theorem R2 {b : Bool} (h : want ops o s = some b) (aw : Rel B A s ad a w) : Region.wanted o (yielded ops a.tmps) = b := by
  unfold want at h;unfold Region.wanted
  split at h
  · rename_i aq; rw [aq]; cases h; rfl
  · rename_i g bT aq
    rw [aq]
    split at h
    · rename_i d hd
      split at h
      · rename_i x aa
        cases h;obtain ⟨v, h1, h2⟩ := aw.hf d _ aa;obtain ⟨rfl, _⟩ := h2;simp [yielded, hd, h1]
      · rename_i xs aa
        cases h;obtain ⟨v, h1, h2⟩ := aw.hf d _ aa;obtain ⟨vs, rfl, _⟩ := h2;simp [yielded, hd, h1]
      · cases h
    · cases h
theorem yy {b : Bool} {e : cm} (ok : s.cE) (he : eX P s.n s.look s.mem o b e) (hd : ∀ d, o.dst = some d → d < s.n) : (e.on o.dst s).cE := by
  cases b with
  | true => exact (he.step hd).ok ok
  | false => cases he; exact ok.put fun j ae => (by obtain ⟨y, ai, _⟩ := ae; cases ai)
theorem E0 {ro : Option Nat} {K : aA → Prop} {lg : Act → World → Prop} {Q : Exit → Act → World → Prop} {i : Nat} (hi : ops[i]? = some o) (ok : s.cE) (aw : Rel B A s ad a w) (h : rD P ops o K s)
    (fk : ∀ s' aY a' w', s'.cE → Rel B A s' aY a' w' → K s' → lg a' w') : wpOpIn (lj ro) 0 P ops Q i lg a w := by
  obtain ⟨b, hw, e, he, hd, af⟩ := h;have oM := R2 hw aw;unfold wpOpIn;simp only [hi];cases b with
  | true =>
    rw [oM];simp only [if_true];have cS := (he.step hd).ok ok;exact Oper.Jf (Oper.wp_mono (fun a' w' ⟨aY, ap⟩ => fk _ aY a' w' cS ap af) (lc.sound (he.step hd) aw ok)) ((he.step hd).O4 aw)
  | false =>
    rw [oM];simp only [nD, if_false];cases he;exact ⟨fun _ _ => trivial, fk _ ad _ _ (ok.put fun j ae => (by obtain ⟨y, ai, _⟩ := ae; cases ai)) (aw.put hd (da.undef _)) af⟩
theorem JQ {ro : Option Nat} {K : aA → Prop} {Q : Exit → Act → World → Prop} (jO : ∀ s' aY a' w', s'.cE → Rel B A s' aY a' w' → K s' → Q .normal a' w') : ∀ (fg : Nat) (bt : Array Bool) (s : aA) (ad : Nat → Nat) (a : Act) (w : World), s.cE → Rel B A s ad a w →
    yk P md ops K fg bt s → wpAnyIn (lj ro) 0 P md ops Q fg bt a w
  | 0, _, _, _, _, _, ok, aw, h => ⟨h.1, jO _ _ _ _ ok aw h.2⟩
  | fg + 1, bt, s, ad, a, w, ok, aw, h => ⟨fun aD => jO _ _ _ _ ok aw (h.1 aD), fun i hi => by
      obtain ⟨aD, o, az, _⟩ := mem_ready.1 hi;exact E0 az ok aw (h.2 i hi o az) fun s' aY a' w' cS bZ af => JQ jO fg _ s' aY a' w' cS bZ af⟩
theorem xV {b : Option Bool} {e : cm} {dst : Option Nat} (ak : ∀ d, dst = some d → d ∉ o.looksAt ops) : want ops o (e.on dst s) = want ops o s := by
  have aB : ∀ d, (∀ d', dst = some d' → d ≠ d') → (e.on dst s).tmps d = s.tmps d := fun d h => by
    have := cm.qX e dst s (x := .tmp d) (fun d' kY bq => h d' kY (by cases bq; rfl));exact this
  unfold want;cases aq : o.guard with
  | none => rfl
  | some p =>
    obtain ⟨g, bT⟩ := p;simp only;cases hd : (ops[g]?).bind (·.dst) with
    | none => rfl
    | some d =>
      simp only
      rw [aB d (fun d' kY bq => ak d' kY (by
        subst bq;unfold Oper.looksAt;rw [aq];exact List.mem_append_right _ (by simp [hd])))]
theorem Ty {b : Bool} {e : cm} {K : aA → Prop} (ok : s.cE) (hw : want ops bo s = some b) (he : eX P s.n s.look s.mem bo b e) (ts : ∀ d, bo.dst = some d → d < s.n) (rU : bo.apart ops bw = true) (mD : ya s bo bw) (h : rD P ops bw K (e.on bo.dst s)) :
    rD P ops bw (fun t => (want ops bo t = some b ∧ eX P t.n t.look t.mem bo b e ∧ (∀ d, bo.dst = some d → d < t.n) ∧ t.cE) ∧ K (e.on bo.dst t)) s := by
  obtain ⟨a1, a2, a3⟩ := Oper.apart_spec rU;obtain ⟨c, r9, f, ar, qD, af⟩ := h;obtain ⟨h1, h2, an⟩ := eX.swap ok he ar rU mD;rw [xV (b := none) a1] at r9;have u7 : ∀ d, bw.dst = some d → d < s.n := fun d hd => by have := qD d hd; rwa [cm.tT] at this
  refine ⟨c, r9, f, h1, u7, ⟨?_, h2, fun d hd => by rw [cm.tT]; exact ts d hd, yy ok h1 u7⟩, by rw [← an]; exact af⟩;rw [xV (b := none) a3];exact hw
theorem Tx {K lg : aA → Prop} (h : ∀ s, K s → lg s) (aU : rD P ops o K s) : rD P ops o lg s :=
  let ⟨b, h1, e, h2, an, aE⟩ := aU
  ⟨b, h1, e, h2, an, h _ aE⟩
def pp (ops : Array Oper) (bt : Array Bool) (x y : Oper) (s : aA) : Prop :=
  vx x y = true ∨ ∃ t u o p, addrOf x = some (.tmp t) ∧ addrOf y = some (.tmp u) ∧ s.tmps t = some o ∧ s.tmps u = some p ∧ yq o p = true ∧
    ∀ i bo, ops[i]? = some bo → bt.getD i true = false → bo.dst ≠ some t ∧ bo.dst ≠ some u
theorem pp.sep {bt : Array Bool} (h : pp ops bt bo bw s) : ya s bo bw := by
  rcases h with h | ⟨t, u, o, p, h1, h2, an, aE, cY, _⟩
  · exact .inl h
  · exact .inr ⟨_, _, o, p, h1, h2, an, aE, cY⟩
theorem cm.xx {e : cm} {dst : Option Nat} {t : Nat} (h : dst ≠ some t) : (e.on dst s).tmps t = s.tmps t := by
  have := cm.qX e dst s (x := .tmp t) (fun d hd bq => by cases bq; exact h hd);exact this
theorem pp.on {bt : Array Bool} {f : cm} {o : Oper} {i : Nat} (h : pp ops bt bo bw s) (az : ops[i]? = some o) (k0 : bt.getD i true = false) : pp ops (bt.setIfInBounds i true) bo bw (f.on o.dst s) := by
  rcases h with h | ⟨t, u, q, p, h1, h2, an, aE, cY, fh⟩
  · exact .inl h
  · obtain ⟨dp, dX⟩ := fh i o az k0
    refine .inr ⟨t, u, q, p, h1, h2, by rw [cm.xx dp]; exact an, by rw [cm.xx dX]; exact aE, cY, fun fl eV hn tE => fh fl eV hn ?_⟩
    by_cases e : i = fl
    · subst e; exact k0
    · rwa [getD_set_ne true e] at tE
theorem Tz {b : Bool} {e : cm} {K : aA → Prop} (ok : s.cE) (hw : want ops bo s = some b) (he : eX P s.n s.look s.mem bo b e) (ts : ∀ d, bo.dst = some d → d < s.n) (rU : bo.apart ops bw = true) (mD : ya s bo bw) (h : rD P ops bw K (e.on bo.dst s)) :
    rD P ops bw (fun t => (∃ f : cm, t = f.on bw.dst s) ∧ (want ops bo t = some b ∧ eX P t.n t.look t.mem bo b e ∧ (∀ d, bo.dst = some d → d < t.n) ∧ t.cE) ∧ K (e.on bo.dst t)) s := by
  obtain ⟨c, h1, f, h2, an, aE⟩ := Ty ok hw he ts rU mD h;exact ⟨c, h1, f, h2, an, ⟨f, rfl⟩, aE⟩
def waits (md : Region.Mode) (ops : Array Oper) : Nat → Nat → Nat → Bool
  | 0, _, _ => false
  | f + 1, j, i => match ops[j]? with
    | some o => o.after.any fun e => Region.binds md e && (e.on == i || waits md ops f e.on i)
    | none => false
def Down (md : Region.Mode) (ops : Array Oper) (bt : Array Bool) : Prop := ∀ k o, bt.getD k false = true → ops[k]? = some o → ∀ e ∈ o.after, Region.binds md e = true → bt.getD e.on false = true
theorem Jd {bt : Array Bool} (hd : Down md ops bt) : ∀ (f j i : Nat) (o : Oper), ops[j]? = some o → (∀ e ∈ o.after, Region.binds md e = true → bt.getD e.on false = true) → waits md ops f j i = true → bt.getD i false = true
  | 0, _, _, _, _, _, h => by cases h
  | f + 1, j, i, o, az, dF, h => by
    simp only [waits, az] at h;obtain ⟨e, he, ab⟩ := Array.any_eq_true'.1 h;simp only [dc, pX, beq_iff_eq] at ab;obtain ⟨h1, h2⟩ := ab;have ak := dF e he h1;rcases h2 with h2 | h2
    · rw [← h2]; exact ak
    · cases hn : ops[e.on]? with
      | none => cases f <;> simp [waits, hn] at h2
      | some eV => exact Jd hd f e.on i eV hn (fun bq nV c4 => hd e.on eV ak hn bq nV c4) h2
theorem Down.set {bt : Array Bool} (hd : Down md ops bt) {j : Nat} (ae : j ∈ Region.ready md ops bt) : Down md ops (bt.setIfInBounds j true) := by
  intro k o af az e he ab;obtain ⟨_, bw, ij, dF⟩ := mem_ready.1 ae
  by_cases bq : j = k
  · subst bq
    rw [ij] at az;cases az;exact getD_set_true (dF e he ab)
  · refine getD_set_true (hd k o ?_ az e he ab)
    have : (bt.setIfInBounds j true).getD k false = bt.getD k false := by simp [Array.getElem?_setIfInBounds_ne bq]
    rwa [this] at af
theorem Tw {K : aA → Prop} {i : Nat} {b : Bool} {e : cm} (hi : ops[i]? = some bo) : ∀ (fg : Nat) (bt : Array Bool) (s : aA),
      (∀ j bw, ops[j]? = some bw → j ≠ i → bt.getD j true = false → (∀ e ∈ bw.after, Region.binds md e = true → e.on ≠ i) → waits md ops 4 j i = false → bo.apart ops bw = true ∧ pp ops bt bo bw s) →
      Down md ops bt → i ∈ Region.ready md ops bt → s.cE → want ops bo s = some b → eX P s.n s.look s.mem bo b e → (∀ d, bo.dst = some d → d < s.n) →
      yk P md ops K fg (bt.setIfInBounds i true) (e.on bo.dst s) → yk P md ops K (fg + 1) bt s := by
  intro fg
  induction fg with
  | zero =>
    intro bt s _ fY ap ok hw he hd H;refine ⟨fun h => (by rw [h] at ap; cases ap), fun j ae bw ij => ?_⟩
    by_cases gw : j = i
    · subst gw; rw [hi] at ij; cases ij; exact ⟨b, hw, e, he, hd, H⟩
    · have := ready_mono ae gw
      rw [H.1] at this;cases this
  | succ fg b5 =>
    intro bt s jP fY ap ok hw he hd H;refine ⟨fun h => (by rw [h] at ap; cases ap), fun j ae bw ij => ?_⟩
    by_cases gw : j = i
    · subst gw; rw [hi] at ij; cases ij; exact ⟨b, hw, e, he, hd, H⟩
    · have h1 := H.2 j (ready_mono ae gw) bw ij
      obtain ⟨va, aca, zb, dF⟩ := mem_ready.1 ae;rw [ij] at zb;cases zb
      have r3 : ∀ e ∈ bw.after, Region.binds md e = true → e.on ≠ i := fun e he ab rY => by
        have h1 := dF e he ab;have aD := (mem_ready.1 ap).1;rw [rY] at h1;rcases hz i bt.size with aO | aO
        · simp [aO] at aD h1; rw [aD] at h1; cases h1
        · simp [xF aO] at h1
      have sa : waits md ops 4 j i = false := by
        cases r9 : waits md ops 4 j i with
        | false => rfl
        | true =>
          have h1 := Jd fY 4 j i bw ij dF r9;have aD := (mem_ready.1 ap).1;rcases hz i bt.size with aO | aO
          · simp [aO] at aD h1; rw [aD] at h1; cases h1
          · simp [xF aO] at h1
      obtain ⟨g1, g2⟩ := jP j bw ij gw va r3 sa;have h2 := Tz ok hw he hd g1 g2.sep h1;refine Tx (fun t an => ?_) h2;obtain ⟨⟨f, rfl⟩, an⟩ := an
      have Gp : ∀ k ok, ops[k]? = some ok → k ≠ i → (bt.setIfInBounds j true).getD k true = false →
          (∀ e ∈ ok.after, Region.binds md e = true → e.on ≠ i) → waits md ops 4 k i = false → bo.apart ops ok = true ∧ pp ops (bt.setIfInBounds j true) bo ok (f.on bw.dst s) := fun k ok af jR k0 mE G8 => by
        have tE : bt.getD k true = false := by
          by_cases kZ : j = k
          · subst kZ; exact va
          · rwa [getD_set_ne true kZ] at k0
        obtain ⟨q1, q2⟩ := jP k ok af jR tE mE G8;exact ⟨q1, q2.on ij va⟩
      refine b5 (bt.setIfInBounds j true) _ Gp (fY.set ae) (ready_mono ap (Ne.symm gw)) an.1.2.2.2 an.1.1 an.1.2.1 an.1.2.2.1 ?_;rw [Array.setIfInBounds_comm _ _ gw];exact an.2
def bb (P : Program) (ops : Array Oper) (K : aA → Prop) : List Oper → aA → Prop
  | [], s => K s
  | o :: rest, s => rD P ops o (bb P ops K rest) s
def Ig (x y : Oper) : Option (Nat × Nat) :=
  match addrOf x, addrOf y with
  | some (.tmp t), some (.tmp u) => some (t, u)
  | _, _ => none
def oU (ops : Array Oper) (bt : Array Bool) (t : Nat) : Bool := (List.range ops.size).all fun j => bt.getD j true || match ops[j]? with
  | some o => o.dst != some t
  | none => true
def mi (s : aA) (p : Nat × Nat) : Bool :=
  match s.tmps p.1, s.tmps p.2 with
  | some x, some y => yq x y
  | _, _ => false
def C5 (md : Region.Mode) (ops : Array Oper) (hZ : List (Nat × Nat)) (bt : Array Bool) (i : Nat) : Bool :=
  match ops[i]? with
  | none => false
  | some bo => (List.range ops.size).all fun j => j == i || bt.getD j true || match ops[j]? with
      | some bw => vx bo bw || waits md ops 4 j i || match Ig bo bw with
        | some (t, u) => hZ.contains (t, u) && oU ops bt t && oU ops bt u
        | none => false
      | none => true
theorem Dk {bt : Array Bool} {t : Nat} (h : oU ops bt t = true) (j : Nat) (o : Oper) (az : ops[j]? = some o) (k0 : bt.getD j true = false) : o.dst ≠ some t := by
  unfold oU at h;simp only [cB, List.mem_range] at h;have := h j (jv.1 az).1;simp only [az, k0, Bool.false_or, bne_iff_ne, ne_eq] at this;exact this
theorem Ow {i : Nat} {hZ : List (Nat × Nat)} {bt : Array Bool} (hi : ops[i]? = some bo) (h : C5 md ops hZ bt i = true) (hs : ∀ p ∈ hZ, oU ops bt p.1 = true → oU ops bt p.2 = true → mi s p = true) (j : Nat) (bw : Oper)
    (ae : ops[j]? = some bw) (bU : j ≠ i) (k0 : bt.getD j true = false) (mE : waits md ops 4 j i = false) : pp ops bt bo bw s := by
  simp only [C5, hi, cB, List.mem_range] at h;have h1 := h j (jv.1 ae).1;simp only [ae, pX, beq_iff_eq, bU, false_or, k0, nD] at h1;rcases h1 with (h1 | h1) | h1
  · exact .inl h1
  · rw [mE] at h1; cases h1
  · split at h1
    · rename_i t u hp
      simp only [dc] at h1;obtain ⟨⟨c1, c2⟩, ke⟩ := h1;have lX := hs (t, u) (by simpa using c1) c2 ke;unfold Ig at hp
      split at hp
      · rename_i fW oe aF aM
        cases hp;unfold mi at lX
        split at lX
        · rename_i o eB q1 q2
          exact .inr ⟨t, u, o, eB, aF, aM, q1, q2, lX, fun fl eV hn tE => ⟨Dk c2 fl eV hn tE, Dk ke fl eV hn tE⟩⟩
        · cases lX
      · cases hp
    · cases h1
def zN (md : Region.Mode) (ops : Array Oper) (hZ : List (Nat × Nat)) : List Nat → Array Bool → Bool
  | [], bt => (Region.ready md ops bt).isEmpty
  | k :: ord, bt => (Region.ready md ops bt).contains k && Region.free md ops bt k && C5 md ops hZ bt k && zN md ops hZ ord (bt.setIfInBounds k true)
def getAll (l : List Oper) : List Nat → Option (List Oper)
  | [] => some []
  | i :: ord => match l[i]?, getAll l ord with
    | some o, some r => some (o :: r)
    | _, _ => none
theorem FU {l : List Oper} : ∀ (ord : List Nat) (r : List Oper), getAll l ord = some r → r.length = ord.length ∧ ∀ (j : Nat), r[j]? = (ord[j]?).bind (l[·]?)
  | [], r, h => by cases h; exact ⟨rfl, fun j => by simp⟩
  | i :: ord, r, h => by
    simp only [getAll] at h
    split at h
    · rename_i o aX az ap
      cases h;obtain ⟨h1, h2⟩ := FU ord aX ap;refine ⟨by simp [h1], fun j => ?_⟩;cases j with
      | zero => simp [az]
      | succ j => simpa using h2 j
    · cases h
theorem JR {K : aA → Prop} : ∀ (l : List Oper) (s : aA), bb P ops K l s → ∃ s', K s' ∧ ∀ t, (∀ o ∈ l, o.dst ≠ some t) → s'.tmps t = s.tmps t
  | [], s, h => ⟨s, h, fun _ _ => rfl⟩
  | o :: l, s, ⟨b, hw, e, he, hd, fk⟩ => by
    obtain ⟨s', h1, h2⟩ := JR l _ fk;exact ⟨s', h1, fun t aB => (h2 t fun eV hn => aB eV (by simp [hn])).trans (cm.xx (aB o (by simp)))⟩
theorem JP {K : aA → Prop} {hZ : List (Nat × Nat)} : ∀ (ord : List Nat) (l : List Oper) (bt : Array Bool) (s : aA), l.length = ord.length → (∀ (j : Nat), l[j]? = (ord[j]?).bind (ops[·]?)) → (∀ k ∈ ord, bt.getD k true = false) → (∀ k, k < ops.size → bt.getD k true = false → k ∈ ord) → ord.Nodup → Down md ops bt → s.cE →
    zN md ops hZ ord bt = true → bb P ops (fun s => hZ.all (mi s) = true ∧ K s) l s → yk P md ops K l.length bt s
  | [], [], _, _, _, _, _, _, _, _, _, eJ, h => ⟨by simpa [zN] using eJ, h.2⟩
  | [], _ :: _, _, _, hlen, _, _, _, _, _, _, _, _ => by cases hlen
  | _ :: _, [], _, _, hlen, _, _, _, _, _, _, _, _ => by cases hlen
  | k :: ord, o :: l, bt, s, hlen, ak, k0, Gn, hl, fY, ok, eJ, h => by
    have aD : ops[k]? = some o := by simpa using (ak 0).symm
    have rX := JR _ _ h;simp only [zN, dc] at eJ;obtain ⟨⟨⟨ap, ar⟩, hm⟩, F3⟩ := eJ;obtain ⟨b, hw, e, he, hd, fk⟩ := h
    have hs : ∀ p ∈ hZ, oU ops bt p.1 = true → oU ops bt p.2 = true → mi s p = true := fun p hp dp dX => by
      obtain ⟨s', ⟨h1, _⟩, h2⟩ := rX
      have fC : ∀ t, oU ops bt t = true → ∀ eV ∈ o :: l, eV.dst ≠ some t := fun t aB eV hn => by
        obtain ⟨j, ae⟩ := j1 hn;rw [ak j] at ae;cases al : (k :: ord)[j]? with
        | none => rw [al] at ae; cases ae
        | some q => rw [al] at ae; exact Dk aB q eV ae (k0 _ (c7 al))
      have := cB.1 h1 p hp;unfold mi at this ⊢;rw [h2 p.1 (fC _ dp), h2 p.2 (fC _ dX)] at this;exact this
    rw [List.nodup_cons] at hl;have bU : ∀ q ∈ ord, k ≠ q := fun q al e => hl.1 (by rw [e]; exact al);refine Tw aD l.length bt s (fun j bw h1 h2 an aE cY => ⟨Region.free_spec aD ar j bw h1 h2 an aE, Ow aD hm hs j bw h1 h2 an cY⟩) fY (by simpa using ap) ok hw he hd ?_;refine JP ord l _ _ (by simpa using hlen) (fun j => by simpa using ak (j + 1)) (fun q al => by rw [getD_set_ne true (bU q al)]; exact k0 q (by simp [al])) (fun q al vc => ?_) hl.2 (fY.set (by simpa using ap)) (yy ok he hd) F3 fk
    by_cases bq : k = q
    · subst bq
      have : k < bt.size := by
        have := k0 k (by simp);rcases hz k bt.size with aO | aO
        · exact aO
        · simp [xF aO] at this
      simp [this] at vc
    · rw [getD_set_ne true bq] at vc
      rcases fD.1 (Gn q al vc) with aO | aO
      · exact absurd aO.symm bq
      · exact aO
def vy (ops : Array Oper) (ord : List Nat) : List (Nat × Nat) :=
  match ord with
  | [] => []
  | i :: rest => (match ops[i]? with
    | some bo => bif l4 bo != 0 then rest.filterMap fun j => match ops[j]? with
        | some bw => bif vx bo bw || waits .any ops 4 j i then none else Ig bo bw
        | none => none
      else []
    | none => []) ++ vy ops rest
def early (o : Oper) : Bool := (match o.op with | .alloc _ => true | _ => false) && o.after.isEmpty && o.guard.isNone
def q0 (l : List Oper) : List Nat := ((List.range l.length).filter fun i => match l[i]? with | some o => early o | none => false) ++ (List.range l.length).filter fun i => match l[i]? with | some o => !early o | none => false
def ff (P : Program) (c : Code) (Q : Exit → aA → Prop) (s : aA) : Prop :=
  s.cE → ∀ B A ad a w, Rel B A s ad a w → j7 P c (fun e a' w' => ∃ s' aY, s'.cE ∧ Rel B A s' aY a' w' ∧ Q e s') a w
def zS : List Nat → Bool
  | [] => true
  | x :: xs => !xs.contains x && zS xs
theorem HO : ∀ (l : List Nat), zS l = true → l.Nodup
  | [], _ => List.nodup_nil
  | x :: xs, h => by
    simp only [zS, dc, ud, List.contains_eq_mem, k5] at h;exact List.nodup_cons.2 ⟨h.1, HO xs h.2⟩
def Lr (l : List Oper) : Bool := Nat.beq (q0 l).length l.length && zS (q0 l) && (List.range l.length).all (fun i => (q0 l).contains i) && (q0 l).all (fun i => Nat.blt i l.length) && zN .any l.toArray (vy l.toArray (q0 l)) (q0 l) (Array.replicate l.length false)
theorem Ks {id : Nat} {l cb : List Oper} {Q : Exit → aA → Prop} (hm : P.follows .mixedOrders = true) (eJ : Lr l = true) (ak : getAll l (q0 l) = some cb)
    (h : bb P l.toArray (fun s => (vy l.toArray (q0 l)).all (mi s) = true ∧ Q .normal s) cb s) : ff P (.region id l.toArray true) Q s := by
  intro ok B A ad a w aw;refine RY hm fun ro => ?_;unfold Lr at eJ;simp only [dc, cB, List.mem_range, List.contains_eq_mem, cq] at eJ;obtain ⟨⟨⟨⟨fw, b1⟩, b2⟩, ed⟩, dM⟩ := eJ;obtain ⟨g1, g2⟩ := FU _ _ ak;have hd : Rel B A s ad a { w with drawn := w.drawn + 1 } := aw.call ((Below.refl _ w).drew);refine JQ (K := Q .normal) (fun s' aY a' w' cS bZ af => ⟨s', aY, cS, bZ, af⟩) _ _ s ad a _ ok hd ?_;have nd := HO _ b1;have hlen : (q0 l).length = l.length := hb fw;have := JP (md := .any) (ops := l.toArray) (q0 l) cb (Array.replicate l.length false) s g1 (by simpa using g2) (fun q al => by have := ed q al; simp [Nat.blt_eq] at this; simp [this]) (fun q al _ => b2 q (by simpa using al)) nd (fun k o af => by exfalso; rcases hz k l.length with q | q <;> simp [Array.getElem?_replicate, q] at af) ok dM h;rw [g1, hlen] at this;simpa using this
theorem JS {ro : Option Nat} {K : aA → Prop} {Q : Exit → Act → World → Prop} (jO : ∀ s' aY a' w', s'.cE → Rel B A s' aY a' w' → K s' → Q .normal a' w') : ∀ (l : List Oper) (k : Nat) (s : aA) (ad : Nat → Nat) (a : Act) (w : World), (∀ (j : Nat), l[j]? = ops[k + j]?) → s.cE → Rel B A s ad a w →
    bb P ops K l s → wpOpsIn (lj ro) 0 P ops Q ((List.range l.length).map (k + ·)) a w
  | [], _, _, _, _, _, _, ok, aw, h => jO _ _ _ _ ok aw h
  | o :: l, k, s, ad, a, w, ak, ok, aw, h => by
    have aD : ops[k]? = some o := by simpa using (ak 0).symm
    have e : (List.range (o :: l).length).map (k + ·) = k :: (List.range l.length).map (k + 1 + ·) := by
      rw [iI, List.range_succ_eq_map, j4, List.map_map];congr 1;apply nE;intro j _;simp [o5, o6 1 j]
    rw [e, wpOpsIn_cons];refine E0 aD ok aw h fun s' aY a' w' cS bZ af => JS jO l (k + 1) s' aY a' w' (fun j => by have := ak (j + 1); simpa [o5, o6 1 j] using this) cS bZ af
theorem Kr {id : Nat} {l : List Oper} {Q : Exit → aA → Prop} (h : bb P l.toArray (Q .normal) l s) : ff P (.region id l.toArray false) Q s := by
  intro ok B A ad a w aw;refine Jb fun ro => ?_;have := JS (ro := ro) (ops := l.toArray) (K := Q .normal) (Q := fun e a' w' => ∃ s' aY, s'.cE ∧ Rel B A s' aY a' w' ∧ Q e s') (fun s' aY a' w' cS bZ af => ⟨s', aY, cS, bZ, af⟩) l 0 s ad a w (by simp) ok aw h;simpa using this
end
section
variable {P : Program} {B : eH} {A : Nat → Prop} {s s1 s2 s' : aA} {ad : Nat → Nat} {a : Act} {w : World} {Q : Exit → aA → Prop} {x y : Code}
def rH (next : aA → Prop) (Q : Exit → aA → Prop) : Exit → aA → Prop
  | .normal, s => next s
  | e, s => Q e s
theorem Ku (h : ff P x (rH (fun s' => ff P y Q s') Q) s) : ff P (.seq x y) Q s := by
  intro ok B A ad a w aw;refine Jc (nI (h ok B A ad a w aw) ?_);rintro e a' w' ⟨s', aY, cS, bZ, al⟩;cases e <;> first | exact al cS B A aY a' w' bZ | exact ⟨s', aY, cS, bZ, al⟩
theorem Kv (h : Q .normal s) : ff P .skip Q s := fun ok B A ad a w aw => R1 ⟨s, ad, ok, aw, h⟩
theorem UW {id : Nat} (h : Q (.exit id) s) : ff P (.exit id) Q s := fun ok B A ad a w aw => RX ⟨s, ad, ok, aw, h⟩
theorem Kt (h : Q .ret s) : ff P .ret Q s := fun ok B A ad a w aw => RZ ⟨s, ad, ok, aw, h⟩
theorem Kl {c : Operand} {t : Bool} (aj : s.look c = some (.w (.one (.c (.bool t))))) (h1 : t = true → ff P x Q s) (aD : t = false → ff P y Q s) : ff P (.cond c x y) Q s := by
  intro ok B A ad a w aw;have hv : a.eval c = .bool t := (aw.look aj).1;refine I9 hv ?_;cases t with
  | true => exact h1 rfl ok B A ad a w aw
  | false => exact aD rfl ok B A ad a w aw
theorem Kp {c : Operand} (aj : s.look c = some (.w (.one (.c (.bool true))))) (h1 : ff P x Q s) : ff P (.cond c x y) Q s := Kl aj (fun _ => h1) (fun e => by cases e)
theorem Ko {c : Operand} (aj : s.look c = some (.w (.one (.c (.bool false))))) (aD : ff P y Q s) : ff P (.cond c x y) Q s := Kl aj (fun e => by cases e) (fun _ => aD)
def wq (id : Nat) (Q : Exit → aA → Prop) : Exit → aA → Prop
  | .exit lx, s => bif Nat.beq lx id then Q .normal s else Q (.exit lx) s
  | e, s => Q e s
theorem UT {id : Nat} (h : ff P x (wq id Q) s) : ff P (.block id x) Q s := by
  intro ok B A ad a w aw;refine I8 (nI (h ok B A ad a w aw) ?_);rintro e a' w' ⟨s', aY, cS, bZ, al⟩;cases e with
  | exit lx =>
    simp only [Exit.inBlock];simp only [wq] at al;cases ab : Nat.beq lx id with
    | true => rw [ab] at al; rw [if_pos (hb ab)]; exact ⟨s', aY, cS, bZ, al⟩
    | false =>
      rw [ab] at al;have : lx ≠ id := fun e => by subst e; rw [Nat.beq_refl] at ab; cases ab
      rw [if_neg this]; exact ⟨s', aY, cS, bZ, al⟩
  | _ => exact ⟨s', aY, cS, bZ, al⟩
structure aA.aQ (s s' : aA) : Prop where
  n : s'.n = s.n
  hf : ∀ t av, s'.tmps t = some av → s.tmps t = some av
  dn : ∀ k cs, s'.mem k = some cs → s.mem k = some cs
theorem Rel.le (h : Rel B A s ad a w) (l : s.aQ s') : Rel B A s' ad a w := by
  have ar : ∀ b, s.free A ad b → b < w.heap.size → s'.free A ad b ∧ w.heap[b]? = w.heap[b]? := fun b ab _ => ⟨⟨ab.1, fun k cs af => ab.2 k cs (l.dn k cs af)⟩, rfl⟩;refine ⟨h.pT, by rw [l.n]; exact h.size, fun t av aB => ?_, fun k cs af => ?_, fun k k' c c' af eL e => h.inj k k' c c' (l.dn _ _ af) (l.dn _ _ eL) e, h.below, h.up, fun k b af => by rw [l.n]; exact h.jH k b af⟩
  · obtain ⟨v, h1, h2⟩ := h.hf t av (l.hf t av aB)
    exact ⟨v, h1, h2.map ar fun _ _ => rfl⟩
  · obtain ⟨vs, ty, h1, h2, an⟩ := h.dn k cs (l.dn k cs af)
    exact ⟨vs, ty, h1, h2.map ar fun _ _ _ _ => rfl, an⟩
theorem Ja {c : Code} {Q : Exit → Act → World → Prop} (I : Nat → Act → World → Prop) {n : Nat} (h₀ : I n a w)
    (round : ∀ n a w, I n a w → j7 P c (Exit.then (fun a' w' => ∃ m, m < n ∧ I m a' w') Q) a w) : j7 P (Code.loop c) Q a w := by
  intro ro b k cs iV ab lW
  have key : ∀ n a w, I n a w →
      ∃ e a' w', Q e a' w' ∧ ArrivesIn (Machine.fenced P (lj ro)) P (lone (b.atR a (.code c :: .inLoop c :: k)) cs w) b k cs e a' w' := by
    intro n
    induction n using Nat.strongRecOn with
    | _ n b5 =>
      intro a w bj;obtain ⟨e, wA, xW, al, tp⟩ := round n a w bj ro b (.inLoop c :: k) cs iV ab lW;cases e with
      | normal =>
        obtain ⟨m, bg, Xf⟩ := al;obtain ⟨Wx, U0, ahd, YL, Xv⟩ := b5 m bg wA xW Xf;exact ⟨Wx, U0, ahd, YL, .of_steps (StepsIn.trans tp (.one (fenced_calm ab lW rfl) stepR_inLoop)) Xv⟩
      | exit id => exact ⟨_, wA, xW, al, .pass (x := .inLoop c) rfl (fun _ _ => .inl (by simp)) tp⟩
      | goto l => exact ⟨_, wA, xW, al, .pass (x := .inLoop c) rfl (fun _ _ => .inl (by simp)) tp⟩
      | ret => exact ⟨_, wA, xW, al, .pass (x := .inLoop c) rfl (fun _ _ => .inl (by simp)) tp⟩
      | panic ch => exact ⟨_, wA, xW, al, .pass (x := .inLoop c) rfl (fun _ _ => .inl (by simp)) tp⟩
      | outgrown => exact ⟨_, wA, xW, al, .pass (x := .inLoop c) rfl (fun _ _ => .inl (by simp)) tp⟩
  obtain ⟨e, a', w', al, tp⟩ := key _ a w h₀;exact ⟨e, a', w', al, .of_steps (.one (fenced_calm ab lW rfl) stepR_loop) tp⟩
theorem Kq (I : Nat → aA → Prop) (n : Nat) (er : aA) (oQ : s.aQ er) (acb : er.cE) (aD : I n er)
    (round : ∀ n s, I n s → ff P x (rH (fun s' => ∃ m, m < n ∧ ∃ Ao, s'.aQ Ao ∧ Ao.cE ∧ I m Ao) Q) s) : ff P (.loop x) Q s := by
  intro ok B A ad a w aw;refine Ja (fun n a w => ∃ s ad, s.cE ∧ Rel B A s ad a w ∧ I n s) ⟨er, ad, acb, aw.le oQ, aD⟩ ?_;rintro n a w ⟨s, ad, ok, aw, bj⟩;refine nI (round n s bj ok B A ad a w aw) ?_;rintro e a' w' ⟨s', aY, cS, bZ, al⟩;cases e with
  | normal =>
    obtain ⟨m, hm, Ao, ak, vG, ck⟩ := al;exact ⟨m, hm, Ao, aY, vG, bZ.le ak, ck⟩
  | _ => exact ⟨s', aY, cS, bZ, al⟩
def ah.aQ (x y : ah) : Prop := ∀ U ad W v, da U ad W x v → da U ad W y v
theorem ah.aQ.refl (x : ah) : x.aQ x := fun _ _ _ _ h => h
theorem ah.aQ.of_eq {x y : ah} (h : x = y) : x.aQ y := by subst h; exact .refl x
def iK (P : Program) (s : aA) : ResultVar → Option bz
  | .tmp t => match s.tmps t with
    | some (.w x) => some x
    | _ => none
  | .cell a ty => match s.tmps a with
    | some (.w (.one (.own k off))) => (s.mem k).bind (pick P ty · off)
    | _ => none
def packed : List bz → ah
  | [x] => .w x
  | xs => .cr xs
def yr (P : Program) (fn : Func) (r : ah) : Exit → aA → Prop
  | .normal, s | .ret, s => ∃ xs, fn.results.toList.map (iK P s) = xs.map some ∧ (packed xs).aQ r
  | _, _ => False
theorem Ri {α : Type} {f : α → Sem Value} : ∀ (l : List α) (vs : List Value), l.length = vs.length → (∀ (i : Nat) x v, l[i]? = some x → vs[i]? = some v → (f x).run P w = .ok v w) → (l.mapM f).run P w = .ok vs w
  | [], [], _, _ => rfl
  | [], _ :: _, h, _ => by cases h
  | _ :: _, [], h, _ => by cases h
  | x :: l, v :: vs, ak, h => by
    have aD := h 0 x v rfl rfl;have b5 := Ri l vs (by simpa using ak) (fun i x v aa hv => h (i + 1) x v (by simpa using aa) (by simpa using hv));rw [List.mapM_cons];simp only [Sem.run_bind, aD, Result.andThen_ok, b5];rfl
def Ae (a : Act) : ResultVar → Sem Value
  | .tmp t => pure (a.tmps.getD t undef)
  | .cell b t => do loadVar t (← asAddr (a.tmps.getD b undef))
theorem aeS (fn : Func) (a : Act) : results fn a.tmps = (do let vs ← fn.results.mapM (Ae a); pure (if h : vs.size = 1 then vs[0] else .tuple vs)) := rfl
theorem aeR {v : ResultVar} {z : bz} (aw : Rel B A s ad a w) (h : iK P s v = some z) : ∃ u, (Ae a v).run P w = .ok u w ∧ fX (s.free A ad) ad w z u := by
  cases v with
  | tmp t =>
    simp only [iK] at h
    split at h
    · rename_i x aa
      cases h;obtain ⟨v, h1, h2⟩ := aw.hf t _ aa;refine ⟨v, ?_, h2⟩;simp [Ae, Array.getD_eq_getD_getElem?, h1]
    · cases h
  | cell b ty =>
    simp only [iK] at h
    split at h
    · rename_i k off aa
      cases hm : s.mem k with
      | none => rw [hm] at h; cases h
      | some cs =>
        rw [hm] at h;obtain ⟨vs, t, g1, g2, g3⟩ := aw.dn k cs hm;obtain ⟨u, h1, h2⟩ := Qh h g1 g2;obtain ⟨p, q1, q2⟩ := aw.hf b _ aa;cases q2;refine ⟨u, ?_, h2⟩;simp only [Ae, Array.getD_eq_getD_getElem?, q1, Option.getD_some, asAddr, Sem.run_bind, Sem.run_pure, Result.andThen_ok, h1]
    · cases h
theorem QY {fn : Func} {xs : List bz} (aw : Rel B A s ad a w) (h : fn.results.toList.map (iK P s) = xs.map some) : ∃ v, (results fn a.tmps).run P w = .ok v w ∧ da (s.free A ad) ad w (packed xs) v := by
  have key : ∀ (l : List ResultVar) (xs : List bz), l.map (iK P s) = xs.map some → ∃ vs : List Value, vs.length = xs.length ∧ l.length = vs.length ∧ (∀ (i : Nat) r u, l[i]? = some r → vs[i]? = some u → (Ae a r).run P w = .ok u w) ∧ ∀ (i : Nat) x u, xs[i]? = some x → vs[i]? = some u → fX (s.free A ad) ad w x u := by
    intro l
    induction l with
    | nil => intro xs h; cases xs with
      | nil => exact ⟨[], rfl, rfl, fun i r u h => by simp at h, fun i x u h => by simp at h⟩
      | cons => cases h
    | cons r l b5 =>
      intro xs h;cases xs with
      | nil => cases h
      | cons x xs =>
        simp only [j4, List.cons.injEq] at h;obtain ⟨vs, aF, aM, cg, dZ⟩ := b5 xs h.2;obtain ⟨u, q1, q2⟩ := aeR aw h.1;refine ⟨u :: vs, by simp [aF], by simp [aM], fun i aX oe h1 h2 => ?_, fun i x' oe h1 h2 => ?_⟩
        · cases i with
          | zero => simp at h1 h2; subst h1; subst h2; exact q1
          | succ i => exact cg i aX oe (by simpa using h1) (by simpa using h2)
        · cases i with
          | zero => simp at h1 h2; subst h1; subst h2; exact q2
          | succ i => exact dZ i x' oe (by simpa using h1) (by simpa using h2)
  obtain ⟨vs, aF, aM, cg, dZ⟩ := key _ _ h;have hm := Ri (P := P) (w := w) _ vs aM cg
  have fS : (results fn a.tmps).run P w = .ok (if h : vs.toArray.size = 1 then vs.toArray[0] else .tuple vs.toArray) w := by
    rw [aeS, Array.mapM_eq_mapM_toList];simp only [map_eq_pure_bind, bind_assoc, Sem.run_bind];rw [hm];simp only [Result.andThen_ok, Sem.run_bind, Sem.run_pure]
  refine ⟨_, fS, ?_⟩
  match vs, xs, aF, dZ with
  | [], [], _, _ => exact ⟨[], rfl, rfl, fun i x v h => by simp at h⟩
  | [v], [x], _, dZ => exact dZ 0 x v rfl rfl
  | v1 :: v2 :: vs, ct :: cz :: xs, aF, dZ =>
    rw [dif_neg (by simp)];exact ⟨v1 :: v2 :: vs, rfl, aF.symm, dZ⟩
def start (n : Nat) (args : List ah) : aA := ⟨n, fun t => args[t]?, fun _ => none⟩
def sP (P : Program) (c : Code) (Q : Exit → aA → Prop) (s : aA) : Prop :=
  s.cE → ∀ W A ad a w, Rel (eH.all W) A s ad a w → c.wp P (fun e a' w' => ∃ s' aY, s'.cE ∧ Rel (eH.all W) A s' aY a' w' ∧ Q e s') a w
theorem Qf {f : FuncId} {fn : Func} {c : Code} {args : List ah} {r : ah} (ar : P.funcs[f]? = some fn) (ab : fn.body = some c) (ax : args.length ≤ fn.ntmps) (jI : ∀ x ∈ args, x.closed) (bW : r.closed)
    (h : sP P c (yr P fn r) (start fn.ntmps args)) : aC P f args r := by
  refine ⟨jI, bW, fun U W vs cL => ?_⟩;have ak := cL.1
 
  refine calls_of_wp ar ab ?_;have ok : (start fn.ntmps args).cE := ⟨fun t av j aB ae => absurd ae (jI av (c7 aB) j), fun k cs x j af => by cases af⟩
  have aw : Rel (eH.all W) (fun b => U b ∨ W.heap.size ≤ b) (start fn.ntmps args) id { tmps := vs.toArray ++ Array.replicate (fn.ntmps - vs.toArray.size) undef, defers := [] } W := by
    refine ⟨rfl, by simp [start]; omega, fun t av aB => ?_, (fun k cs af => by cases af), (fun k k' cs au af => by cases af), iN.refl (eH.all W), fun b ab => .inr ab, fun k b af => (by cases af)⟩;have bg : t < vs.length := by rw [← ak]; exact (bM.1 aB).1
    refine ⟨vs[t], by simp [Array.getElem?_append, bg], ?_⟩;exact (cL.2 t av _ aB (bN bg)).map (fun b ab _ => ⟨⟨.inl ab, fun k cs af => by cases af⟩, rfl⟩) fun _ _ => rfl
  refine wp_mono (h ok W _ id _ W aw) ?_;rintro e a' w' ⟨s', aY, cS, bZ, al⟩
  have fin : (∃ xs, fn.results.toList.map (iK P s') = xs.map some ∧ (packed xs).aQ r) → a'.defers = [] ∧ ∃ v, (results fn a'.tmps).run P w' = .ok v w' ∧ ∃ u, Ending.returned v = .returned u ∧ da (fun b => U b ∨ W.heap.size ≤ b) id w' r u ∧ Below W.heap.size W w' := by
    rintro ⟨xs, h1, h2⟩;obtain ⟨v, q1, q2⟩ := QY bZ h1;exact ⟨bZ.pT, v, q1, v, rfl, (h2 _ _ _ _ q2).map (fun b ab _ => ⟨ab.1, rfl⟩) fun j ae => absurd ae (bW j), bZ.below.all⟩
  cases e with
  | normal => exact fin al
  | ret => exact fin al
  | _ => exact al.elim
theorem ad5 {f : FuncId} {fn : Func} {c : Code} {args : List ah} {r : ah} (ar : P.funcs[f]? = some fn) (ab : fn.body = some c) (ax : args.length ≤ fn.ntmps) (jI : ∀ x ∈ args, x.closed) (bW : r.closed)
    (h : ff P c (yr P fn r) (start fn.ntmps args)) : aC P f args r :=
  Qf ar ab ax jI bW fun ok W A ad a w aw => (h ok (eH.all W) A ad a w aw).top
end
end Go.Proofs.YtbcecodakfejaaaGreat
