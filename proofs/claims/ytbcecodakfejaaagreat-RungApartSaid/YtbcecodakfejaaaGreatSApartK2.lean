/-
  My own texts, without what this claim does not need. My own text.
-/
import Derived.Below
import Derived.Still
import Derived.OrdersIn
import Derived.Laws.CopyRow
import Derived.Laws.Cells
import Derived.Test.YtbcecodakfejaaaGreatSApartK1
set_option maxRecDepth 100000
set_option maxHeartbeats 64000000
set_option linter.unusedVariables false
set_option linter.unusedSimpArgs false
set_option linter.unusedSectionVars false
namespace Go.Proofs.YtbcecodakfejaaaGreat
open Go.RowKit
structure eQ where
  holds : World → Value → Prop
  kE : World → Value → Nat → Prop
  frame : ∀ w w' v, holds w v → (∀ b, kE w v b → w'.heap[b]? = w.heap[b]?) → holds w' v ∧ ∀ b, kE w' v b → kE w v b
  h7 : ∀ w v b, holds w v → kE w v b → b < w.heap.size
  cell : ∀ w v, holds w v → v.oneCell' = true
inductive AC where
  | c (v : Value)
  | own (k off : Nat)
  | p (R : eQ)
inductive br where
  | one (x : AC)
  | agg (xs : List AC)
inductive ah where
  | w (x : br)
  | cj (xs : List br)
def br.cells : br → List AC
  | .one x => [x]
  | .agg xs => xs
def gd (U : Nat → Prop) (ad : Nat → Nat) (W : World) : AC → Value → Prop
  | .c v, x => x = v ∧ v.oneCell' = true
  | .own k off, x => x = .pointer (some ⟨ad k, off, none⟩)
  | .p R, x => R.holds W x ∧ ∀ b, R.kE W x b → U b
def bH (U : Nat → Prop) (ad : Nat → Nat) (W : World) (xs : List AC) (vs : List Value) : Prop :=
  xs.length = vs.length ∧ ∀ (i : Nat) (x : AC) (v : Value), xs[i]? = some x → vs[i]? = some v → gd U ad W x v
def fE (U : Nat → Prop) (ad : Nat → Nat) (W : World) : br → Value → Prop
  | .one x, v => gd U ad W x v
  | .agg xs, v => ∃ vs : List Value, v = .agg vs.toArray ∧ bH U ad W xs vs
def cR (U : Nat → Prop) (ad : Nat → Nat) (W : World) : ah → Value → Prop
  | .w x, v => fE U ad W x v
  | .cj xs, v => ∃ vs : List Value, v = .tuple vs.toArray ∧ xs.length = vs.length ∧ ∀ (i : Nat) (x : br) (v : Value), xs[i]? = some x → vs[i]? = some v → fE U ad W x v
def AC.owns : AC → Nat → Prop
  | .own k _, j => j = k
  | _, _ => False
def br.owns (x : br) (j : Nat) : Prop := ∃ y ∈ x.cells, y.owns j
def ah.owns : ah → Nat → Prop
  | .w x, j => x.owns j
  | .cj xs, j => ∃ x ∈ xs, x.owns j
section
variable {U cq : Nat → Prop} {ad aY : Nat → Nat} {W bb : World}
theorem gd.cell {x : AC} {v : Value} (h : gd U ad W x v) : v.oneCell' = true := by
  cases x with
  | c u => obtain ⟨rfl, h⟩ := h; exact h
  | own k off => cases h; rfl
  | p R => exact R.cell _ _ h.1
theorem gd.map {x : AC} {v : Value} (h : gd U ad W x v) (c8 : ∀ b, U b → b < W.heap.size → cq b ∧ bb.heap[b]? = W.heap[b]?) (je : ∀ j, x.owns j → aY j = ad j) : gd cq aY bb x v := by
  cases x with
  | c u => exact h
  | own k off => simp only [gd] at h ⊢; rw [h, je k rfl]
  | p R =>
    obtain ⟨h1, h2⟩ := h;have h3 := R.frame W bb v h1 (fun b ab => (c8 b (h2 b ab) (R.h7 _ _ _ h1 ab)).2);exact ⟨h3.1, fun b ab => (c8 b (h2 b (h3.2 b ab)) (R.h7 _ _ _ h1 (h3.2 b ab))).1⟩
theorem bH.map {xs : List AC} {vs : List Value} (h : bH U ad W xs vs) (c8 : ∀ b, U b → b < W.heap.size → cq b ∧ bb.heap[b]? = W.heap[b]?) (je : ∀ j x, x ∈ xs → x.owns j → aY j = ad j) : bH cq aY bb xs vs :=
  ⟨h.1, fun i x v aa hv => (h.2 i x v aa hv).map c8 fun j ae => je j x (c5 aa) ae⟩
theorem fE.map {x : br} {v : Value} (h : fE U ad W x v) (c8 : ∀ b, U b → b < W.heap.size → cq b ∧ bb.heap[b]? = W.heap[b]?) (je : ∀ j, x.owns j → aY j = ad j) : fE cq aY bb x v := by
  cases x with
  | one x => exact gd.map h c8 fun j ae => je j ⟨x, by simp [br.cells], ae⟩
  | agg xs =>
    obtain ⟨vs, e, h⟩ := h;exact ⟨vs, e, h.map c8 fun j x aa ae => je j ⟨x, aa, ae⟩⟩
theorem cR.map {x : ah} {v : Value} (h : cR U ad W x v) (c8 : ∀ b, U b → b < W.heap.size → cq b ∧ bb.heap[b]? = W.heap[b]?) (je : ∀ j, x.owns j → aY j = ad j) : cR cq aY bb x v := by
  cases x with
  | w x => exact fE.map h c8 je
  | cj xs =>
    obtain ⟨vs, e, hl, h⟩ := h;exact ⟨vs, e, hl, fun i x v aa hv => (h i x v aa hv).map c8 fun j ae => je j ⟨x, c5 aa, ae⟩⟩
theorem fE.cells {x : br} {v : Value} (h : fE U ad W x v) : bH U ad W x.cells v.cells.toList := by
  cases x with
  | one x =>
    have aj : v.cells = #[v] := by
      have := gd.cell h;cases v <;> simp_all [Value.cells, Value.oneCell']
    rw [aj];refine ⟨rfl, fun i y u ai hu => ?_⟩;simp only [br.cells] at ai;cases i with
    | zero => simp at ai hu; subst ai; subst hu; exact h
    | succ i => simp at ai
  | agg xs =>
    obtain ⟨vs, rfl, h⟩ := h;exact h
end
def bA {α : Type} (f : Nat → Option α) (k : Nat) (v : α) : Nat → Option α := fun j => bif Nat.beq j k then some v else f j
theorem cf {α : Type} (f : Nat → Option α) (k : Nat) (v : α) : bA f k v k = some v := by simp [bA]
theorem b3 {α : Type} (f : Nat → Option α) {k j : Nat} (v : α) (h : j ≠ k) : bA f k v j = f j := by
  have : Nat.beq j k = false := by
    cases ab : Nat.beq j k with
    | false => rfl
    | true => exact absurd (gl ab) h
  simp [bA, this]
theorem Rt {α : Type} (f : Nat → Option α) {k j : Nat} (v u : α) (h : j ≠ k) : bA (bA f k v) j u = bA (bA f j u) k v := by
  funext i
  by_cases h1 : i = j
  · subst h1; rw [cf, b3 _ _ h, cf]
  · by_cases h2 : i = k
    · subst h2; rw [b3 _ _ h1, cf, cf]
    · rw [b3 _ _ h1, b3 _ _ h2, b3 _ _ h2, b3 _ _ h1]
structure az where
  n : Nat
  tmps : Nat → Option ah
  mem : Nat → Option (List AC)
def az.put (s : az) (dst : Option Nat) (v : ah) : az :=
  match dst with
  | some d => { s with tmps := bA s.tmps d v }
  | none => s
def az.dT (s : az) (k : Nat) (cs : List AC) : az := { s with mem := bA s.mem k cs }
def OV : Value → br
  | .agg cs => .agg (cs.toList.map .c)
  | v => .one (.c v)
def wT : Value → ah
  | .tuple vs => .cj (vs.toList.map OV)
  | v => .w (OV v)
def az.look (s : az) : Operand → Option ah
  | .tmp t => s.tmps t
  | .const v => if v.oneCell' then some (.w (.one (.c v))) else none
  | .global g => some (.w (.one (.c (.pointer (some ⟨g, 0, none⟩)))))
  | .func f => some (.w (.one (.c (.func (.func f) #[] #[]))))
def az.free (s : az) (A : Nat → Prop) (ad : Nat → Nat) (b : Nat) : Prop := A b ∧ ∀ k cs, s.mem k = some cs → ad k ≠ b
structure az.cJ (s : az) : Prop where
  gE : ∀ t av j, s.tmps t = some av → av.owns j → ∃ cs, s.mem j = some cs
  dt : ∀ k cs x j, s.mem k = some cs → x ∈ cs → x.owns j → ∃ aq, s.mem j = some aq
structure eP where
  W : World
  F : Nat → Prop
  lt : ∀ b, F b → b < W.heap.size
  N : Nat → Option Nat
  marks : List Deferred := []
def eP.all (W : World) : eP := ⟨W, fun b => b < W.heap.size, fun _ h => h, fun _ => none, []⟩
def tM (B : eP) (s : az) (ad : Nat → Nat) : Prop := ∀ k b, B.N k = some b → s.n ≤ k ∧ ad k = b
structure jO (B : eP) (w : World) : Prop where
  os : w.os = B.W.os
  tape : w.tape = B.W.tape
  output : w.output = B.W.output
  size : B.W.heap.size ≤ w.heap.size
  block : ∀ b, B.F b → w.heap[b]? = B.W.heap[b]?
theorem jO.then {B : eP} {w w' : World} (h : jO B w) (ab : Below w.heap.size w w') : jO B w' :=
  ⟨ab.os.trans h.os, ab.tape.trans h.tape, ab.output.trans h.output, h8 h.size ab.size, fun b ap => (ab.block b (r1 (B.lt b ap) h.size)).trans (h.block b ap)⟩
theorem jO.refl (B : eP) : jO B B.W := ⟨rfl, rfl, rfl, dl _, fun _ _ => rfl⟩
theorem jO.all {W w : World} (h : jO (eP.all W) w) : Below W.heap.size W w := ⟨h.os, h.tape, h.output, h.size, fun k af => h.block k af⟩
structure Rel (B : eP) (A : Nat → Prop) (s : az) (ad : Nat → Nat) (a : Act) (w : World) : Prop where
  pC : a.defers = B.marks
  size : a.tmps.size = s.n
  gE : ∀ t av, s.tmps t = some av → ∃ v, a.tmps[t]? = some v ∧ cR (s.free A ad) ad w av v
  dt : ∀ k cs, s.mem k = some cs → ∃ (vs : List Value) (ty : TypeId), w.heap[ad k]? = some (.cells vs.toArray ty (0, 0)) ∧ bH (s.free A ad) ad w cs vs ∧ ¬ B.F (ad k)
  inj : ∀ k k' cs aq, s.mem k = some cs → s.mem k' = some aq → ad k = ad k' → k = k'
  below : jO B w
  up : ∀ b, B.W.heap.size ≤ b → A b
  jS : tM B s ad
section
variable {B : eP} {A : Nat → Prop} {s : az} {ad : Nat → Nat} {a : Act} {w w' : World}
theorem az.Wm (s : az) (dst : Option Nat) (v : ah) (A : Nat → Prop) (ad : Nat → Nat) : (s.put dst v).free A ad = s.free A ad := by cases dst <;> rfl
theorem az.wO (s : az) (dst : Option Nat) (v : ah) : (s.put dst v).mem = s.mem := by cases dst <;> rfl
theorem az.rV (s : az) (dst : Option Nat) (v : ah) : (s.put dst v).n = s.n := by cases dst <;> rfl
theorem Rel.put {dst : Option Nat} {av : ah} {v : Value} (h : Rel B A s ad a w) (hd : ∀ d, dst = some d → d < s.n) (hv : cR (s.free A ad) ad w av v) : Rel B A (s.put dst av) ad (a.put dst v) w := by
  cases dst with
  | none => exact h
  | some d =>
    have a8 := hd d rfl;refine ⟨h.pC, by simp [az.put, Act.put, h.size], fun t bv ax => ?_, h.dt, h.inj, h.below, h.up, h.jS⟩;simp only [az.put] at ax
    by_cases e : t = d
    · subst e
      rw [cf] at ax;cases ax;exact ⟨v, by simp [Act.put, h.size, a8], hv⟩
    · rw [b3 _ _ e] at ax
      obtain ⟨u, h1, h2⟩ := h.gE t bv ax;exact ⟨u, by simp only [Act.put]; rw [Array.getElem?_setIfInBounds_ne (Ne.symm e)]; exact h1, h2⟩
theorem Rel.lt {k : Nat} {cs : List AC} (h : Rel B A s ad a w) (af : s.mem k = some cs) : ad k < w.heap.size := by
  obtain ⟨vs, ty, h1, _⟩ := h.dt k cs af;exact (jH.1 h1).1
theorem Rel.call (h : Rel B A s ad a w) (ab : Below w.heap.size w w') : Rel B A s ad a w' := by
  have c8 : ∀ b, s.free A ad b → b < w.heap.size → s.free A ad b ∧ w'.heap[b]? = w.heap[b]? := fun b c0 hl => ⟨c0, ab.block b hl⟩;refine ⟨h.pC, h.size, fun t av ax => ?_, fun k cs af => ?_, h.inj, h.below.then ab, h.up, h.jS⟩
  · obtain ⟨v, h1, h2⟩ := h.gE t av ax
    exact ⟨v, h1, h2.map c8 fun _ _ => rfl⟩
  · obtain ⟨vs, ty, h1, h2, h3⟩ := h.dt k cs af
    exact ⟨vs, ty, by rw [ab.block _ (h.lt af)]; exact h1, h2.map c8 fun _ _ _ _ => rfl, h3⟩
theorem Rel.new {d : Nat} {cs : List AC} {vs : List Value} {ty : TypeId} (h : Rel B A s ad a w) (ok : s.cJ) (fG : d < s.n) (hm : s.mem d = none) (hv : bH (s.free A ad) ad w cs vs) (ej : ∀ x ∈ cs, ∀ j, x.owns j → ∃ aq, s.mem j = some aq) :
    Rel B A (s.dT d cs) (fun k => if k = d then w.heap.size else ad k) a (w.alloc (.cells vs.toArray ty)) := by
  have bX : ∀ k aq, s.mem k = some aq → k ≠ d := fun k aq af e => by subst e; rw [hm] at af; cases af
  have c8 : ∀ b, s.free A ad b → b < w.heap.size → (s.dT d cs).free A (fun k => if k = d then w.heap.size else ad k) b ∧ (w.alloc (.cells vs.toArray ty)).heap[b]? = w.heap[b]? := by
    intro b ab hl;refine ⟨⟨ab.1, fun k aq af => ?_⟩, Below.heap_alloc _ _ _ hl⟩;simp only [az.dT] at af
    by_cases e : k = d
    · subst e; simp; omega
    · rw [b3 _ _ e] at af
      simp only [e, if_false];exact ab.2 k aq af
  have cB : ∀ j, (∃ aq, s.mem j = some aq) → (if j = d then w.heap.size else ad j) = ad j := fun j ⟨aq, ae⟩ => by rw [if_neg (bX j aq ae)]
  refine ⟨h.pC, h.size, fun t av ax => ?_, fun k aq af => ?_, fun k k' c1 c2 af eD e => ?_, h.below.then ((Below.refl _ _).alloc (dl _) _), h.up, fun k b af => ?_⟩
  · obtain ⟨v, h1, h2⟩ := h.gE t av ax
    exact ⟨v, h1, h2.map c8 fun j ae => cB j (ok.gE t av j ax ae)⟩
  · simp only [az.dT] at af
    by_cases e : k = d
    · subst e
      rw [cf] at af;cases af;refine ⟨vs, ty, ?_, hv.map c8 fun j x aa ae => cB j (ej x aa j ae), ?_⟩
      · show (w.heap.push _)[if k = k then w.heap.size else ad k]? = _; simp
      · simp only [if_true]; exact fun ap => by have := B.lt _ ap; have := h.below.size; omega
    · rw [b3 _ _ e] at af
      obtain ⟨us, t, h1, h2, h3⟩ := h.dt k aq af;refine ⟨us, t, ?_, h2.map c8 fun j x aa ae => cB j (ok.dt k aq x j af aa ae), ?_⟩
      · simp only [e, if_false]; rw [Below.heap_alloc _ _ _ (h.lt af)]; exact h1
      · simp only [e, if_false]; exact h3
  · simp only [az.dT] at af eD
    by_cases aF : k = d <;> by_cases aN : k' = d
    · rw [aF, aN]
    · rw [b3 _ _ aN] at eD
      have := h.lt eD;simp [aF, aN] at e;omega
    · rw [b3 _ _ aF] at af
      have := h.lt af;simp [aF, aN] at e;omega
    · rw [b3 _ _ aF] at af
      rw [b3 _ _ aN] at eD;simp [aF, aN] at e;exact h.inj k k' _ _ af eD e
  · obtain ⟨h1, h2⟩ := h.jS k b af
    refine ⟨h1, ?_⟩;rw [if_neg (fun e => by subst e; exact absurd fG (Nat.not_lt.2 h1))];exact h2
theorem Rel.set {k : Nat} {cs ds : List AC} {us : List Value} (h : Rel B A s ad a w) (af : s.mem k = some cs) (hv : bH (s.free A ad) ad w ds us) : Rel B A (s.dT k ds) ad a (w.setRow (ad k) us.toArray) := by
  have jv : (s.dT k ds).free A ad = s.free A ad := by
    funext b;apply propext
    constructor
    · rintro ⟨dR, ab⟩
      refine ⟨dR, fun j aq ae => ?_⟩
      by_cases e : j = k
      · subst e; exact ab j ds (by simp [az.dT, cf])
      · exact ab j aq (by simp only [az.dT]; rw [b3 _ _ e]; exact ae)
    · rintro ⟨dR, ab⟩
      refine ⟨dR, fun j aq ae => ?_⟩;simp only [az.dT] at ae
      by_cases e : j = k
      · subst e; exact ab j cs af
      · rw [b3 _ _ e] at ae; exact ab j aq ae
  obtain ⟨vs, ty, g1, g2, g3⟩ := h.dt k cs af;have mO : (w.setRow (ad k) us.toArray).heap[ad k]? = some (.cells us.toArray ty (0, 0)) := setRow_heap w (ad k) vs.toArray us.toArray ty (0, 0) g1
  have uI : ∀ b, b ≠ ad k → (w.setRow (ad k) us.toArray).heap[b]? = w.heap[b]? := fun b ab => by
    simp only [World.setRow, tw]; rw [if_neg (Ne.symm ab)]
  have c8 : ∀ b, s.free A ad b → b < w.heap.size → s.free A ad b ∧ (w.setRow (ad k) us.toArray).heap[b]? = w.heap[b]? := fun b ab _ => ⟨ab, uI b (Ne.symm (ab.2 k cs af))⟩;refine ⟨h.pC, h.size, fun t av ax => ?_, fun j aq ae => ?_, fun j ek c1 c2 ae iM e => ?_, ?_, h.up, h.jS⟩
  · obtain ⟨v, h1, h2⟩ := h.gE t av ax
    exact ⟨v, h1, by rw [jv]; exact h2.map c8 fun _ _ => rfl⟩
  · simp only [az.dT] at ae
    rw [jv]
    by_cases e : j = k
    · subst e
      rw [cf] at ae;cases ae;exact ⟨us, ty, mO, hv.map c8 fun _ _ _ _ => rfl, g3⟩
    · rw [b3 _ _ e] at ae
      obtain ⟨vl, afT, h1, h2, h3⟩ := h.dt j aq ae;exact ⟨vl, afT, by rw [uI _ (fun bm => e (h.inj j k _ _ ae af bm))]; exact h1, h2.map c8 fun _ _ _ _ => rfl, h3⟩
  · have hold : ∀ i c, (s.dT k ds).mem i = some c → ∃ c', s.mem i = some c' := fun i c hi => by
      simp only [az.dT] at hi
      by_cases e : i = k
      · exact ⟨cs, by rw [e]; exact af⟩
      · rw [b3 _ _ e] at hi; exact ⟨c, hi⟩
    obtain ⟨d1, q1⟩ := hold j c1 ae;obtain ⟨d2, q2⟩ := hold ek c2 iM;exact h.inj j ek _ _ q1 q2 e
  · exact ⟨h.below.os, h.below.tape, h.below.output, by have := h.below.size; simpa [World.setRow] using this, fun b ab => (uI b (fun e => by subst e; exact g3 ab)).trans (h.below.block b ab)⟩
end
def ah.closed (x : ah) : Prop := ∀ j, ¬ x.owns j
def jR (U : Nat → Prop) (ad : Nat → Nat) (W : World) (xs : List ah) (vs : List Value) : Prop :=
  xs.length = vs.length ∧ ∀ (i : Nat) (x : ah) (v : Value), xs[i]? = some x → vs[i]? = some v → cR U ad W x v
structure aC (P : Program) (f : FuncId) (args : List ah) (r : ah) : Prop where
  jq : ∀ x ∈ args, x.closed
  bV : r.closed
  call : ∀ (U : Nat → Prop) (W : World) (vs : List Value), jR U id W args vs →
    Calls P f vs.toArray W fun e bb => ∃ v, e = .returned v ∧ cR (fun b => U b ∨ W.heap.size ≤ b) id bb r v ∧ Below W.heap.size W bb
structure vv (P : Program) (look : Operand → Option ah) (o : Oper) (av : ah) : Prop where
  aeQ : ∀ cs b, o.op ≠ .select cs b
  ops : ∀ x ∈ o.op.operands, ∃ a, look x = some a
  run : ∀ (U : Nat → Prop) (ad : Nat → Nat) (W : World) (env : Operand → Value), (∀ x ∈ o.op.operands, ∀ a, look x = some a → cR U ad W a (env x)) →
    ∃ v, (execOp env o).run P W = .ok (.value v) W ∧ cR U ad W av v
  own : ∀ j, av.owns j → ∃ x ∈ o.op.operands, ∃ a, look x = some a ∧ a.owns j
def pick (P : Program) (ty : TypeId) (cs : List AC) (off : Nat) : Option br :=
  match P.underlying ty with
  | some (.struct _) | some (.array _ _) => (P.info? ty).bind fun i => if off + i.size ≤ cs.length then some (.agg ((cs.drop off).take i.size)) else none
  | some _ => (cs[off]?).map .one
  | none => none
def eu (cs : List AC) (off : Nat) (ds : List AC) : List AC := cs.take off ++ ds ++ cs.drop (off + ds.length)
inductive tV (P : Program) (look : Operand → Option ah) (o : Oper) : List AC → Prop
  | alloc (ty : TypeId) (i : TypeInfo) (z : Value) (cs : List AC) (ay : o.op = .alloc ty) (hi : P.info? ty = some i) (aI : i.zero = some z) (aj : cs = z.cells.toList.map .c) (h1 : (z.cells.toList.all fun v => v.oneCell') = true) : tV P look o cs
  | box (ty : TypeId) (x : Operand) (z : br) (ay : o.op = .box ty x) (aa : look x = some (.w z)) : tV P look o z.cells
def enters (P : Program) (f : FuncId) : Bool := match P.funcs[f]? with
  | some fn => fn.body.isSome && fn.name != "runtime.NumGoroutine"
  | none => false
def A4 : Value → Bool
  | .agg cs => cs.toList.all fun v => v.oneCell'
  | .tuple _ => false
  | _ => true
def EP (w : World) : AC → Value → Nat → Prop
  | .p R, x, b => R.kE w x b
  | _, _, _ => False
def oT (fn : Fn) (cs : List AC) : eQ where
  holds w v := ∃ vs : List Value, v = .func fn #[] vs.toArray ∧ bH (fun _ => True) id w cs vs ∧ ∀ x ∈ cs, ∀ j, ¬ x.owns j
  kE w v b := ∃ vs : List Value, v = .func fn #[] vs.toArray ∧ ∃ (i : Nat) (x : AC) (u : Value), cs[i]? = some x ∧ vs[i]? = some u ∧ EP w x u b
  frame w w' v := by
    rintro ⟨vs, rfl, hl, aj⟩ ap
    have key : ∀ (i : Nat) (x : AC) (u : Value), cs[i]? = some x → vs[i]? = some u → gd (fun _ => True) id w' x u ∧ ∀ b, EP w' x u b → EP w x u b := by
      intro i x u aa hu;have h := hl.2 i x u aa hu;cases x with
      | c y => exact ⟨h, fun b ab => ab⟩
      | own k o => exact ⟨h, fun b ab => ab⟩
      | p R =>
        have := R.frame w w' u h.1 fun b ab => ap b ⟨vs, rfl, i, _, u, aa, hu, ab⟩;exact ⟨⟨this.1, fun _ _ => trivial⟩, this.2⟩
    refine ⟨⟨vs, rfl, ⟨hl.1, fun i x u aa hu => (key i x u aa hu).1⟩, aj⟩, ?_⟩;rintro b ⟨vl, e, i, x, u, aa, hu, ab⟩;have bm : vs = vl := by simpa using e
    subst bm;exact ⟨vs, rfl, i, x, u, aa, hu, (key i x u aa hu).2 b ab⟩
  h7 w v b := by
    rintro ⟨vs, rfl, hl, aj⟩ ⟨vl, e, i, x, u, aa, hu, ab⟩;have bm : vs = vl := by simpa using e
    subst bm;have h := hl.2 i x u aa hu;cases x with
    | p R => exact R.h7 _ _ _ h.1 ab
    | c y => cases ab
    | own k o => cases ab
  cell w v := by rintro ⟨vs, rfl, _⟩; rfl
theorem oT.U0 {U : Nat → Prop} {ad : Nat → Nat} {w : World} {v : Value} {fn : Fn} {cs : List AC} (h : gd U ad w (.p (oT fn cs)) v) : ∃ vs : List Value, v = .func fn #[] vs.toArray ∧ bH U id w cs vs := by
  obtain ⟨⟨vs, rfl, hl, aj⟩, ap⟩ := h;refine ⟨vs, rfl, hl.1, fun i x u aa hu => ?_⟩;have h := hl.2 i x u aa hu;cases x with
  | c y => exact h
  | own k o => exact h
  | p R => exact ⟨h.1, fun b ab => ap b ⟨vs, rfl, i, _, u, aa, hu, ab⟩⟩
structure sg (P : Program) (look : Operand → Option ah) (o : Oper) (f : FuncId) (args : List ah) : Prop where
  ex : ∃ c g, o.op = .call c ∧ c.callee = .value g ∧
    ((∃ bs : List Value, look g = some (.w (.one (.c (.func (.func f) bs.toArray #[])))) ∧ bs.map (fun b => some (wT b)) ++ c.args.toList.map look = args.map some ∧ bs.all A4 = true) ∨
     ∃ cs : List AC, look g = some (.w (.one (.p (oT (.func f) cs)))) ∧ c.args.toList.map look ++ cs.map (fun x => some (.w (.one x))) = args.map some)
  enters : enters P f = true
structure vq (P : Program) (look : Operand → Option ah) (o : Oper) (av : ah) : Prop where
  ops : ∀ x ∈ o.op.operands, ∃ a, look x = some a
  o9 : av.closed
  run : ∀ (U : Nat → Prop) (ad : Nat → Nat) (W : World) (env : Operand → Value), (∀ x ∈ o.op.operands, ∀ a, look x = some a → cR U ad W a (env x)) →
    ∃ v bb, (execOp env o).run P W = .ok (.value v) bb ∧ cR (fun b => U b ∨ W.heap.size ≤ b) ad bb av v ∧ Below W.heap.size W bb
inductive kU (P : Program) (s : az) (o : Oper) : az → Prop
  | fresh (av : ah) (ak : vq P s.look o av) (hd : ∀ d, o.dst = some d → d < s.n) : kU P s o (s.put o.dst av)
  | quiet (av : ah) (ak : vv P s.look o av) (hd : ∀ d, o.dst = some d → d < s.n) : kU P s o (s.put o.dst av)
  | load (ty : TypeId) (x : Operand) (k off : Nat) (cs : List AC) (av : br) (ay : o.op = .load ty x) (aa : s.look x = some (.w (.one (.own k off)))) (hm : s.mem k = some cs) (hv : pick P ty cs off = some av) (hd : ∀ d, o.dst = some d → d < s.n) : kU P s o (s.put o.dst (.w av))
  | store (ty : TypeId) (x y : Operand) (k off : Nat) (cs : List AC) (z : br) (i : TypeInfo) (ay : o.op = .store ty x y) (aa : s.look x = some (.w (.one (.own k off)))) (ai : s.look y = some (.w z)) (hm : s.mem k = some cs) (hi : P.info? ty = some i) (hs : i.size = z.cells.length) (ab : off + z.cells.length ≤ cs.length) (hd : ∀ d, o.dst = some d → d < s.n) : kU P s o ((s.put o.dst (.cj [])).dT k (eu cs off z.cells))
  | new (cs : List AC) (d : Nat) (dp : o.dst = some d) (hm : s.mem d = none) (au : tV P s.look o cs) (hd : d < s.n) : kU P s o ((s.dT d cs).put (some d) (.w (.one (.own d 0))))
  | call (f : FuncId) (args : List ah) (r : ah) (aj : sg P s.look o f args) (hp : aC P f args r) (hd : ∀ d, o.dst = some d → d < s.n) : kU P s o (s.put o.dst r)
section
variable {P : Program} {B : eP} {A : Nat → Prop} {s s' : az} {ad : Nat → Nat} {a : Act} {w : World} {o : Oper} {Q : Exit → Act → World → Prop}
theorem cR.undef (U : Nat → Prop) : cR U ad w (.cj []) undef := ⟨[], rfl, rfl, fun i x v h => by simp at h⟩
theorem Rel.look {x : Operand} {av : ah} (h : Rel B A s ad a w) (aa : s.look x = some av) : cR (s.free A ad) ad w av (a.eval x) := by
  cases x with
  | tmp t =>
    obtain ⟨v, h1, h2⟩ := h.gE t av aa;have : a.eval (.tmp t) = v := by simp [Act.eval, Array.getD_eq_getD_getElem?, h1]
    rw [this]; exact h2
  | const v =>
    simp only [az.look] at aa
    split at aa
    · rename_i h1; cases aa; exact ⟨rfl, h1⟩
    · cases aa
  | global g => cases aa; exact ⟨rfl, rfl⟩
  | func f => cases aa; exact ⟨rfl, rfl⟩
theorem bH.cellAt {U : Nat → Prop} {W : World} {xs : List AC} {vs : List Value} {g : Nat} {ty : TypeId} (h : bH U ad W xs vs) (ao : W.heap[g]? = some (.cells vs.toArray ty (0, 0))) {i : Nat} {x : AC} (hi : xs[i]? = some x) :
    ∃ v, vs[i]? = some v ∧ W.cell? ⟨g, i, none⟩ = some v ∧ gd U ad W x v := by
  have a8 : i < vs.length := by
    rw [← h.1];rcases hM i xs.length with q | q
    · exact q
    · rw [lQ q] at hi; cases hi
  refine ⟨vs[i], bQ a8, ?_, h.2 i x _ hi (bQ a8)⟩;simp [World.cell?, ao, a8]
theorem bH.sub {U : Nat → Prop} {W : World} {xs : List AC} {vs : List Value} (h : bH U ad W xs vs) (off n : Nat) : bH U ad W ((xs.drop off).take n) ((vs.drop off).take n) := by
  refine ⟨by simp [h.1], fun i x v aa hv => ?_⟩;rw [List.getElem?_take] at aa hv
  split at aa
  · rename_i a8
    rw [if_pos a8] at hv;rw [fC] at aa hv;exact h.2 _ x v aa hv
  · cases aa
theorem bH.eu {U : Nat → Prop} {W : World} {xs ds : List AC} {vs us : List Value} (h : bH U ad W xs vs) (hd : bH U ad W ds us) (off : Nat) (ab : off + ds.length ≤ xs.length) : bH U ad W (eu xs off ds) (vs.take off ++ us ++ vs.drop (off + us.length)) := by
  have aF := h.1;have aN := hd.1;refine ⟨by simp [Proofs.YtbcecodakfejaaaGreat.eu, aF, aN], fun i x v aa hv => ?_⟩;unfold Proofs.YtbcecodakfejaaaGreat.eu at aa;have di : (xs.take off).length = off := by simp; omega
  have Cw : (vs.take off).length = off := by simp; omega
  by_cases h1 : i < off
  · rw [gQ, fK (by omega), fk h1] at aa
    rw [gQ, fK (by omega), fk h1] at hv;exact h.2 i x v aa hv
  · by_cases h2 : i < off + ds.length
    · rw [gQ, gm (by omega), fK (by omega), di] at aa
      rw [gQ, gm (by omega), fK (by omega), Cw] at hv;exact hd.2 _ x v aa hv
    · rw [gm (by simp; omega), fC] at aa hv
      simp only [cx, di, Cw] at aa hv;rw [← aN] at hv;have e : off + ds.length + (i - (off + ds.length)) = i := by omega
      rw [e] at aa hv;exact h.2 i x v aa hv
theorem Ig {ty : TypeId} {A : Addr} {v : Value} {d : TypeDesc} (hu : P.underlying ty = some d) (hs : ∀ bc, d ≠ .struct bc) (aH : ∀ n e, d ≠ .array n e) (aj : w.cell? A = some v) : (loadVar ty A).run P w = .ok v w := by
  have h1 : (isAgg ty).run P w = .ok false w := by
    unfold isAgg;simp only [Sem.run_bind, run_underlying hu, Result.andThen_ok];cases d <;> first | rfl | (exact absurd rfl (hs _)) | (exact absurd rfl (aH _ _))
  unfold loadVar;simp only [Sem.run_bind, h1, Result.andThen_ok, mZ, if_false];simp [load, Sem.run, aj]
theorem ht {ty : TypeId} {i : TypeInfo} (hi : P.info? ty = some i) : (sizeOf ty).run P w = .ok i.size w := by
  simp [sizeOf, typeInfo, program, Sem.run_bind, Sem.run, hi, Result.andThen]
theorem Ie {ty : TypeId} {A : Addr} {vs : List Value} {i : TypeInfo} {d : TypeDesc} (hu : P.underlying ty = some d) (hd : (∃ bc, d = .struct bc) ∨ ∃ n e, d = .array n e) (hi : P.info? ty = some i) (hl : vs.length = i.size) (aj : ∀ j v, vs[j]? = some v → w.cell? (A.add j) = some v) :
    (loadVar ty A).run P w = .ok (.agg vs.toArray) w := by
  have h1 : (isAgg ty).run P w = .ok true w := by
    unfold isAgg;simp only [Sem.run_bind, run_underlying hu, Result.andThen_ok];rcases hd with ⟨bc, rfl⟩ | ⟨n, e, rfl⟩ <;> rfl
  unfold loadVar;simp only [Sem.run_bind, h1, Result.andThen_ok, if_true, ht hi, ← hl, run_loadCells_list w A vs aj];rfl
end
section
variable {P : Program} {B : eP} {A : Nat → Prop} {s s' : az} {ad : Nat → Nat} {a : Act} {w : World} {o : Oper} {Q : Exit → Act → World → Prop}
theorem PR {U : Nat → Prop} {ty : TypeId} {cs : List AC} {off g : Nat} {av : br} {vs : List Value} {t : TypeId} (hv : pick P ty cs off = some av) (ao : w.heap[g]? = some (.cells vs.toArray t (0, 0))) (hl : bH U ad w cs vs) :
    ∃ v, (loadVar ty ⟨g, off, none⟩).run P w = .ok v w ∧ fE U ad w av v := by
  unfold pick at hv
  have key : ∀ d, P.underlying ty = some d → ((∃ bc, d = .struct bc) ∨ ∃ n e, d = .array n e) → ((P.info? ty).bind fun i => if off + i.size ≤ cs.length then some (br.agg ((cs.drop off).take i.size)) else none) = some av → ∃ v, (loadVar ty ⟨g, off, none⟩).run P w = .ok v w ∧ fE U ad w av v := by
    intro d hu hd h;cases hi : P.info? ty with
    | none => rw [hi] at h; cases h
    | some i =>
      rw [hi] at h;simp only [j2] at h
      split at h
      · rename_i hle
        cases h;have hs := hl.sub off i.size;have hlen : ((vs.drop off).take i.size).length = i.size := by have := hl.1; simp; omega
        refine ⟨_, Ie hu hd hi hlen (fun j v ae => ?_), _, rfl, hs⟩;have iM : j < i.size := by rw [← hlen]; exact (bF.1 ae).1
        rw [fk iM, fC] at ae;have kj : (⟨g, off, none⟩ : Addr).add j = ⟨g, off + j, none⟩ := by unfold Addr.add; split <;> simp_all
        rw [kj];simp only [World.cell?, ao];simpa using ae
      · cases h
  have G6 : ∀ d, P.underlying ty = some d → (∀ bc, d ≠ .struct bc) → (∀ n e, d ≠ .array n e) → (cs[off]?).map br.one = some av → ∃ v, (loadVar ty ⟨g, off, none⟩).run P w = .ok v w ∧ fE U ad w av v := by
    intro d hu h1 h2 h;cases aa : cs[off]? with
    | none => rw [aa] at h; cases h
    | some x =>
      rw [aa] at h;cases h;obtain ⟨v, q1, q2, bE⟩ := hl.cellAt ao aa;exact ⟨v, Ig hu h1 h2 q2, bE⟩
  cases hu : P.underlying ty with
  | none => rw [hu] at hv; cases hv
  | some d =>
    rw [hu] at hv;cases d <;> first | exact key _ hu (.inl ⟨_, rfl⟩) hv | exact key _ hu (.inr ⟨_, _, rfl⟩) hv | exact G6 _ hu (fun _ h => by cases h) (fun _ _ h => by cases h) hv
theorem Bj {f : FuncId} {args : Array Value} (h : enters P f = true) : (callFunc f args).run P w = .ok (.enter f args) w := by
  unfold enters at h;cases ap : P.funcs[f]? with
  | none => rw [ap] at h; cases h
  | some fn =>
    rw [ap] at h;simp only [dx, bne_iff_ne, ne_eq] at h;obtain ⟨h1, h2⟩ := h;simp [callFunc, program, Sem.run_bind, Sem.run, ap, Result.andThen, h2];intro h3;rw [h3] at h1;cases h1
def l3 (ro : Option Nat) : Fence := { Fence.wide with round := ro }
theorem UZ {ro : Option Nat} {n : Nat} {P : Program} {f : FuncId} {args : Array Value} {w : World} {R : Ending → World → Prop} (h : Calls P f args w R) : CallsIn (l3 ro) n P f args w R := callsIn_wide.2 h
theorem aei {ro : Option Nat} {n : Nat} {P : Program} {row : String} {args : Array Value} {w : World} {R : Value → World → Prop} (h : Rows P row args w R) : RowsIn (l3 ro) n P row args w R := fun c cs _ => by
  obtain ⟨v, w', al, hs⟩ := h c cs;exact ⟨v, w', al, stepsIn_wide.2 hs⟩
theorem wR {P : Program} {ad : Operand → Value} {o : Oper} {w w' : World} {x : Next} (h : (execOp ad o).run P w = .ok x w') (aa : ∀ d, x ≠ .defer d) : ∀ c, o.op ≠ .defer c := fun c aj => by
  simp only [execOp, aj, Sem.run_bind] at h;cases al : (resolve ad c o.type).run P w with
  | ok d w2 => rw [al] at h; simp only [Result.andThen_ok, Sem.run_pure, Result.ok.injEq] at h; exact aa d h.1.symm
  | halt r w2 => rw [al] at h; simp [Result.andThen] at h
theorem Oper.RN {ro : Option Nat} {n : Nat} {P : Program} {o : Oper} {a : Act} {w : World} {K : Act → World → Prop} {Q : Exit → Act → World → Prop} (h : o.wp P a w K Q) (hd : ∀ c, o.op ≠ .defer c) : o.wpIn (l3 ro) n P a w K Q := by
  refine ⟨fun _ _ => trivial, ?_⟩;rw [Oper.semAt_eq _ _ _ hd];unfold Oper.wp at h;generalize (execOp a.eval o).run P w = r at *;have au : (l3 ro).depth.isSome = true → 1 ≤ n := fun h => by simp [l3, Fence.wide] at h
  cases r with
  | ok x w' => cases x <;> first | exact h | exact ⟨au, UZ h⟩ | exact ⟨au, aei h⟩ | exact h.elim
  | halt x w' => cases x <;> exact h
def ka (P : Program) (c : Code) (Q : Exit → Act → World → Prop) (a : Act) (w : World) : Prop := ∀ ro, c.wpIn (l3 ro) 0 P Q a w
section
variable {P : Program} {Q Je : Exit → Act → World → Prop} {a : Act} {w : World} {c x y : Code}
theorem ka.top (h : ka P c Q a w) : c.wp P Q a w := wpIn_wide.1 (h none)
theorem qV (h : ka P c Q a w) (ak : ∀ e a w, Q e a w → Je e a w) : ka P c Je a w := fun ro => wpIn_mono (h ro) ak
theorem RH (h : ka P x (Exit.then (ka P y Q) Q) a w) : ka P (.seq x y) Q a w := fun ro => wpIn_seq (wpIn_mono (h ro) fun e a w ak => by cases e <;> first | exact ak ro | exact ak)
theorem RI (h : Q .normal a w) : ka P .skip Q a w := fun ro => wpIn_skip h
theorem RC {id : Nat} (h : Q (.exit id) a w) : ka P (.exit id) Q a w := fun ro => wpIn_exit h
theorem RG (h : Q .ret a w) : ka P .ret Q a w := fun ro => wpIn_ret h
theorem RB {c : Operand} {t : Bool} (aj : a.eval c = .bool t) (h : ka P (if t then x else y) Q a w) : ka P (.cond c x y) Q a w := fun ro => wpIn_cond aj (h ro)
theorem RA {id : Nat} (h : ka P c (Exit.inBlock id Q) a w) : ka P (.block id c) Q a w := fun ro => wpIn_block (h ro)
theorem RE {id : Nat} {ops : Array Oper} (h : ∀ ro, wpOpsIn (l3 ro) 0 P ops Q (List.range ops.size) a w) : ka P (.region id ops false) Q a w := fun ro => wpIn_region (h ro)
theorem RF {id : Nat} {ops : Array Oper} (hm : P.follows .mixedOrders = true) (h : ∀ ro, wpAnyIn (l3 ro) 0 P .any ops Q ops.size (Array.replicate ops.size false) a { w with drawn := w.drawn + 1 }) : ka P (.region id ops true) Q a w := fun ro => wpIn_region_any hm (h ro)
end
theorem Oper.vn {v : Value} {w' : World} {next : Act → World → Prop} (h : (execOp a.eval o).run P w = .ok (.value v) w') (au : next (a.put o.dst v) w') : o.wp P a w next Q := by
  unfold Oper.wp;rw [h];exact au
theorem Rel.M7 {U : Nat → Prop} {x : ah} {v : Value} (aj : x.closed) (h : cR U ad w x v) : cR U id w x v := h.map (fun b ab _ => ⟨ab, rfl⟩) fun j ae => absurd ae (aj j)
theorem QJ {U : Nat → Prop} {v : Value} (h : A4 v = true) : cR U ad w (wT v) v := by
  cases v with
  | agg cs =>
    refine ⟨cs.toList, by simp, by simp, fun i x u aa hu => ?_⟩;rw [ef, hu] at aa;cases aa;exact ⟨rfl, cb.1 h u (c5 hu)⟩
  | tuple vs => cases h
  | _ => exact ⟨rfl, rfl⟩
theorem kU.OE (h : kU P s o s') (ar : Rel B A s ad a w) : ∀ c, o.op ≠ .defer c := by
  cases h with
  | quiet av ak hd =>
    obtain ⟨v, h1, h2⟩ := ak.run (s.free A ad) ad w a.eval (fun x aa b ab => ar.look ab);exact wR h1 (fun d h => by cases h)
  | fresh av ak hd =>
    obtain ⟨v, bb, h1, h2, ab⟩ := ak.run (s.free A ad) ad w a.eval (fun x aa b ab => ar.look ab);exact wR h1 (fun d h => by cases h)
  | load ty x k off cs av ay => intro c aj; rw [ay] at aj; cases aj
  | store ty x y k off cs z i ay => intro c aj; rw [ay] at aj; cases aj
  | new cs d dp hm au hd =>
    intro c aj;cases au with
    | alloc ty i z cs ay => rw [ay] at aj; cases aj
    | box ty x z ay => rw [ay] at aj; cases aj
  | call f args r aj hp hd =>
    intro c ny;obtain ⟨⟨c', g, ay, _⟩, _⟩ := aj;rw [ay] at ny; cases ny
theorem kU.sound (h : kU P s o s') (ar : Rel B A s ad a w) (ok : s.cJ) : o.wp P a w (fun a' w' => ∃ aY, Rel B A s' aY a' w') Q := by
  cases h with
  | quiet av ak hd =>
    obtain ⟨v, h1, h2⟩ := ak.run (s.free A ad) ad w a.eval (fun x aa b ab => ar.look ab);exact Oper.vn h1 ⟨ad, ar.put hd h2⟩
  | fresh av ak hd =>
    obtain ⟨v, bb, h1, h2, ab⟩ := ak.run (s.free A ad) ad w a.eval (fun x aa b ab => ar.look ab);refine Oper.vn h1 ⟨ad, (ar.call ab).put hd (h2.map (fun b c0 hl => ⟨?_, rfl⟩) fun j ae => rfl)⟩;rcases c0 with h | h
    · exact h
    · refine ⟨ar.up b (h8 ar.below.size h), fun k cs af e => ?_⟩
      have := ar.lt af;omega
  | load ty x k off cs av ay aa hm hv hd =>
    obtain ⟨vs, t, g1, g2, g3⟩ := ar.dt k cs hm;obtain ⟨v, h1, h2⟩ := PR hv g1 g2;have hp : a.eval x = .pointer (some ⟨ad k, off, none⟩) := ar.look aa;refine Oper.vn (v := v) (w' := w) ?_ ⟨ad, ar.put hd h2⟩;simp only [execOp, ay, Instr.loadAt, hp, Instr.sureAddr, Sem.run_bind, Sem.run_pure, Result.andThen_ok, h1]
  | store ty x y k off cs z i ay aa ai hm hi hs ab hd =>
    obtain ⟨vs, t, g1, g2, g3⟩ := ar.dt k cs hm;have hp : a.eval x = .pointer (some ⟨ad k, off, none⟩) := ar.look aa;have aI : fE (s.free A ad) ad w z (a.eval y) := ar.look ai;have oq := aI.cells;have uM : (a.eval y).cells.size = z.cells.length := by have := oq.1; simp at this; exact this.symm
    have iP : (storeVar ty ⟨ad k, off, none⟩ (a.eval y)).run P w = .ok () (w.setRow (ad k) (vs.take off ++ (a.eval y).cells.toList ++ vs.drop (off + (a.eval y).cells.toList.length)).toArray) := by
      unfold storeVar;have bX : ¬ ((a.eval y).cells.size ≠ i.size) := by rw [uM, hs]; simp
      simp only [Sem.run_bind, ht hi, Result.andThen_ok, if_neg bX]
      have dn : ∀ v ∈ (a.eval y).cells.toList, v.oneCell' = true := fun v hv => by
        obtain ⟨j, ae⟩ := jh hv;have a8 : j < z.cells.length := by rw [oq.1]; exact (bF.1 ae).1
        exact (oq.2 j _ v (bQ a8) ae).cell
      have := run_storeCells_at (P := P) (ad k) off t (a.eval y).cells.toList 0 vs.toArray w g1 (by have := g2.1; simp; omega) dn;simpa using this
    have hrel := (Rel.set (k := k) (ds := eu cs off z.cells) (ar.put (dst := o.dst) hd (cR.undef _)) (by rw [az.wO]; exact hm) (by rw [az.Wm]; exact g2.eu oq off ab));unfold Oper.wp
    have gh : (execOp a.eval o).run P w = .ok .skip (w.setRow (ad k) (vs.take off ++ (a.eval y).cells.toList ++ vs.drop (off + (a.eval y).cells.toList.length)).toArray) := by
      simp only [execOp, ay, Instr.storeAt, hp, Instr.sureAddr, Sem.run_bind, Sem.run_pure, Result.andThen_ok, iP]
    rw [gh];exact ⟨ad, hrel⟩
  | new cs d dp hm au hd =>
    have main : ∀ (vs : List Value) (ty : TypeId), bH (s.free A ad) ad w cs vs → (∀ x ∈ cs, ∀ j, x.owns j → ∃ aq, s.mem j = some aq) → (execOp a.eval o).run P w = .ok (.value (.pointer (some ⟨w.heap.size, 0, none⟩))) (w.alloc (.cells vs.toArray ty)) →
        o.wp P a w (fun a' w' => ∃ aY, Rel B A ((s.dT d cs).put (some d) (.w (.one (.own d 0)))) aY a' w') Q := by
      intro vs ty hl cB gh;refine Oper.vn gh ⟨fun k => if k = d then w.heap.size else ad k, ?_⟩;rw [dp];refine (ar.new ok hd hm hl cB).put (fun d' e => by cases e; exact hd) ?_;show Value.pointer _ = Value.pointer _;simp
    cases au with
    | alloc ty i z cs ay hi aI aj h1 =>
      subst aj;refine main z.cells.toList ty ⟨by simp, fun j x v aa hv => ?_⟩ (fun x aa j ae => ?_) ?_
      · rw [ef, hv] at aa
        cases aa;exact ⟨rfl, cb.1 h1 v (c5 hv)⟩
      · obtain ⟨v, _, rfl⟩ := h9.1 aa
        cases ae
      · have rL : (zeroValue ty).run P w = .ok z w := by simp [zeroValue, typeInfo, program, Sem.run_bind, Sem.run, hi, Result.andThen, aI]
        simp only [execOp, ay, Instr.alloc, Sem.run_bind, rL, Result.andThen_ok, newVar, newRow, newObj, Sem.run];rfl
    | box ty x z ay aa =>
      have aI : fE (s.free A ad) ad w z (a.eval x) := ar.look aa;refine main (a.eval x).cells.toList ty aI.cells (fun y ai j ae => ?_) ?_
      · cases x with
        | tmp t => exact ok.gE t _ j aa ⟨y, ai, ae⟩
        | const v =>
          simp only [az.look] at aa
          split at aa
          · cases aa; simp [br.cells] at ai; subst ai; cases ae
          · cases aa
        | global g => cases aa; simp [br.cells] at ai; subst ai; cases ae
        | func g => cases aa; simp [br.cells] at ai; subst ai; cases ae
      · simp only [execOp, ay, Instr.box, newVar, newRow, newObj, Sem.run_bind, Sem.run, Result.andThen_ok]
        rfl
  | call f args r aj hp hd =>
    obtain ⟨⟨c, g, ay, yn, aR⟩, ys⟩ := aj;have cK : ∀ {y : Operand} {x : ah}, x ∈ args → s.look y = some x → cR (s.free A ad) id w x (a.eval y) := fun {y x} aa ai => Rel.M7 (ad := ad) (hp.jq x aa) (ar.look ai)
    obtain ⟨us, cI, gh⟩ : ∃ us : List Value, jR (s.free A ad) id w args us ∧ (execOp a.eval o).run P w = .ok (.enter f us.toArray) w := by
      rcases aR with ⟨bs, ao, od, wo⟩ | ⟨cs, ao, od⟩
      · have km : a.eval g = .func (.func f) bs.toArray #[] := (ar.look ao).1
        refine ⟨bs ++ c.args.toList.map a.eval, ?_, ?_⟩
        · refine ⟨by have := congrArg List.length od; simpa using this.symm, fun i x v aa hv => ?_⟩
          have h1 : (bs.map (fun b => some (wT b)) ++ c.args.toList.map s.look)[i]? = some (some x) := by rw [od, ef, aa]; rfl
          rcases hM i bs.length with a8 | kl
          · rw [fK (by simpa using a8), ef] at h1
            rw [fK a8] at hv;rw [hv] at h1;simp only [gC, gP] at h1;subst h1;exact QJ (cb.1 wo v (c5 hv))
          · rw [gm (by simpa using kl), ef] at h1
            rw [gm kl, ef] at hv;simp only [mo] at h1;cases ai : c.args.toList[i - bs.length]? with
            | none => rw [ai] at hv; cases hv
            | some y =>
              rw [ai] at h1 hv;simp only [gC, gP] at h1 hv;subst hv;exact cK (c5 aa) h1
        · have e : bs.toArray ++ c.args.map a.eval ++ #[] = (bs ++ c.args.toList.map a.eval).toArray := by
            rw [Array.append_empty];apply Array.ext';simp
          simp only [execOp, ay, resolve, yn, Deferred.ofValue, km];simp only [Sem.run_bind, Sem.run_pure, Result.andThen_ok, invoke];rw [e];exact Bj ys
      · obtain ⟨vs, km, cA⟩ := oT.U0 (ad := ad) (ar.look ao)
        refine ⟨c.args.toList.map a.eval ++ vs, ?_, ?_⟩
        · refine ⟨by have := congrArg List.length od; have h2 := cA.1; simp at this ⊢; omega, fun i x v aa hv => ?_⟩
          have h1 : (c.args.toList.map s.look ++ cs.map (fun x => some (.w (.one x))))[i]? = some (some x) := by rw [od, ef, aa]; rfl
          rcases hM i c.args.toList.length with a8 | kl
          · rw [fK (by simpa using a8), ef] at h1
            rw [fK (by simpa using a8), ef] at hv;cases ai : c.args.toList[i]? with
            | none => rw [ai] at hv; cases hv
            | some y =>
              rw [ai] at h1 hv;simp only [gC, gP] at h1 hv;subst hv;exact cK (c5 aa) h1
          · rw [gm (by simpa using kl), ef] at h1
            rw [gm (by simpa using kl)] at hv;simp only [mo] at h1 hv;cases ai : cs[i - c.args.toList.length]? with
            | none => rw [ai] at h1; cases h1
            | some y =>
              rw [ai] at h1;simp only [gC, gP] at h1;subst h1;exact cA.2 _ y v ai hv
        · have e : (#[] : Array Value) ++ c.args.map a.eval ++ vs.toArray = (c.args.toList.map a.eval ++ vs).toArray := by
            apply Array.ext';simp
          simp only [execOp, ay, resolve, yn, Deferred.ofValue, km];simp only [Sem.run_bind, Sem.run_pure, Result.andThen_ok, invoke];rw [e];exact Bj ys
    unfold Oper.wp;rw [gh];refine (hp.call (s.free A ad) w _ cI).mono ?_;rintro e w' ⟨v, rfl, hv, ab⟩;refine ⟨ad, (ar.call ab).put hd (hv.map (fun b c0 hl => ⟨?_, rfl⟩) fun j ae => absurd ae (hp.bV j))⟩;rcases c0 with h | h
    · exact h
    · refine ⟨ar.up b (h8 ar.below.size h), fun k cs af e => ?_⟩
      have := ar.lt af;omega
end
def af0 : ah := .cj []
def want (ops : Array Oper) (o : Oper) (s : az) : Option Bool :=
  match o.guard with
  | none => some true
  | some (g, b) =>
    match (ops[g]?).bind (·.dst) with
    | some d => match s.tmps d with
      | some (.w (.one (.c (.bool x)))) => some (some x == some b)
      | some (.cj _) => some false
      | _ => none
    | none => none
def lG (o : Oper) : Nat :=
  match o.op with
  | .load .. => 1
  | .store .. => 2
  | _ => 0
def uU (x y : Oper) : Bool := !(lG x == 2 && lG y != 0) && !(lG x != 0 && lG y == 2)
def addrOf (o : Oper) : Option Operand :=
  match o.op with
  | .load _ x => some x
  | .store _ x _ => some x
  | _ => none
def xS : ah → ah → Bool
  | .w (.one (.own k _)), .w (.one (.own j _)) => !Nat.beq k j
  | .w (.one (.own _ _)), .w (.one (.p _)) => true
  | .w (.one (.p _)), .w (.one (.own _ _)) => true
  | _, _ => false
theorem EI {k j o p : Nat} (h : xS (.w (.one (.own k o))) (.w (.one (.own j p))) = true) : k ≠ j := fun e => by
  subst e;simp [xS, Nat.beq_refl] at h
def xz (s : az) (x y : Oper) : Prop := uU x y = true ∨ ∃ a b u v, addrOf x = some a ∧ addrOf y = some b ∧ s.look a = some u ∧ s.look b = some v ∧ xS u v = true
section
variable {P : Program} {B : eP} {A : Nat → Prop} {s s1 s2 s' : az} {ad : Nat → Nat} {a : Act} {w : World} {o bl bq : Oper} {ops : Array Oper}
theorem NT {x : Operand} {dst : Option Nat} {v : ah} (h : ∀ d, dst = some d → x ≠ .tmp d) : (s.put dst v).look x = s.look x := by
  cases dst with
  | none => rfl
  | some d =>
    cases x with
    | tmp t => simp only [az.look, az.put]; exact b3 _ _ (fun e => h d rfl (by rw [e]))
    | _ => rfl
theorem aad {x : Operand} {k : Nat} {cs : List AC} : (s.dT k cs).look x = s.look x := by cases x <;> rfl
theorem vv.congr {look fY : Operand → Option ah} {av : ah} (h : vv P look o av) (e : ∀ x ∈ o.op.operands, fY x = look x) : vv P fY o av :=
  ⟨h.aeQ, fun x aa => by rw [e x aa]; exact h.ops x aa, fun U ad W env he => h.run U ad W env fun x aa a aH => he x aa a (by rw [e x aa]; exact aH), fun j ae => by
    obtain ⟨x, aa, a, aH, Xa⟩ := h.own j ae;exact ⟨x, aa, a, by rw [e x aa]; exact aH, Xa⟩⟩
theorem vq.congr {look fY : Operand → Option ah} {av : ah} (h : vq P look o av) (e : ∀ x ∈ o.op.operands, fY x = look x) : vq P fY o av :=
  ⟨fun x aa => by rw [e x aa]; exact h.ops x aa, h.o9, fun U ad W env he => h.run U ad W env fun x aa a aH => he x aa a (by rw [e x aa]; exact aH)⟩
theorem tV.congr {look fY : Operand → Option ah} {cs : List AC} (h : tV P look o cs) (e : ∀ x ∈ o.op.operands, fY x = look x) : tV P fY o cs := by
  cases h with
  | alloc ty i z cs ay hi aI aj h1 => exact .alloc ty i z cs ay hi aI aj h1
  | box ty x z ay aa => exact .box ty x z ay (by rw [e x (by simp [ay, Op.operands])]; exact aa)
theorem sg.congr {look fY : Operand → Option ah} {f : FuncId} {args : List ah} (h : sg P look o f args) (e : ∀ x ∈ o.op.operands, fY x = look x) : sg P fY o f args := by
  obtain ⟨⟨c, g, ay, aj, aR⟩, he⟩ := h;have La : fY g = look g := e g (by simp [ay, Op.operands, Call.operands, aj]);have ih : c.args.toList.map fY = c.args.toList.map look := oI fun x aa => e x (by simp [ay, Op.operands, Call.operands, aj]; exact .inr (by simpa using aa));refine ⟨⟨c, g, ay, aj, ?_⟩, he⟩;rcases aR with ⟨bs, ao, aH, ab⟩ | ⟨cs, ao, aH⟩
  · exact .inl ⟨bs, by rw [La]; exact ao, by rw [ih]; exact aH, ab⟩
  · exact .inr ⟨cs, by rw [La]; exact ao, by rw [ih]; exact aH⟩
theorem az.put_comm (s : az) {x y : Option Nat} (v u : ah) (h : ∀ d, x = some d → y ≠ some d) : (s.put x v).put y u = (s.put y u).put x v := by
  cases x with
  | none => rfl
  | some d =>
    cases y with
    | none => rfl
    | some e =>
      have bX : e ≠ d := fun he => h d rfl (by rw [he]);simp only [az.put];rw [Rt _ _ _ bX]
theorem az.wX (s : az) (x : Option Nat) (v : ah) (k : Nat) (cs : List AC) : (s.put x v).dT k cs = (s.dT k cs).put x v := by cases x <;> rfl
theorem az.aeS (s : az) {k j : Nat} (cs ds : List AC) (h : j ≠ k) : (s.dT k cs).dT j ds = (s.dT j ds).dT k cs := by
  simp only [az.dT];rw [Rt _ _ _ h]
structure b4 where
  v : ah
  m : Option (Nat × List AC)
def b4.on (e : b4) (dst : Option Nat) (s : az) : az :=
  match e.m with
  | some (k, cs) => (s.dT k cs).put dst e.v
  | none => s.put dst e.v
inductive eN (P : Program) (n : Nat) (look : Operand → Option ah) (mem : Nat → Option (List AC)) (o : Oper) : Bool → b4 → Prop
  | skip : eN P n look mem o false ⟨.cj [], none⟩
  | quiet (av : ah) (ak : vv P look o av) : eN P n look mem o true ⟨av, none⟩
  | fresh (av : ah) (ak : vq P look o av) : eN P n look mem o true ⟨av, none⟩
  | load (ty : TypeId) (x : Operand) (k off : Nat) (cs : List AC) (av : br) (ay : o.op = .load ty x) (aa : look x = some (.w (.one (.own k off)))) (hm : mem k = some cs) (hv : pick P ty cs off = some av) : eN P n look mem o true ⟨.w av, none⟩
  | store (ty : TypeId) (x y : Operand) (k off : Nat) (cs : List AC) (z : br) (i : TypeInfo) (ay : o.op = .store ty x y) (aa : look x = some (.w (.one (.own k off)))) (ai : look y = some (.w z)) (hm : mem k = some cs) (hi : P.info? ty = some i) (hs : i.size = z.cells.length) (ab : off + z.cells.length ≤ cs.length) : eN P n look mem o true ⟨.cj [], some (k, eu cs off z.cells)⟩
  | new (cs : List AC) (d : Nat) (dp : o.dst = some d) (hm : mem d = none) (au : tV P look o cs) : eN P n look mem o true ⟨.w (.one (.own d 0)), some (d, cs)⟩
  | call (f : FuncId) (args : List ah) (r : ah) (aj : sg P look o f args) (hp : aC P f args r) : eN P n look mem o true ⟨r, none⟩
theorem eN.step {e : b4} (h : eN P s.n s.look s.mem o true e) (hd : ∀ d, o.dst = some d → d < s.n) : kU P s o (e.on o.dst s) := by
  cases h with
  | quiet av ak => exact .quiet av ak hd
  | fresh av ak => exact .fresh av ak hd
  | load ty x k off cs av ay aa hm hv => exact .load ty x k off cs av ay aa hm hv hd
  | store ty x y k off cs z i ay aa ai hm hi hs ab =>
    have := kU.store (P := P) (s := s) ty x y k off cs z i ay aa ai hm hi hs ab hd;rw [az.wX] at this;exact this
  | new cs d dp hm au =>
    have := kU.new (P := P) (s := s) cs d dp hm au (hd d dp);rw [← dp] at this;exact this
  | call f args r aj hp => exact .call f args r aj hp hd
theorem b4.qH (e : b4) (dst : Option Nat) (s : az) : (e.on dst s).mem = match e.m with | some (k, cs) => bA s.mem k cs | none => s.mem := by
  unfold b4.on
  split
  · rename_i h; rw [az.wO]; simp [az.dT]
  · rename_i h; rw [az.wO]
theorem b4.qG (e : b4) (dst : Option Nat) (s : az) {x : Operand} (h : ∀ d, dst = some d → x ≠ .tmp d) : (e.on dst s).look x = s.look x := by
  unfold b4.on
  split
  · rw [NT h, aad]
  · rw [NT h]
theorem b4.tm (e : b4) (dst : Option Nat) (s : az) : (e.on dst s).n = s.n := by
  unfold b4.on
  split
  · rw [az.rV]; rfl
  · rw [az.rV]
theorem b4.zo (e f : b4) (x y : Option Nat) (s : az) (h : ∀ d, x = some d → y ≠ some d) (af : ∀ k cs j ds, e.m = some (k, cs) → f.m = some (j, ds) → j ≠ k) : f.on y (e.on x s) = e.on x (f.on y s) := by
  unfold b4.on;cases he : e.m with
  | none =>
    cases ap : f.m with
    | none => simp only [he, ap]; exact az.put_comm s _ _ h
    | some q => obtain ⟨j, ds⟩ := q; simp only [he, ap]; rw [az.wX]; exact az.put_comm _ _ _ h
  | some p =>
    obtain ⟨k, cs⟩ := p;cases ap : f.m with
    | none => simp only [he, ap]; rw [az.wX]; exact az.put_comm _ _ _ h
    | some q =>
      obtain ⟨j, ds⟩ := q;simp only [he, ap];rw [az.wX, az.wX, az.aeS s _ _ (af k cs j ds he ap)];exact az.put_comm _ _ _ h
theorem tb {x : Operand} {d : Nat} {y : Oper} (h : d ∉ y.looksAt ops) (aa : x ∈ y.op.operands) : x ≠ .tmp d := fun e => h (by
  subst e;exact List.mem_append_left _ (List.mem_filterMap.2 ⟨.tmp d, by simpa using aa, rfl⟩))
theorem eN.swap {b c : Bool} {e f : b4} (ok : s.cJ) (he : eN P s.n s.look s.mem bl b e) (ap : eN P (e.on bl.dst s).n (e.on bl.dst s).look (e.on bl.dst s).mem bq c f) (rs : bl.apart ops bq = true) (l9 : xz s bl bq) :
    eN P s.n s.look s.mem bq c f ∧ eN P (f.on bq.dst s).n (f.on bq.dst s).look (f.on bq.dst s).mem bl b e ∧ f.on bq.dst (e.on bl.dst s) = e.on bl.dst (f.on bq.dst s) := by
  obtain ⟨a1, a2, a3⟩ := Oper.apart_spec rs;have kM : ∀ x ∈ bq.op.operands, (e.on bl.dst s).look x = s.look x := fun x aa => b4.qG _ _ _ fun d hd => tb (a1 d hd) aa;have cE := b4.qH e bl.dst s
 
  have uC : ∀ k cs, e.m = some (k, cs) → (∃ aq, s.mem k = some aq) ∨ s.mem k = none := fun k cs _ => by
    cases h : s.mem k with
    | none => exact .inr rfl
    | some c => exact .inl ⟨c, rfl⟩
  have Pc : ∀ x k off, s.look x = some (.w (.one (.own k off))) → ∃ cs, s.mem k = some cs := fun x k off aa => by
    cases x with
    | tmp t => exact ok.gE t _ k aa ⟨.own k off, by simp [br.cells], rfl⟩
    | const v => simp only [az.look] at aa; split at aa <;> cases aa
    | global g => cases aa
    | func g => cases aa
 
  have Oa : ∀ x k off, addrOf bq = some x → lG bq ≠ 0 → s.look x = some (.w (.one (.own k off))) → (e.on bl.dst s).mem k = s.mem k := by
    intro x k off FT Gc aa;rw [cE];cases he with
    | skip => rfl
    | quiet av ak => rfl
    | fresh av ak => rfl
    | load => rfl
    | call => rfl
    | store ty x' y' k' OZ cs z i ay kq ai hm hi hs ab =>
      rcases l9 with l9 | ⟨a, b, q, p, aH, c0, ih, ly, bX⟩
      · exfalso
        have : lG bl = 2 := by simp [lG, ay]
        simp [uU, this, Gc] at l9
      · simp only [addrOf, ay, gP] at aH
        subst aH;rw [kq] at ih;cases ih;rw [FT] at c0;cases c0;rw [aa] at ly;cases ly;show bA s.mem k' _ k = s.mem k;exact b3 _ _ (Ne.symm (EI bX))
    | new cs d dp hm au =>
      obtain ⟨c, aj⟩ := Pc x k off aa;show bA s.mem d cs k = s.mem k;exact b3 _ _ (fun e => by subst e; rw [hm] at aj; cases aj)
  have mJ : eN P s.n s.look s.mem bq c f := by
    cases ap with
    | skip => exact .skip
    | quiet av ak => exact .quiet av (ak.congr fun x aa => (kM x aa).symm)
    | fresh av ak => exact .fresh av (ak.congr fun x aa => (kM x aa).symm)
    | load ty x k off cs av ay aa hm hv =>
      have kq : s.look x = some (.w (.one (.own k off))) := by rw [← kM x (by simp [ay, Op.operands])]; exact aa
      exact .load ty x k off cs av ay kq (by rw [← Oa x k off (by simp [addrOf, ay]) (by simp [lG, ay]) kq]; exact hm) hv
    | store ty x y k off cs z i ay aa ai hm hi hs ab =>
      have kq : s.look x = some (.w (.one (.own k off))) := by rw [← kM x (by simp [ay, Op.operands])]; exact aa
      exact .store ty x y k off cs z i ay kq (by rw [← kM y (by simp [ay, Op.operands])]; exact ai) (by rw [← Oa x k off (by simp [addrOf, ay]) (by simp [lG, ay]) kq]; exact hm) hi hs ab
    | new cs d dp hm au =>
      refine .new cs d dp ?_ (au.congr fun x aa => (kM x aa).symm);rw [cE] at hm;cases k5 : e.m with
      | none => rw [k5] at hm; exact hm
      | some p =>
        obtain ⟨k, c⟩ := p;rw [k5] at hm
        by_cases hT : d = k
        · subst hT
          change bA s.mem d c d = none at hm
          rw [cf] at hm;cases hm
        · change bA s.mem k c d = none at hm
          rwa [b3 _ _ hT] at hm
    | call g args r aj hp => exact .call g args r (aj.congr fun x aa => (kM x aa).symm) hp
  have jA : ∀ x ∈ bl.op.operands, (f.on bq.dst s).look x = s.look x := fun x aa => b4.qG _ _ _ fun d hd => tb (a3 d hd) aa;have N4 := b4.qH f bq.dst s
  have nz : eN P (f.on bq.dst s).n (f.on bq.dst s).look (f.on bq.dst s).mem bl b e := by
    have N7 : ∀ x k off, addrOf bl = some x → lG bl ≠ 0 → s.look x = some (.w (.one (.own k off))) → (f.on bq.dst s).mem k = s.mem k := by
      intro x k off FT Gc aa;rw [N4];cases mJ with
      | skip => rfl
      | quiet av ak => rfl
      | fresh av ak => rfl
      | load => rfl
      | call => rfl
      | store ty x' y' k' OZ cs z i ay kq ai hm hi hs ab =>
        rcases l9 with l9 | ⟨a, b, q, p, aH, c0, ih, ly, bX⟩
        · exfalso
          have : lG bq = 2 := by simp [lG, ay]
          simp [uU, this, Gc] at l9
        · simp only [addrOf, ay, gP] at c0
          subst c0;rw [kq] at ly;cases ly;rw [FT] at aH;cases aH;rw [aa] at ih;cases ih;show bA s.mem k' _ k = s.mem k;exact b3 _ _ (EI bX)
      | new cs d dp hm au =>
        obtain ⟨c, aj⟩ := Pc x k off aa;show bA s.mem d cs k = s.mem k;exact b3 _ _ (fun e => by subst e; rw [hm] at aj; cases aj)
    cases he with
    | skip => exact .skip
    | quiet av ak => exact .quiet av (ak.congr fun x aa => jA x aa)
    | fresh av ak => exact .fresh av (ak.congr fun x aa => jA x aa)
    | load ty x k off cs av ay aa hm hv => exact .load ty x k off cs av ay (by rw [jA x (by simp [ay, Op.operands])]; exact aa) (by rw [N7 x k off (by simp [addrOf, ay]) (by simp [lG, ay]) aa]; exact hm) hv
    | store ty x y k off cs z i ay aa ai hm hi hs ab => exact .store ty x y k off cs z i ay (by rw [jA x (by simp [ay, Op.operands])]; exact aa) (by rw [jA y (by simp [ay, Op.operands])]; exact ai) (by rw [N7 x k off (by simp [addrOf, ay]) (by simp [lG, ay]) aa]; exact hm) hi hs ab
    | new cs d dp hm au =>
      refine .new cs d dp ?_ (au.congr fun x aa => jA x aa);rw [N4];cases mJ with
      | skip => exact hm
      | quiet av ak => exact hm
      | fresh av ak => exact hm
      | load => exact hm
      | call => exact hm
      | store ty x' y' k' OZ aq z i ay kq ai fB hi hs ab =>
        show bA s.mem k' _ d = none;rw [b3 _ _ (fun e => by subst e; rw [hm] at fB; cases fB)];exact hm
      | new aq d' Xu fB Gl =>
        show bA s.mem d' _ d = none;rw [b3 _ _ (fun e => a2 d dp (by rw [Xu, e]))];exact hm
    | call g args r aj hp => exact .call g args r (aj.congr fun x aa => jA x aa) hp
  refine ⟨mJ, nz, b4.zo e f bl.dst bq.dst s a2 ?_⟩;intro k cs j ds h1 h2 VU;subst VU;cases he with
  | skip => cases h1
  | quiet => cases h1
  | fresh => cases h1
  | load => cases h1
  | call => cases h1
  | store ty x y k' off aq z i ay aa ai hm hi hs ab =>
    cases h1;cases mJ with
    | skip => cases h2
    | quiet => cases h2
    | fresh => cases h2
    | load => cases h2
    | call => cases h2
    | store afU cp qX bC abu sF z2 i2 wz GN =>
      cases h2;rcases l9 with l9 | ⟨a, b, q, p, aH, c0, ih, ly, bX⟩
      · simp [uU, lG, ay, wz] at l9
      · simp only [addrOf, ay, wz, gP] at aH c0
        subst aH;subst c0;rw [aa] at ih;rw [GN] at ly;cases ih;cases ly;exact EI bX rfl
    | new sF d2 Ml nC Gm => cases h2; rw [nC] at hm; cases hm
  | new aq d dp hm au =>
    cases h1;cases mJ with
    | skip => cases h2
    | quiet => cases h2
    | fresh => cases h2
    | load => cases h2
    | call => cases h2
    | store afU cp qX bC abu sF z2 i2 wz GN GO nC => cases h2; rw [nC] at hm; cases hm
    | new sF d2 Ml nC Gm => cases h2; exact a2 _ dp Ml
end
section
variable {P : Program} {B : eP} {A : Nat → Prop} {s s1 s2 s' : az} {ad : Nat → Nat} {a : Act} {w : World} {o bl bq : Oper} {ops : Array Oper} {md : Region.Mode}
theorem look_ok {x : Operand} {av : ah} {j : Nat} (ok : s.cJ) (aa : s.look x = some av) (ae : av.owns j) : ∃ cs, s.mem j = some cs := by
  have none : ∀ v, ¬ (ah.w (.one (.c v))).owns j := fun v ⟨y, ai, h⟩ => by simp [br.cells] at ai; subst ai; cases h
  cases x with
  | tmp t => exact ok.gE t av j aa ae
  | const v =>
    simp only [az.look] at aa
    split at aa
    · cases aa; exact absurd ae (none _)
    · cases aa
  | global g => cases aa; exact absurd ae (none _)
  | func g => cases aa; exact absurd ae (none _)
theorem az.cJ.put {dst : Option Nat} {av : ah} (ok : s.cJ) (h : ∀ j, av.owns j → ∃ cs, s.mem j = some cs) : (s.put dst av).cJ := by
  cases dst with
  | none => exact ok
  | some d =>
    refine ⟨fun t bv j ax ae => ?_, ok.dt⟩;simp only [az.put] at ax ⊢
    by_cases e : t = d
    · subst e; rw [cf] at ax; cases ax; exact h j ae
    · rw [b3 _ _ e] at ax; exact ok.gE t bv j ax ae
theorem az.cJ.dT {k : Nat} {cs : List AC} (ok : s.cJ) (h : ∀ x ∈ cs, ∀ j, x.owns j → ∃ aq, s.mem j = some aq) : (s.dT k cs).cJ := by
  have up : ∀ j, (∃ c, s.mem j = some c) → ∃ c, (s.dT k cs).mem j = some c := fun j ⟨c, aj⟩ => by
    by_cases e : j = k
    · exact ⟨cs, by rw [e]; exact cf _ _ _⟩
    · exact ⟨c, by simp only [az.dT]; rw [b3 _ _ e]; exact aj⟩
  refine ⟨fun t bv j ax ae => up j (ok.gE t bv j ax ae), fun k' c x j af aa ae => up j ?_⟩;simp only [az.dT] at af
  by_cases e : k' = k
  · subst e; rw [cf] at af; cases af; exact h x aa j ae
  · rw [b3 _ _ e] at af; exact ok.dt k' c x j af aa ae
theorem adp {ty : TypeId} {cs : List AC} {off : Nat} {av : br} (h : pick P ty cs off = some av) : ∀ x ∈ av.cells, x ∈ cs := by
  unfold pick at h
  split at h
  · cases hi : P.info? ty with
    | none => rw [hi] at h; cases h
    | some i =>
      rw [hi] at h;simp only [j2] at h
      split at h
      · cases h; exact fun x aa => mm (nN aa)
      · cases h
  · cases hi : P.info? ty with
    | none => rw [hi] at h; cases h
    | some i =>
      rw [hi] at h;simp only [j2] at h
      split at h
      · cases h; exact fun x aa => mm (nN aa)
      · cases h
  · cases aa : cs[off]? with
    | none => rw [aa] at h; cases h
    | some y => rw [aa] at h; cases h; intro x kq; simp [br.cells] at kq; subst kq; exact c5 aa
  · cases h
theorem kU.ok (h : kU P s o s') (ok : s.cJ) : s'.cJ := by
  cases h with
  | quiet av ak hd =>
    refine ok.put fun j ae => ?_;obtain ⟨x, aa, b, ab, Xg⟩ := ak.own j ae;exact look_ok ok ab Xg
  | fresh av ak hd => exact ok.put fun j ae => absurd ae (ak.o9 j)
  | load ty x k off cs av ay aa hm hv hd =>
    refine ok.put fun j ae => ?_;obtain ⟨y, ai, lE⟩ := ae;exact ok.dt k cs y j hm (adp hv y ai) lE
  | store ty x y k off cs z i ay aa ai hm hi hs ab hd =>
    rw [az.wX];refine az.cJ.put (ok.dT fun x aa j ae => ?_) fun j ae => (by obtain ⟨y, ai, _⟩ := ae; cases ai);unfold eu at aa;simp only [iU] at aa;rcases aa with (h1 | h1) | h1
    · exact ok.dt k cs x j hm (nN h1) ae
    · exact look_ok ok ai ⟨x, h1, ae⟩
    · exact ok.dt k cs x j hm (mm h1) ae
  | new cs d dp hm au hd =>
    refine az.cJ.put (ok.dT fun x aa j ae => ?_) fun j ae => ?_
    · cases au with
      | alloc ty i z cs ay hi aI aj h1 => subst aj; obtain ⟨v, _, rfl⟩ := h9.1 aa; cases ae
      | box ty y z ay ai => exact look_ok ok ai ⟨x, aa, ae⟩
    · obtain ⟨y, ai, lE⟩ := ae
      simp [br.cells] at ai;subst ai;cases lE;exact ⟨cs, cf _ _ _⟩
  | call f args r aj hp hd => exact ok.put fun j ae => absurd ae (hp.bV j)
def q6 (P : Program) (ops : Array Oper) (o : Oper) (K : az → Prop) (s : az) : Prop :=
  ∃ b, want ops o s = some b ∧ ∃ e, eN P s.n s.look s.mem o b e ∧ (∀ d, o.dst = some d → d < s.n) ∧ K (e.on o.dst s)
def xL (P : Program) (md : Region.Mode) (ops : Array Oper) (K : az → Prop) : Nat → Array Bool → az → Prop
  | 0, bn, s => Region.ready md ops bn = [] ∧ K s
  | eZ + 1, bn, s => (Region.ready md ops bn = [] → K s) ∧
    ∀ i ∈ Region.ready md ops bn, ∀ o, ops[i]? = some o → q6 P ops o (xL P md ops K eZ (bn.setIfInBounds i true)) s
theorem RJ {b : Bool} (h : want ops o s = some b) (ar : Rel B A s ad a w) : Region.wanted o (yielded ops a.tmps) = b := by
  unfold want at h;unfold Region.wanted
  split at h
  · rename_i ao; rw [ao]; cases h; rfl
  · rename_i g bK ao
    rw [ao]
    split at h
    · rename_i d hd
      split at h
      · rename_i x aa
        cases h;obtain ⟨v, h1, h2⟩ := ar.gE d _ aa;obtain ⟨rfl, _⟩ := h2;simp [yielded, hd, h1]
      · rename_i xs aa
        cases h;obtain ⟨v, h1, h2⟩ := ar.gE d _ aa;obtain ⟨vs, rfl, _⟩ := h2;simp [yielded, hd, h1]
      · cases h
    · cases h
theorem x3 {b : Bool} {e : b4} (ok : s.cJ) (he : eN P s.n s.look s.mem o b e) (hd : ∀ d, o.dst = some d → d < s.n) : (e.on o.dst s).cJ := by
  cases b with
  | true => exact (he.step hd).ok ok
  | false => cases he; exact ok.put fun j ae => (by obtain ⟨y, ai, _⟩ := ae; cases ai)
theorem Jv {ro : Option Nat} {K : az → Prop} {kX : Act → World → Prop} {Q : Exit → Act → World → Prop} {i : Nat} (hi : ops[i]? = some o) (ok : s.cJ) (ar : Rel B A s ad a w) (h : q6 P ops o K s)
    (e6 : ∀ s' aY a' w', s'.cJ → Rel B A s' aY a' w' → K s' → kX a' w') : wpOpIn (l3 ro) 0 P ops Q i kX a w := by
  obtain ⟨b, hw, e, he, hd, af⟩ := h;have om := RJ hw ar;unfold wpOpIn;simp only [hi];cases b with
  | true =>
    rw [om];simp only [if_true];have du := (he.step hd).ok ok;exact Oper.RN (Oper.wp_mono (fun a' w' ⟨aY, al⟩ => e6 _ aY a' w' du al af) (kU.sound (he.step hd) ar ok)) ((he.step hd).OE ar)
  | false =>
    rw [om];simp only [mZ, if_false];cases he;exact ⟨fun _ _ => trivial, e6 _ ad _ _ (ok.put fun j ae => (by obtain ⟨y, ai, _⟩ := ae; cases ai)) (ar.put hd (cR.undef _)) af⟩
theorem Js {ro : Option Nat} {K : az → Prop} {Q : Exit → Act → World → Prop} (kF : ∀ s' aY a' w', s'.cJ → Rel B A s' aY a' w' → K s' → Q .normal a' w') : ∀ (eZ : Nat) (bn : Array Bool) (s : az) (ad : Nat → Nat) (a : Act) (w : World), s.cJ → Rel B A s ad a w →
    xL P md ops K eZ bn s → wpAnyIn (l3 ro) 0 P md ops Q eZ bn a w
  | 0, _, _, _, _, _, ok, ar, h => ⟨h.1, kF _ _ _ _ ok ar h.2⟩
  | eZ + 1, bn, s, ad, a, w, ok, ar, h => ⟨fun aA => kF _ _ _ _ ok ar (h.1 aA), fun i hi => by
      obtain ⟨aA, o, ay, _⟩ := mem_ready.1 hi;exact Jv ay ok ar (h.2 i hi o ay) fun s' aY a' w' du cg af => Js kF eZ _ s' aY a' w' du cg af⟩
theorem xj {b : Option Bool} {e : b4} {dst : Option Nat} (hl : ∀ d, dst = some d → d ∉ o.looksAt ops) : want ops o (e.on dst s) = want ops o s := by
  have ax : ∀ d, (∀ d', dst = some d' → d ≠ d') → (e.on dst s).tmps d = s.tmps d := fun d h => by
    have := b4.qG e dst s (x := .tmp d) (fun d' kH bm => h d' kH (by cases bm; rfl));exact this
  unfold want;cases ao : o.guard with
  | none => rfl
  | some p =>
    obtain ⟨g, bK⟩ := p;simp only;cases hd : (ops[g]?).bind (·.dst) with
    | none => rfl
    | some d =>
      simp only
      rw [ax d (fun d' kH bm => hl d' kH (by
        subst bm;unfold Oper.looksAt;rw [ao];exact List.mem_append_right _ (by simp [hd])))]
theorem Td {b : Bool} {e : b4} {K : az → Prop} (ok : s.cJ) (hw : want ops bl s = some b) (he : eN P s.n s.look s.mem bl b e) (sW : ∀ d, bl.dst = some d → d < s.n) (rs : bl.apart ops bq = true) (l9 : xz s bl bq) (h : q6 P ops bq K (e.on bl.dst s)) :
    q6 P ops bq (fun t => (want ops bl t = some b ∧ eN P t.n t.look t.mem bl b e ∧ (∀ d, bl.dst = some d → d < t.n) ∧ t.cJ) ∧ K (e.on bl.dst t)) s := by
  obtain ⟨a1, a2, a3⟩ := Oper.apart_spec rs;obtain ⟨c, rJ, f, ap, qm, af⟩ := h;obtain ⟨h1, h2, h3⟩ := eN.swap ok he ap rs l9;rw [xj (b := none) a1] at rJ;have uz : ∀ d, bq.dst = some d → d < s.n := fun d hd => by have := qm d hd; rwa [b4.tm] at this
  refine ⟨c, rJ, f, h1, uz, ⟨?_, h2, fun d hd => by rw [b4.tm]; exact sW d hd, x3 ok h1 uz⟩, by rw [← h3]; exact af⟩;rw [xj (b := none) a3];exact hw
theorem Tc {K kX : az → Prop} (h : ∀ s, K s → kX s) (aR : q6 P ops o K s) : q6 P ops o kX s :=
  let ⟨b, h1, e, h2, h3, aE⟩ := aR
  ⟨b, h1, e, h2, h3, h _ aE⟩
def o3 (ops : Array Oper) (bn : Array Bool) (x y : Oper) (s : az) : Prop :=
  uU x y = true ∨ ∃ t u o p, addrOf x = some (.tmp t) ∧ addrOf y = some (.tmp u) ∧ s.tmps t = some o ∧ s.tmps u = some p ∧ xS o p = true ∧
    ∀ i bl, ops[i]? = some bl → bn.getD i true = false → bl.dst ≠ some t ∧ bl.dst ≠ some u
theorem o3.sep {bn : Array Bool} (h : o3 ops bn bl bq s) : xz s bl bq := by
  rcases h with h | ⟨t, u, o, p, h1, h2, h3, aE, cZ, _⟩
  · exact .inl h
  · exact .inr ⟨_, _, o, p, h1, h2, h3, aE, cZ⟩
theorem b4.wU {e : b4} {dst : Option Nat} {t : Nat} (h : dst ≠ some t) : (e.on dst s).tmps t = s.tmps t := by
  have := b4.qG e dst s (x := .tmp t) (fun d hd bm => by cases bm; exact h hd);exact this
theorem o3.on {bn : Array Bool} {f : b4} {o : Oper} {i : Nat} (h : o3 ops bn bl bq s) (ay : ops[i]? = some o) (kK : bn.getD i true = false) : o3 ops (bn.setIfInBounds i true) bl bq (f.on o.dst s) := by
  rcases h with h | ⟨t, u, q, p, h1, h2, h3, aE, cZ, ff⟩
  · exact .inl h
  · obtain ⟨dY, et⟩ := ff i o ay kK
    refine .inr ⟨t, u, q, p, h1, h2, by rw [b4.wU dY]; exact h3, by rw [b4.wU et]; exact aE, cZ, fun fi eM gK s8 => ff fi eM gK ?_⟩
    by_cases e : i = fi
    · subst e; exact kK
    · rwa [getD_set_ne true e] at s8
theorem Te {b : Bool} {e : b4} {K : az → Prop} (ok : s.cJ) (hw : want ops bl s = some b) (he : eN P s.n s.look s.mem bl b e) (sW : ∀ d, bl.dst = some d → d < s.n) (rs : bl.apart ops bq = true) (l9 : xz s bl bq) (h : q6 P ops bq K (e.on bl.dst s)) :
    q6 P ops bq (fun t => (∃ f : b4, t = f.on bq.dst s) ∧ (want ops bl t = some b ∧ eN P t.n t.look t.mem bl b e ∧ (∀ d, bl.dst = some d → d < t.n) ∧ t.cJ) ∧ K (e.on bl.dst t)) s := by
  obtain ⟨c, h1, f, h2, h3, aE⟩ := Td ok hw he sW rs l9 h;exact ⟨c, h1, f, h2, h3, ⟨f, rfl⟩, aE⟩
def waits (md : Region.Mode) (ops : Array Oper) : Nat → Nat → Nat → Bool
  | 0, _, _ => false
  | f + 1, j, i => match ops[j]? with
    | some o => o.after.any fun e => Region.binds md e && (e.on == i || waits md ops f e.on i)
    | none => false
def Down (md : Region.Mode) (ops : Array Oper) (bn : Array Bool) : Prop := ∀ k o, bn.getD k false = true → ops[k]? = some o → ∀ e ∈ o.after, Region.binds md e = true → bn.getD e.on false = true
theorem II {bn : Array Bool} (hd : Down md ops bn) : ∀ (f j i : Nat) (o : Oper), ops[j]? = some o → (∀ e ∈ o.after, Region.binds md e = true → bn.getD e.on false = true) → waits md ops f j i = true → bn.getD i false = true
  | 0, _, _, _, _, _, h => by cases h
  | f + 1, j, i, o, ay, dn, h => by
    simp only [waits, ay] at h;obtain ⟨e, he, ab⟩ := Array.any_eq_true'.1 h;simp only [dx, qL, beq_iff_eq] at ab;obtain ⟨h1, h2⟩ := ab;have hl := dn e he h1;rcases h2 with h2 | h2
    · rw [← h2]; exact hl
    · cases gK : ops[e.on]? with
      | none => cases f <;> simp [waits, gK] at h2
      | some eM => exact II hd f e.on i eM gK (fun bm nz c0 => hd e.on eM hl gK bm nz c0) h2
theorem Down.set {bn : Array Bool} (hd : Down md ops bn) {j : Nat} (ae : j ∈ Region.ready md ops bn) : Down md ops (bn.setIfInBounds j true) := by
  intro k o af ay e he ab;obtain ⟨_, bq, hV, dn⟩ := mem_ready.1 ae
  by_cases bm : j = k
  · subst bm
    rw [hV] at ay;cases ay;exact getD_set_true (dn e he ab)
  · refine getD_set_true (hd k o ?_ ay e he ab)
    have : (bn.setIfInBounds j true).getD k false = bn.getD k false := by simp [Array.getElem?_setIfInBounds_ne bm]
    rwa [this] at af
theorem Tb {K : az → Prop} {i : Nat} {b : Bool} {e : b4} (hi : ops[i]? = some bl) : ∀ (eZ : Nat) (bn : Array Bool) (s : az),
      (∀ j bq, ops[j]? = some bq → j ≠ i → bn.getD j true = false → (∀ e ∈ bq.after, Region.binds md e = true → e.on ≠ i) → waits md ops 4 j i = false → bl.apart ops bq = true ∧ o3 ops bn bl bq s) →
      Down md ops bn → i ∈ Region.ready md ops bn → s.cJ → want ops bl s = some b → eN P s.n s.look s.mem bl b e → (∀ d, bl.dst = some d → d < s.n) →
      xL P md ops K eZ (bn.setIfInBounds i true) (e.on bl.dst s) → xL P md ops K (eZ + 1) bn s := by
  intro eZ
  induction eZ with
  | zero =>
    intro bn s _ fG al ok hw he hd H;refine ⟨fun h => (by rw [h] at al; cases al), fun j ae bq hV => ?_⟩
    by_cases fH : j = i
    · subst fH; rw [hi] at hV; cases hV; exact ⟨b, hw, e, he, hd, H⟩
    · have := ready_mono ae fH
      rw [H.1] at this;cases this
  | succ eZ bO =>
    intro bn s jv fG al ok hw he hd H;refine ⟨fun h => (by rw [h] at al; cases al), fun j ae bq hV => ?_⟩
    by_cases fH : j = i
    · subst fH; rw [hi] at hV; cases hV; exact ⟨b, hw, e, he, hd, H⟩
    · have h1 := H.2 j (ready_mono ae fH) bq hV
      obtain ⟨uB, abv, yD, dn⟩ := mem_ready.1 ae;rw [hV] at yD;cases yD
      have rD : ∀ e ∈ bq.after, Region.binds md e = true → e.on ≠ i := fun e he ab rz => by
        have h1 := dn e he ab;have aA := (mem_ready.1 al).1;rw [rz] at h1;rcases hM i bn.size with aJ | aJ
        · simp [aJ] at aA h1; rw [aA] at h1; cases h1
        · simp [wY aJ] at h1
      have rK : waits md ops 4 j i = false := by
        cases rJ : waits md ops 4 j i with
        | false => rfl
        | true =>
          have h1 := II fG 4 j i bq hV dn rJ;have aA := (mem_ready.1 al).1;rcases hM i bn.size with aJ | aJ
          · simp [aJ] at aA h1; rw [aA] at h1; cases h1
          · simp [wY aJ] at h1
      obtain ⟨g1, g2⟩ := jv j bq hV fH uB rD rK;have h2 := Te ok hw he hd g1 g2.sep h1;refine Tc (fun t h3 => ?_) h2;obtain ⟨⟨f, rfl⟩, h3⟩ := h3
      have F2 : ∀ k ok, ops[k]? = some ok → k ≠ i → (bn.setIfInBounds j true).getD k true = false →
          (∀ e ∈ ok.after, Region.binds md e = true → e.on ≠ i) → waits md ops 4 k i = false → bl.apart ops ok = true ∧ o3 ops (bn.setIfInBounds j true) bl ok (f.on bq.dst s) := fun k ok af ko kK kp GM => by
        have s8 : bn.getD k true = false := by
          by_cases kn : j = k
          · subst kn; exact uB
          · rwa [getD_set_ne true kn] at kK
        obtain ⟨q1, q2⟩ := jv k ok af ko s8 kp GM;exact ⟨q1, q2.on hV uB⟩
      refine bO (bn.setIfInBounds j true) _ F2 (fG.set ae) (ready_mono al (Ne.symm fH)) h3.1.2.2.2 h3.1.1 h3.1.2.1 h3.1.2.2.1 ?_;rw [Array.setIfInBounds_comm _ _ fH];exact h3.2
def a7 (P : Program) (ops : Array Oper) (K : az → Prop) : List Oper → az → Prop
  | [], s => K s
  | o :: rest, s => q6 P ops o (a7 P ops K rest) s
def HR (x y : Oper) : Option (Nat × Nat) :=
  match addrOf x, addrOf y with
  | some (.tmp t), some (.tmp u) => some (t, u)
  | _, _ => none
def oy (ops : Array Oper) (bn : Array Bool) (t : Nat) : Bool := (List.range ops.size).all fun j => bn.getD j true || match ops[j]? with
  | some o => o.dst != some t
  | none => true
def lS (s : az) (p : Nat × Nat) : Bool :=
  match s.tmps p.1, s.tmps p.2 with
  | some x, some y => xS x y
  | _, _ => false
def Cy (md : Region.Mode) (ops : Array Oper) (hL : List (Nat × Nat)) (bn : Array Bool) (i : Nat) : Bool :=
  match ops[i]? with
  | none => false
  | some bl => (List.range ops.size).all fun j => j == i || bn.getD j true || match ops[j]? with
      | some bq => uU bl bq || waits md ops 4 j i || match HR bl bq with
        | some (t, u) => hL.contains (t, u) && oy ops bn t && oy ops bn u
        | none => false
      | none => true
theorem CM {bn : Array Bool} {t : Nat} (h : oy ops bn t = true) (j : Nat) (o : Oper) (ay : ops[j]? = some o) (kK : bn.getD j true = false) : o.dst ≠ some t := by
  unfold oy at h;simp only [cb, List.mem_range] at h;have := h j (jH.1 ay).1;simp only [ay, kK, Bool.false_or, bne_iff_ne, ne_eq] at this;exact this
theorem N5 {i : Nat} {hL : List (Nat × Nat)} {bn : Array Bool} (hi : ops[i]? = some bl) (h : Cy md ops hL bn i = true) (hs : ∀ p ∈ hL, oy ops bn p.1 = true → oy ops bn p.2 = true → lS s p = true) (j : Nat) (bq : Oper)
    (ae : ops[j]? = some bq) (bX : j ≠ i) (kK : bn.getD j true = false) (kp : waits md ops 4 j i = false) : o3 ops bn bl bq s := by
  simp only [Cy, hi, cb, List.mem_range] at h;have h1 := h j (jH.1 ae).1;simp only [ae, qL, beq_iff_eq, bX, false_or, kK, mZ] at h1;rcases h1 with (h1 | h1) | h1
  · exact .inl h1
  · rw [kp] at h1; cases h1
  · split at h1
    · rename_i t u hp
      simp only [dx] at h1;obtain ⟨⟨c1, c2⟩, iH⟩ := h1;have lC := hs (t, u) (by simpa using c1) c2 iH;unfold HR at hp
      split at hp
      · rename_i nT nU aF aN
        cases hp;unfold lS at lC
        split at lC
        · rename_i o ft q1 q2
          exact .inr ⟨t, u, o, ft, aF, aN, q1, q2, lC, fun fi eM gK s8 => ⟨CM c2 fi eM gK s8, CM iH fi eM gK s8⟩⟩
        · cases lC
      · cases hp
    · cases h1
def ze (md : Region.Mode) (ops : Array Oper) (hL : List (Nat × Nat)) : List Nat → Array Bool → Bool
  | [], bn => (Region.ready md ops bn).isEmpty
  | k :: ord, bn => (Region.ready md ops bn).contains k && Region.free md ops bn k && Cy md ops hL bn k && ze md ops hL ord (bn.setIfInBounds k true)
def getAll (l : List Oper) : List Nat → Option (List Oper)
  | [] => some []
  | i :: ord => match l[i]?, getAll l ord with
    | some o, some r => some (o :: r)
    | _, _ => none
theorem Fs {l : List Oper} : ∀ (ord : List Nat) (r : List Oper), getAll l ord = some r → r.length = ord.length ∧ ∀ (j : Nat), r[j]? = (ord[j]?).bind (l[·]?)
  | [], r, h => by cases h; exact ⟨rfl, fun j => by simp⟩
  | i :: ord, r, h => by
    simp only [getAll] at h
    split at h
    · rename_i o aT ay al
      cases h;obtain ⟨h1, h2⟩ := Fs ord aT al;refine ⟨by simp [h1], fun j => ?_⟩;cases j with
      | zero => simp [ay]
      | succ j => simpa using h2 j
    · cases h
theorem Jt {K : az → Prop} : ∀ (l : List Oper) (s : az), a7 P ops K l s → ∃ s', K s' ∧ ∀ t, (∀ o ∈ l, o.dst ≠ some t) → s'.tmps t = s.tmps t
  | [], s, h => ⟨s, h, fun _ _ => rfl⟩
  | o :: l, s, ⟨b, hw, e, he, hd, e6⟩ => by
    obtain ⟨s', h1, h2⟩ := Jt l _ e6;exact ⟨s', h1, fun t ax => (h2 t fun eM gK => ax eM (by simp [gK])).trans (b4.wU (ax o (by simp)))⟩
theorem Jr {K : az → Prop} {hL : List (Nat × Nat)} : ∀ (ord : List Nat) (l : List Oper) (bn : Array Bool) (s : az), l.length = ord.length → (∀ (j : Nat), l[j]? = (ord[j]?).bind (ops[·]?)) → (∀ k ∈ ord, bn.getD k true = false) → (∀ k, k < ops.size → bn.getD k true = false → k ∈ ord) → ord.Nodup → Down md ops bn → s.cJ →
    ze md ops hL ord bn = true → a7 P ops (fun s => hL.all (lS s) = true ∧ K s) l s → xL P md ops K l.length bn s
  | [], [], _, _, _, _, _, _, _, _, _, eG, h => ⟨by simpa [ze] using eG, h.2⟩
  | [], _ :: _, _, _, hlen, _, _, _, _, _, _, _, _ => by cases hlen
  | _ :: _, [], _, _, hlen, _, _, _, _, _, _, _, _ => by cases hlen
  | k :: ord, o :: l, bn, s, hlen, hl, kK, F1, gJ, fG, ok, eG, h => by
    have aA : ops[k]? = some o := by simpa using (hl 0).symm
    have ry := Jt _ _ h;simp only [ze, dx] at eG;obtain ⟨⟨⟨al, ap⟩, hm⟩, FD⟩ := eG;obtain ⟨b, hw, e, he, hd, e6⟩ := h
    have hs : ∀ p ∈ hL, oy ops bn p.1 = true → oy ops bn p.2 = true → lS s p = true := fun p hp dY et => by
      obtain ⟨s', ⟨h1, _⟩, h2⟩ := ry
      have gO : ∀ t, oy ops bn t = true → ∀ eM ∈ o :: l, eM.dst ≠ some t := fun t ax eM gK => by
        obtain ⟨j, ae⟩ := jh gK;rw [hl j] at ae;cases ak : (k :: ord)[j]? with
        | none => rw [ak] at ae; cases ae
        | some q => rw [ak] at ae; exact CM ax q eM ae (kK _ (c5 ak))
      have := cb.1 h1 p hp;unfold lS at this ⊢;rw [h2 p.1 (gO _ dY), h2 p.2 (gO _ et)] at this;exact this
    rw [List.nodup_cons] at gJ;have bX : ∀ q ∈ ord, k ≠ q := fun q ak e => gJ.1 (by rw [e]; exact ak);refine Tb aA l.length bn s (fun j bq h1 h2 h3 aE cZ => ⟨Region.free_spec aA ap j bq h1 h2 h3 aE, N5 aA hm hs j bq h1 h2 h3 cZ⟩) fG (by simpa using al) ok hw he hd ?_;refine Jr ord l _ _ (by simpa using hlen) (fun j => by simpa using hl (j + 1)) (fun q ak => by rw [getD_set_ne true (bX q ak)]; exact kK q (by simp [ak])) (fun q ak uD => ?_) gJ.2 (fG.set (by simpa using al)) (x3 ok he hd) FD e6
    by_cases bm : k = q
    · subst bm
      have : k < bn.size := by
        have := kK k (by simp);rcases hM k bn.size with aJ | aJ
        · exact aJ
        · simp [wY aJ] at this
      simp [this] at uD
    · rw [getD_set_ne true bm] at uD
      rcases fQ.1 (F1 q ak uD) with aJ | aJ
      · exact absurd aJ.symm bm
      · exact aJ
def uV (ops : Array Oper) (ord : List Nat) : List (Nat × Nat) :=
  match ord with
  | [] => []
  | i :: rest => (match ops[i]? with
    | some bl => bif lG bl != 0 then rest.filterMap fun j => match ops[j]? with
        | some bq => bif uU bl bq || waits .any ops 4 j i then none else HR bl bq
        | none => none
      else []
    | none => []) ++ uV ops rest
def early (o : Oper) : Bool := (match o.op with | .alloc _ => true | _ => false) && o.after.isEmpty && o.guard.isNone
def qJ (l : List Oper) : List Nat := ((List.range l.length).filter fun i => match l[i]? with | some o => early o | none => false) ++ (List.range l.length).filter fun i => match l[i]? with | some o => !early o | none => false
def e2 (P : Program) (c : Code) (Q : Exit → az → Prop) (s : az) : Prop :=
  s.cJ → ∀ B A ad a w, Rel B A s ad a w → ka P c (fun e a' w' => ∃ s' aY, s'.cJ ∧ Rel B A s' aY a' w' ∧ Q e s') a w
def zi : List Nat → Bool
  | [] => true
  | x :: xs => !xs.contains x && zi xs
theorem Hy : ∀ (l : List Nat), zi l = true → l.Nodup
  | [], _ => List.nodup_nil
  | x :: xs, h => by
    simp only [zi, dx, tx, List.contains_eq_mem, jF] at h;exact List.nodup_cons.2 ⟨h.1, Hy xs h.2⟩
def K3 (l : List Oper) : Bool := Nat.beq (qJ l).length l.length && zi (qJ l) && (List.range l.length).all (fun i => (qJ l).contains i) && (qJ l).all (fun i => Nat.blt i l.length) && ze .any l.toArray (uV l.toArray (qJ l)) (qJ l) (Array.replicate l.length false)
theorem J3 {id : Nat} {l cw : List Oper} {Q : Exit → az → Prop} (hm : P.follows .mixedOrders = true) (eG : K3 l = true) (hl : getAll l (qJ l) = some cw)
    (h : a7 P l.toArray (fun s => (uV l.toArray (qJ l)).all (lS s) = true ∧ Q .normal s) cw s) : e2 P (.region id l.toArray true) Q s := by
  intro ok B A ad a w ar;refine RF hm fun ro => ?_;unfold K3 at eG;simp only [dx, cb, List.mem_range, List.contains_eq_mem, ca] at eG;obtain ⟨⟨⟨⟨fN, b1⟩, b2⟩, dQ⟩, dz⟩ := eG;obtain ⟨g1, g2⟩ := Fs _ _ hl;have hd : Rel B A s ad a { w with drawn := w.drawn + 1 } := ar.call ((Below.refl _ w).drew);refine Js (K := Q .normal) (fun s' aY a' w' du cg af => ⟨s', aY, du, cg, af⟩) _ _ s ad a _ ok hd ?_;have nd := Hy _ b1;have hlen : (qJ l).length = l.length := gl fN;have := Jr (md := .any) (ops := l.toArray) (qJ l) cw (Array.replicate l.length false) s g1 (by simpa using g2) (fun q ak => by have := dQ q ak; simp [Nat.blt_eq] at this; simp [this]) (fun q ak _ => b2 q (by simpa using ak)) nd (fun k o af => by exfalso; rcases hM k l.length with q | q <;> simp [Array.getElem?_replicate, q] at af) ok dz h;rw [g1, hlen] at this;simpa using this
theorem Ju {ro : Option Nat} {K : az → Prop} {Q : Exit → Act → World → Prop} (kF : ∀ s' aY a' w', s'.cJ → Rel B A s' aY a' w' → K s' → Q .normal a' w') : ∀ (l : List Oper) (k : Nat) (s : az) (ad : Nat → Nat) (a : Act) (w : World), (∀ (j : Nat), l[j]? = ops[k + j]?) → s.cJ → Rel B A s ad a w →
    a7 P ops K l s → wpOpsIn (l3 ro) 0 P ops Q ((List.range l.length).map (k + ·)) a w
  | [], _, _, _, _, _, _, ok, ar, h => kF _ _ _ _ ok ar h
  | o :: l, k, s, ad, a, w, hl, ok, ar, h => by
    have aA : ops[k]? = some o := by simpa using (hl 0).symm
    have e : (List.range (o :: l).length).map (k + ·) = k :: (List.range l.length).map (k + 1 + ·) := by
      rw [jZ, List.range_succ_eq_map, kQ, List.map_map];congr 1;apply oI;intro j _;simp [Nat.add_assoc, Nat.add_comm 1 j]
    rw [e, wpOpsIn_cons];refine Jv aA ok ar h fun s' aY a' w' du cg af => Ju kF l (k + 1) s' aY a' w' (fun j => by have := hl (j + 1); simpa [Nat.add_assoc, Nat.add_comm 1 j] using this) du cg af
theorem J2 {id : Nat} {l : List Oper} {Q : Exit → az → Prop} (h : a7 P l.toArray (Q .normal) l s) : e2 P (.region id l.toArray false) Q s := by
  intro ok B A ad a w ar;refine RE fun ro => ?_;have := Ju (ro := ro) (ops := l.toArray) (K := Q .normal) (Q := fun e a' w' => ∃ s' aY, s'.cJ ∧ Rel B A s' aY a' w' ∧ Q e s') (fun s' aY a' w' du cg af => ⟨s', aY, du, cg, af⟩) l 0 s ad a w (by simp) ok ar h;simpa using this
end
section
variable {P : Program} {B : eP} {A : Nat → Prop} {s s1 s2 s' : az} {ad : Nat → Nat} {a : Act} {w : World} {Q : Exit → az → Prop} {x y : Code}
def ra (next : az → Prop) (Q : Exit → az → Prop) : Exit → az → Prop
  | .normal, s => next s
  | e, s => Q e s
theorem J5 (h : e2 P x (ra (fun s' => e2 P y Q s') Q) s) : e2 P (.seq x y) Q s := by
  intro ok B A ad a w ar;refine RH (qV (h ok B A ad a w ar) ?_);rintro e a' w' ⟨s', aY, du, cg, ak⟩;cases e <;> first | exact ak du B A aY a' w' cg | exact ⟨s', aY, du, cg, ak⟩
theorem J6 (h : Q .normal s) : e2 P .skip Q s := fun ok B A ad a w ar => RI ⟨s, ad, ok, ar, h⟩
theorem UC {id : Nat} (h : Q (.exit id) s) : e2 P (.exit id) Q s := fun ok B A ad a w ar => RC ⟨s, ad, ok, ar, h⟩
theorem J4 (h : Q .ret s) : e2 P .ret Q s := fun ok B A ad a w ar => RG ⟨s, ad, ok, ar, h⟩
theorem JW {c : Operand} {t : Bool} (aj : s.look c = some (.w (.one (.c (.bool t))))) (h1 : t = true → e2 P x Q s) (aA : t = false → e2 P y Q s) : e2 P (.cond c x y) Q s := by
  intro ok B A ad a w ar;have hv : a.eval c = .bool t := (ar.look aj).1;refine RB hv ?_;cases t with
  | true => exact h1 rfl ok B A ad a w ar
  | false => exact aA rfl ok B A ad a w ar
theorem J0 {c : Operand} (aj : s.look c = some (.w (.one (.c (.bool true))))) (h1 : e2 P x Q s) : e2 P (.cond c x y) Q s := JW aj (fun _ => h1) (fun e => by cases e)
theorem JZ {c : Operand} (aj : s.look c = some (.w (.one (.c (.bool false))))) (aA : e2 P y Q s) : e2 P (.cond c x y) Q s := JW aj (fun e => by cases e) (fun _ => aA)
def vz (id : Nat) (Q : Exit → az → Prop) : Exit → az → Prop
  | .exit pz, s => bif Nat.beq pz id then Q .normal s else Q (.exit pz) s
  | e, s => Q e s
theorem UA {id : Nat} (h : e2 P x (vz id Q) s) : e2 P (.block id x) Q s := by
  intro ok B A ad a w ar;refine RA (qV (h ok B A ad a w ar) ?_);rintro e a' w' ⟨s', aY, du, cg, ak⟩;cases e with
  | exit pz =>
    simp only [Exit.inBlock];simp only [vz] at ak;cases ab : Nat.beq pz id with
    | true => rw [ab] at ak; rw [if_pos (gl ab)]; exact ⟨s', aY, du, cg, ak⟩
    | false =>
      rw [ab] at ak;have : pz ≠ id := fun e => by subst e; rw [Nat.beq_refl] at ab; cases ab
      rw [if_neg this]; exact ⟨s', aY, du, cg, ak⟩
  | _ => exact ⟨s', aY, du, cg, ak⟩
structure az.aQ (s s' : az) : Prop where
  n : s'.n = s.n
  gE : ∀ t av, s'.tmps t = some av → s.tmps t = some av
  dt : ∀ k cs, s'.mem k = some cs → s.mem k = some cs
theorem Rel.le (h : Rel B A s ad a w) (l : s.aQ s') : Rel B A s' ad a w := by
  have ap : ∀ b, s.free A ad b → b < w.heap.size → s'.free A ad b ∧ w.heap[b]? = w.heap[b]? := fun b ab _ => ⟨⟨ab.1, fun k cs af => ab.2 k cs (l.dt k cs af)⟩, rfl⟩;refine ⟨h.pC, by rw [l.n]; exact h.size, fun t av ax => ?_, fun k cs af => ?_, fun k k' c c' af eD e => h.inj k k' c c' (l.dt _ _ af) (l.dt _ _ eD) e, h.below, h.up, fun k b af => by rw [l.n]; exact h.jS k b af⟩
  · obtain ⟨v, h1, h2⟩ := h.gE t av (l.gE t av ax)
    exact ⟨v, h1, h2.map ap fun _ _ => rfl⟩
  · obtain ⟨vs, ty, h1, h2, h3⟩ := h.dt k cs (l.dt k cs af)
    exact ⟨vs, ty, h1, h2.map ap fun _ _ _ _ => rfl, h3⟩
theorem RD {c : Code} {Q : Exit → Act → World → Prop} (I : Nat → Act → World → Prop) {n : Nat} (h₀ : I n a w)
    (round : ∀ n a w, I n a w → ka P c (Exit.then (fun a' w' => ∃ m, m < n ∧ I m a' w') Q) a w) : ka P (Code.loop c) Q a w := by
  intro ro b k cs iO ab k9
  have key : ∀ n a w, I n a w →
      ∃ e a' w', Q e a' w' ∧ ArrivesIn (Machine.fenced P (l3 ro)) P (lone (b.atR a (.code c :: .inLoop c :: k)) cs w) b k cs e a' w' := by
    intro n
    induction n using Nat.strongRecOn with
    | _ n bO =>
      intro a w bh;obtain ⟨e, vD, xl, ak, sS⟩ := round n a w bh ro b (.inLoop c :: k) cs iO ab k9;cases e with
      | normal =>
        obtain ⟨m, a8, WW⟩ := ak;obtain ⟨Wc, UG, agf, Yj, Xb⟩ := bO m a8 vD xl WW;exact ⟨Wc, UG, agf, Yj, .of_steps (StepsIn.trans sS (.one (fenced_calm ab k9 rfl) stepR_inLoop)) Xb⟩
      | exit id => exact ⟨_, vD, xl, ak, .pass (x := .inLoop c) rfl (fun _ _ => .inl (by simp)) sS⟩
      | goto l => exact ⟨_, vD, xl, ak, .pass (x := .inLoop c) rfl (fun _ _ => .inl (by simp)) sS⟩
      | ret => exact ⟨_, vD, xl, ak, .pass (x := .inLoop c) rfl (fun _ _ => .inl (by simp)) sS⟩
      | panic ch => exact ⟨_, vD, xl, ak, .pass (x := .inLoop c) rfl (fun _ _ => .inl (by simp)) sS⟩
      | outgrown => exact ⟨_, vD, xl, ak, .pass (x := .inLoop c) rfl (fun _ _ => .inl (by simp)) sS⟩
  obtain ⟨e, a', w', ak, sS⟩ := key _ a w h₀;exact ⟨e, a', w', ak, .of_steps (.one (fenced_calm ab k9 rfl) stepR_loop) sS⟩
theorem J1 (I : Nat → az → Prop) (n : Nat) (dB : az) (qw : s.aQ dB) (abw : dB.cJ) (aA : I n dB)
    (round : ∀ n s, I n s → e2 P x (ra (fun s' => ∃ m, m < n ∧ ∃ zO, s'.aQ zO ∧ zO.cJ ∧ I m zO) Q) s) : e2 P (.loop x) Q s := by
  intro ok B A ad a w ar;refine RD (fun n a w => ∃ s ad, s.cJ ∧ Rel B A s ad a w ∧ I n s) ⟨dB, ad, abw, ar.le qw, aA⟩ ?_;rintro n a w ⟨s, ad, ok, ar, bh⟩;refine qV (round n s bh ok B A ad a w ar) ?_;rintro e a' w' ⟨s', aY, du, cg, ak⟩;cases e with
  | normal =>
    obtain ⟨m, hm, zO, hl, u0, b0⟩ := ak;exact ⟨m, hm, zO, aY, u0, cg.le hl, b0⟩
  | _ => exact ⟨s', aY, du, cg, ak⟩
def ah.aQ (x y : ah) : Prop := ∀ U ad W v, cR U ad W x v → cR U ad W y v
theorem ah.aQ.refl (x : ah) : x.aQ x := fun _ _ _ _ h => h
theorem ah.aQ.of_eq {x y : ah} (h : x = y) : x.aQ y := by subst h; exact .refl x
def iy (P : Program) (s : az) : ResultVar → Option br
  | .tmp t => match s.tmps t with
    | some (.w x) => some x
    | _ => none
  | .cell a ty => match s.tmps a with
    | some (.w (.one (.own k off))) => (s.mem k).bind (pick P ty · off)
    | _ => none
def packed : List br → ah
  | [x] => .w x
  | xs => .cj xs
def xT (P : Program) (fn : Func) (r : ah) : Exit → az → Prop
  | .normal, s | .ret, s => ∃ xs, fn.results.toList.map (iy P s) = xs.map some ∧ (packed xs).aQ r
  | _, _ => False
theorem QR {α : Type} {f : α → Sem Value} : ∀ (l : List α) (vs : List Value), l.length = vs.length → (∀ (i : Nat) x v, l[i]? = some x → vs[i]? = some v → (f x).run P w = .ok v w) → (l.mapM f).run P w = .ok vs w
  | [], [], _, _ => rfl
  | [], _ :: _, h, _ => by cases h
  | _ :: _, [], h, _ => by cases h
  | x :: l, v :: vs, hl, h => by
    have aA := h 0 x v rfl rfl;have bO := QR l vs (by simpa using hl) (fun i x v aa hv => h (i + 1) x v (by simpa using aa) (by simpa using hv));rw [List.mapM_cons];simp only [Sem.run_bind, aA, Result.andThen_ok, bO];rfl
def zC (a : Act) : ResultVar → Sem Value
  | .tmp t => pure (a.tmps.getD t undef)
  | .cell b t => do loadVar t (← asAddr (a.tmps.getD b undef))
theorem adY (fn : Func) (a : Act) : results fn a.tmps = (do let vs ← fn.results.mapM (zC a); pure (if h : vs.size = 1 then vs[0] else .tuple vs)) := rfl
theorem adX {v : ResultVar} {z : br} (ar : Rel B A s ad a w) (h : iy P s v = some z) : ∃ u, (zC a v).run P w = .ok u w ∧ fE (s.free A ad) ad w z u := by
  cases v with
  | tmp t =>
    simp only [iy] at h
    split at h
    · rename_i x aa
      cases h;obtain ⟨v, h1, h2⟩ := ar.gE t _ aa;refine ⟨v, ?_, h2⟩;simp [zC, Array.getD_eq_getD_getElem?, h1]
    · cases h
  | cell b ty =>
    simp only [iy] at h
    split at h
    · rename_i k off aa
      cases hm : s.mem k with
      | none => rw [hm] at h; cases h
      | some cs =>
        rw [hm] at h;obtain ⟨vs, t, g1, g2, g3⟩ := ar.dt k cs hm;obtain ⟨u, h1, h2⟩ := PR h g1 g2;obtain ⟨p, q1, q2⟩ := ar.gE b _ aa;cases q2;refine ⟨u, ?_, h2⟩;simp only [zC, Array.getD_eq_getD_getElem?, q1, Option.getD_some, asAddr, Sem.run_bind, Sem.run_pure, Result.andThen_ok, h1]
    · cases h
theorem Qx {fn : Func} {xs : List br} (ar : Rel B A s ad a w) (h : fn.results.toList.map (iy P s) = xs.map some) : ∃ v, (results fn a.tmps).run P w = .ok v w ∧ cR (s.free A ad) ad w (packed xs) v := by
  have key : ∀ (l : List ResultVar) (xs : List br), l.map (iy P s) = xs.map some → ∃ vs : List Value, vs.length = xs.length ∧ l.length = vs.length ∧ (∀ (i : Nat) r u, l[i]? = some r → vs[i]? = some u → (zC a r).run P w = .ok u w) ∧ ∀ (i : Nat) x u, xs[i]? = some x → vs[i]? = some u → fE (s.free A ad) ad w x u := by
    intro l
    induction l with
    | nil => intro xs h; cases xs with
      | nil => exact ⟨[], rfl, rfl, fun i r u h => by simp at h, fun i x u h => by simp at h⟩
      | cons => cases h
    | cons r l bO =>
      intro xs h;cases xs with
      | nil => cases h
      | cons x xs =>
        simp only [kQ, List.cons.injEq] at h;obtain ⟨vs, aF, aN, b5, eB⟩ := bO xs h.2;obtain ⟨u, q1, q2⟩ := adX ar h.1;refine ⟨u :: vs, by simp [aF], by simp [aN], fun i aT nU h1 h2 => ?_, fun i x' nU h1 h2 => ?_⟩
        · cases i with
          | zero => simp at h1 h2; subst h1; subst h2; exact q1
          | succ i => exact b5 i aT nU (by simpa using h1) (by simpa using h2)
        · cases i with
          | zero => simp at h1 h2; subst h1; subst h2; exact q2
          | succ i => exact eB i x' nU (by simpa using h1) (by simpa using h2)
  obtain ⟨vs, aF, aN, b5, eB⟩ := key _ _ h;have hm := QR (P := P) (w := w) _ vs aN b5
  have gh : (results fn a.tmps).run P w = .ok (if h : vs.toArray.size = 1 then vs.toArray[0] else .tuple vs.toArray) w := by
    rw [adY, Array.mapM_eq_mapM_toList];simp only [map_eq_pure_bind, bind_assoc, Sem.run_bind];rw [hm];simp only [Result.andThen_ok, Sem.run_bind, Sem.run_pure]
  refine ⟨_, gh, ?_⟩
  match vs, xs, aF, eB with
  | [], [], _, _ => exact ⟨[], rfl, rfl, fun i x v h => by simp at h⟩
  | [v], [x], _, eB => exact eB 0 x v rfl rfl
  | v1 :: v2 :: vs, b8 :: cp :: xs, aF, eB =>
    rw [dif_neg (by simp)];exact ⟨v1 :: v2 :: vs, rfl, aF.symm, eB⟩
def start (n : Nat) (args : List ah) : az := ⟨n, fun t => args[t]?, fun _ => none⟩
def se (P : Program) (c : Code) (Q : Exit → az → Prop) (s : az) : Prop :=
  s.cJ → ∀ W A ad a w, Rel (eP.all W) A s ad a w → c.wp P (fun e a' w' => ∃ s' aY, s'.cJ ∧ Rel (eP.all W) A s' aY a' w' ∧ Q e s') a w
theorem PQ {f : FuncId} {fn : Func} {c : Code} {args : List ah} {r : ah} (ap : P.funcs[f]? = some fn) (ab : fn.body = some c) (au : args.length ≤ fn.ntmps) (jq : ∀ x ∈ args, x.closed) (bV : r.closed)
    (h : se P c (xT P fn r) (start fn.ntmps args)) : aC P f args r := by
  refine ⟨jq, bV, fun U W vs cI => ?_⟩;have hl := cI.1
 
  refine calls_of_wp ap ab ?_;have ok : (start fn.ntmps args).cJ := ⟨fun t av j ax ae => absurd ae (jq av (c5 ax) j), fun k cs x j af => by cases af⟩
  have ar : Rel (eP.all W) (fun b => U b ∨ W.heap.size ≤ b) (start fn.ntmps args) id { tmps := vs.toArray ++ Array.replicate (fn.ntmps - vs.toArray.size) undef, defers := [] } W := by
    refine ⟨rfl, by simp [start]; omega, fun t av ax => ?_, (fun k cs af => by cases af), (fun k k' cs aq af => by cases af), jO.refl (eP.all W), fun b ab => .inr ab, fun k b af => (by cases af)⟩;have a8 : t < vs.length := by rw [← hl]; exact (bF.1 ax).1
    refine ⟨vs[t], by simp [Array.getElem?_append, a8], ?_⟩;exact (cI.2 t av _ ax (bQ a8)).map (fun b ab _ => ⟨⟨.inl ab, fun k cs af => by cases af⟩, rfl⟩) fun _ _ => rfl
  refine wp_mono (h ok W _ id _ W ar) ?_;rintro e a' w' ⟨s', aY, du, cg, ak⟩
  have fin : (∃ xs, fn.results.toList.map (iy P s') = xs.map some ∧ (packed xs).aQ r) → a'.defers = [] ∧ ∃ v, (results fn a'.tmps).run P w' = .ok v w' ∧ ∃ u, Ending.returned v = .returned u ∧ cR (fun b => U b ∨ W.heap.size ≤ b) id w' r u ∧ Below W.heap.size W w' := by
    rintro ⟨xs, h1, h2⟩;obtain ⟨v, q1, q2⟩ := Qx cg h1;exact ⟨cg.pC, v, q1, v, rfl, (h2 _ _ _ _ q2).map (fun b ab _ => ⟨ab.1, rfl⟩) fun j ae => absurd ae (bV j), cg.below.all⟩
  cases e with
  | normal => exact fin ak
  | ret => exact fin ak
  | _ => exact ak.elim
theorem adk {f : FuncId} {fn : Func} {c : Code} {args : List ah} {r : ah} (ap : P.funcs[f]? = some fn) (ab : fn.body = some c) (au : args.length ≤ fn.ntmps) (jq : ∀ x ∈ args, x.closed) (bV : r.closed)
    (h : e2 P c (xT P fn r) (start fn.ntmps args)) : aC P f args r :=
  PQ ap ab au jq bV fun ok W A ad a w ar => (h ok (eP.all W) A ad a w ar).top
end
end Go.Proofs.YtbcecodakfejaaaGreat
