/-
  My own texts, without what this claim does not need. My own text.
-/
import Derived.Below
import Derived.Still
import Derived.OrdersIn
import Derived.Laws.CopyRow
import Derived.Laws.Cells
import Derived.Tactics
import Derived.IntWalk
import Derived.Laws.AppendOwn
namespace Go.Proofs.Ytlfkllmnekdghaa
open Go.RowKit
set_option linter.unusedVariables false
set_option linter.unusedSimpArgs false
/-- a fact of one value that hangs on the blocks of its footprint alone. -/
structure SP where
  holds : World → Value → Prop
  foot : World → Value → Nat → Prop
  frame : ∀ w w' v, holds w v → (∀ b, foot w v b → w'.heap[b]? = w.heap[b]?) → holds w' v ∧ ∀ b, foot w' v b → foot w v b
  old : ∀ w v b, holds w v → foot w v b → b < w.heap.size
  cell : ∀ w v, holds w v → v.oneCell' = true
/-- one cell: a value; a pointer into a block of the frame's own; a value of which a fact is known. -/
inductive AC where
  | c (v : Value)
  | own (k off : Nat)
  | p (R : SP)
inductive AW where
  | one (x : AC)
  | agg (xs : List AC)
inductive AV where
  | w (x : AW)
  | tup (xs : List AW)
def AW.cells : AW → List AC
  | .one x => [x]
  | .agg xs => xs
def RpC (U : Nat → Prop) (ρ : Nat → Nat) (W : World) : AC → Value → Prop
  | .c v, x => x = v ∧ v.oneCell' = true
  | .own k off, x => x = .pointer (some ⟨ρ k, off, none⟩)
  | .p R, x => R.holds W x ∧ ∀ b, R.foot W x b → U b
def RpL (U : Nat → Prop) (ρ : Nat → Nat) (W : World) (xs : List AC) (vs : List Value) : Prop :=
  xs.length = vs.length ∧ ∀ (i : Nat) (x : AC) (v : Value), xs[i]? = some x → vs[i]? = some v → RpC U ρ W x v
def RpW (U : Nat → Prop) (ρ : Nat → Nat) (W : World) : AW → Value → Prop
  | .one x, v => RpC U ρ W x v
  | .agg xs, v => ∃ vs : List Value, v = .agg vs.toArray ∧ RpL U ρ W xs vs
def RpV (U : Nat → Prop) (ρ : Nat → Nat) (W : World) : AV → Value → Prop
  | .w x, v => RpW U ρ W x v
  | .tup xs, v => ∃ vs : List Value, v = .tuple vs.toArray ∧ xs.length = vs.length ∧ ∀ (i : Nat) (x : AW) (v : Value), xs[i]? = some x → vs[i]? = some v → RpW U ρ W x v
def AC.owns : AC → Nat → Prop
  | .own k _, j => j = k
  | _, _ => False
def AW.owns (x : AW) (j : Nat) : Prop := ∃ y ∈ x.cells, y.owns j
def AV.owns : AV → Nat → Prop
  | .w x, j => x.owns j
  | .tup xs, j => ∃ x ∈ xs, x.owns j
section
variable {U U' : Nat → Prop} {ρ ρ' : Nat → Nat} {W W' : World}
theorem RpC.cell {x : AC} {v : Value} (h : RpC U ρ W x v) : v.oneCell' = true := by
  cases x with
  | c u => obtain ⟨rfl, h⟩ := h; exact h
  | own k off => cases h; rfl
  | p R => exact R.cell _ _ h.1
theorem RpC.map {x : AC} {v : Value} (h : RpC U ρ W x v) (hU : ∀ b, U b → b < W.heap.size → U' b ∧ W'.heap[b]? = W.heap[b]?) (hρ : ∀ j, x.owns j → ρ' j = ρ j) : RpC U' ρ' W' x v := by
  cases x with
  | c u => exact h
  | own k off => simp only [RpC] at h ⊢; rw [h, hρ k rfl]
  | p R =>
    obtain ⟨h1, h2⟩ := h
    have h3 := R.frame W W' v h1 (fun b hb => (hU b (h2 b hb) (R.old _ _ _ h1 hb)).2)
    exact ⟨h3.1, fun b hb => (hU b (h2 b (h3.2 b hb)) (R.old _ _ _ h1 (h3.2 b hb))).1⟩
theorem RpL.map {xs : List AC} {vs : List Value} (h : RpL U ρ W xs vs) (hU : ∀ b, U b → b < W.heap.size → U' b ∧ W'.heap[b]? = W.heap[b]?) (hρ : ∀ j x, x ∈ xs → x.owns j → ρ' j = ρ j) : RpL U' ρ' W' xs vs :=
  ⟨h.1, fun i x v hx hv => (h.2 i x v hx hv).map hU fun j hj => hρ j x (List.mem_of_getElem? hx) hj⟩
theorem RpW.map {x : AW} {v : Value} (h : RpW U ρ W x v) (hU : ∀ b, U b → b < W.heap.size → U' b ∧ W'.heap[b]? = W.heap[b]?) (hρ : ∀ j, x.owns j → ρ' j = ρ j) : RpW U' ρ' W' x v := by
  cases x with
  | one x => exact RpC.map h hU fun j hj => hρ j ⟨x, by simp [AW.cells], hj⟩
  | agg xs =>
    obtain ⟨vs, e, h⟩ := h
    exact ⟨vs, e, h.map hU fun j x hx hj => hρ j ⟨x, hx, hj⟩⟩
theorem RpV.map {x : AV} {v : Value} (h : RpV U ρ W x v) (hU : ∀ b, U b → b < W.heap.size → U' b ∧ W'.heap[b]? = W.heap[b]?) (hρ : ∀ j, x.owns j → ρ' j = ρ j) : RpV U' ρ' W' x v := by
  cases x with
  | w x => exact RpW.map h hU hρ
  | tup xs =>
    obtain ⟨vs, e, hl, h⟩ := h
    exact ⟨vs, e, hl, fun i x v hx hv => (h i x v hx hv).map hU fun j hj => hρ j ⟨x, List.mem_of_getElem? hx, hj⟩⟩
theorem RpW.cells {x : AW} {v : Value} (h : RpW U ρ W x v) : RpL U ρ W x.cells v.cells.toList := by
  cases x with
  | one x =>
    have hc : v.cells = #[v] := by
      have := RpC.cell h
      cases v <;> simp_all [Value.cells, Value.oneCell']
    rw [hc]
    refine ⟨rfl, fun i y u hy hu => ?_⟩
    simp only [AW.cells] at hy
    cases i with
    | zero => simp at hy hu; subst hy; subst hu; exact h
    | succ i => simp at hy
  | agg xs =>
    obtain ⟨vs, rfl, h⟩ := h
    exact h
end
/-- a map at one place turned. -/
def upd {α : Type} (f : Nat → Option α) (k : Nat) (v : α) : Nat → Option α := fun j => bif Nat.beq j k then some v else f j
theorem upd_same {α : Type} (f : Nat → Option α) (k : Nat) (v : α) : upd f k v k = some v := by simp [upd]
theorem upd_ne {α : Type} (f : Nat → Option α) {k j : Nat} (v : α) (h : j ≠ k) : upd f k v j = f j := by
  have : Nat.beq j k = false := by
    cases hb : Nat.beq j k with
    | false => rfl
    | true => exact absurd (Nat.eq_of_beq_eq_true hb) h
  simp [upd, this]
theorem upd_comm {α : Type} (f : Nat → Option α) {k j : Nat} (v u : α) (h : j ≠ k) : upd (upd f k v) j u = upd (upd f j u) k v := by
  funext i
  by_cases h1 : i = j
  · subst h1; rw [upd_same, upd_ne _ _ h, upd_same]
  · by_cases h2 : i = k
    · subst h2; rw [upd_ne _ _ h1, upd_same, upd_same]
    · rw [upd_ne _ _ h1, upd_ne _ _ h2, upd_ne _ _ h2, upd_ne _ _ h1]
/-- what the frame's slots hold, and what its own blocks hold. A block is named by the slot that its making has written. -/
structure AS where
  n : Nat
  tmps : Nat → Option AV
  mem : Nat → Option (List AC)
def AS.put (s : AS) (dst : Option Nat) (v : AV) : AS :=
  match dst with
  | some d => { s with tmps := upd s.tmps d v }
  | none => s
def AS.setm (s : AS) (k : Nat) (cs : List AC) : AS := { s with mem := upd s.mem k cs }
/-- a value of the program's text. -/
def ofW : Value → AW
  | .agg cs => .agg (cs.toList.map .c)
  | v => .one (.c v)
def ofV : Value → AV
  | .tuple vs => .tup (vs.toList.map ofW)
  | v => .w (ofW v)
def AS.look (s : AS) : Operand → Option AV
  | .tmp t => s.tmps t
  | .const v => if v.oneCell' then some (.w (.one (.c v))) else none
  | .global g => some (.w (.one (.c (.pointer (some ⟨g, 0, none⟩)))))
  | .func f => some (.w (.one (.c (.func (.func f) #[] #[]))))
def AS.free (s : AS) (A : Nat → Prop) (ρ : Nat → Nat) (b : Nat) : Prop := A b ∧ ∀ k cs, s.mem k = some cs → ρ k ≠ b
/-- every own block that is pointed to is there. -/
structure AS.Ok (s : AS) : Prop where
  tm : ∀ t av j, s.tmps t = some av → av.owns j → ∃ cs, s.mem j = some cs
  mm : ∀ k cs x j, s.mem k = some cs → x ∈ cs → x.owns j → ∃ cs', s.mem j = some cs'
/-- the world in which a piece of code begins, the blocks of it that the code leaves alone, and where the blocks of these names stay. -/
structure Base where
  W : World
  F : Nat → Prop
  lt : ∀ b, F b → b < W.heap.size
  N : Nat → Option Nat
  marks : List Deferred := []
/-- what a call leaves alone: all blocks that there are. -/
def Base.all (W : World) : Base := ⟨W, fun b => b < W.heap.size, fun _ h => h, fun _ => none, []⟩
def Anch (B : Base) (s : AS) (ρ : Nat → Nat) : Prop := ∀ k b, B.N k = some b → s.n ≤ k ∧ ρ k = b
structure BelowB (B : Base) (w : World) : Prop where
  os : w.os = B.W.os
  tape : w.tape = B.W.tape
  output : w.output = B.W.output
  size : B.W.heap.size ≤ w.heap.size
  block : ∀ b, B.F b → w.heap[b]? = B.W.heap[b]?
theorem BelowB.then {B : Base} {w w' : World} (h : BelowB B w) (hb : Below w.heap.size w w') : BelowB B w' :=
  ⟨hb.os.trans h.os, hb.tape.trans h.tape, hb.output.trans h.output, Nat.le_trans h.size hb.size, fun b hf => (hb.block b (Nat.lt_of_lt_of_le (B.lt b hf) h.size)).trans (h.block b hf)⟩
theorem BelowB.refl (B : Base) : BelowB B B.W := ⟨rfl, rfl, rfl, Nat.le_refl _, fun _ _ => rfl⟩
theorem BelowB.all {W w : World} (h : BelowB (Base.all W) w) : Below W.heap.size W w := ⟨h.os, h.tape, h.output, h.size, fun k hk => h.block k hk⟩
structure Rel (B : Base) (A : Nat → Prop) (s : AS) (ρ : Nat → Nat) (a : Act) (w : World) : Prop where
  nodef : a.defers = B.marks
  size : a.tmps.size = s.n
  tm : ∀ t av, s.tmps t = some av → ∃ v, a.tmps[t]? = some v ∧ RpV (s.free A ρ) ρ w av v
  mm : ∀ k cs, s.mem k = some cs → ∃ (vs : List Value) (ty : TypeId), w.heap[ρ k]? = some (.cells vs.toArray ty (0, 0)) ∧ RpL (s.free A ρ) ρ w cs vs ∧ ¬ B.F (ρ k)
  inj : ∀ k k' cs cs', s.mem k = some cs → s.mem k' = some cs' → ρ k = ρ k' → k = k'
  below : BelowB B w
  up : ∀ b, B.W.heap.size ≤ b → A b
  anch : Anch B s ρ
section
variable {B : Base} {A : Nat → Prop} {s : AS} {ρ : Nat → Nat} {a : Act} {w w' : World}
theorem AS.free_put (s : AS) (dst : Option Nat) (v : AV) (A : Nat → Prop) (ρ : Nat → Nat) : (s.put dst v).free A ρ = s.free A ρ := by cases dst <;> rfl
theorem AS.mem_put (s : AS) (dst : Option Nat) (v : AV) : (s.put dst v).mem = s.mem := by cases dst <;> rfl
theorem AS.n_put (s : AS) (dst : Option Nat) (v : AV) : (s.put dst v).n = s.n := by cases dst <;> rfl
theorem Rel.put {dst : Option Nat} {av : AV} {v : Value} (h : Rel B A s ρ a w) (hd : ∀ d, dst = some d → d < s.n) (hv : RpV (s.free A ρ) ρ w av v) : Rel B A (s.put dst av) ρ (a.put dst v) w := by
  cases dst with
  | none => exact h
  | some d =>
    have hlt := hd d rfl
    refine ⟨h.nodef, by simp [AS.put, Act.put, h.size], fun t bv ht => ?_, h.mm, h.inj, h.below, h.up, h.anch⟩
    simp only [AS.put] at ht
    by_cases e : t = d
    · subst e
      rw [upd_same] at ht
      cases ht
      exact ⟨v, by simp [Act.put, h.size, hlt], hv⟩
    · rw [upd_ne _ _ e] at ht
      obtain ⟨u, h1, h2⟩ := h.tm t bv ht
      exact ⟨u, by simp only [Act.put]; rw [Array.getElem?_setIfInBounds_ne (Ne.symm e)]; exact h1, h2⟩
theorem Rel.lt {k : Nat} {cs : List AC} (h : Rel B A s ρ a w) (hk : s.mem k = some cs) : ρ k < w.heap.size := by
  obtain ⟨vs, ty, h1, _⟩ := h.mm k cs hk
  exact (Array.getElem?_eq_some_iff.1 h1).1
theorem Rel.call (h : Rel B A s ρ a w) (hb : Below w.heap.size w w') : Rel B A s ρ a w' := by
  have hU : ∀ b, s.free A ρ b → b < w.heap.size → s.free A ρ b ∧ w'.heap[b]? = w.heap[b]? := fun b hb' hl => ⟨hb', hb.block b hl⟩
  refine ⟨h.nodef, h.size, fun t av ht => ?_, fun k cs hk => ?_, h.inj, h.below.then hb, h.up, h.anch⟩
  · obtain ⟨v, h1, h2⟩ := h.tm t av ht
    exact ⟨v, h1, h2.map hU fun _ _ => rfl⟩
  · obtain ⟨vs, ty, h1, h2, h3⟩ := h.mm k cs hk
    exact ⟨vs, ty, by rw [hb.block _ (h.lt hk)]; exact h1, h2.map hU fun _ _ _ _ => rfl, h3⟩
theorem Rel.new {d : Nat} {cs : List AC} {vs : List Value} {ty : TypeId} (h : Rel B A s ρ a w) (ok : s.Ok) (hdn : d < s.n) (hm : s.mem d = none) (hv : RpL (s.free A ρ) ρ w cs vs) (hcs : ∀ x ∈ cs, ∀ j, x.owns j → ∃ cs', s.mem j = some cs') :
    Rel B A (s.setm d cs) (fun k => if k = d then w.heap.size else ρ k) a (w.alloc (.cells vs.toArray ty)) := by
  have hne : ∀ k cs', s.mem k = some cs' → k ≠ d := fun k cs' hk e => by subst e; rw [hm] at hk; cases hk
  have hU : ∀ b, s.free A ρ b → b < w.heap.size → (s.setm d cs).free A (fun k => if k = d then w.heap.size else ρ k) b ∧ (w.alloc (.cells vs.toArray ty)).heap[b]? = w.heap[b]? := by
    intro b hb hl
    refine ⟨⟨hb.1, fun k cs' hk => ?_⟩, Below.heap_alloc _ _ _ hl⟩
    simp only [AS.setm] at hk
    by_cases e : k = d
    · subst e; simp; omega
    · rw [upd_ne _ _ e] at hk
      simp only [e, if_false]
      exact hb.2 k cs' hk
  have hown : ∀ j, (∃ cs', s.mem j = some cs') → (if j = d then w.heap.size else ρ j) = ρ j := fun j ⟨cs', hj⟩ => by rw [if_neg (hne j cs' hj)]
  refine ⟨h.nodef, h.size, fun t av ht => ?_, fun k cs' hk => ?_, fun k k' c1 c2 hk hk' e => ?_, h.below.then ((Below.refl _ _).alloc (Nat.le_refl _) _), h.up, fun k b hk => ?_⟩
  · obtain ⟨v, h1, h2⟩ := h.tm t av ht
    exact ⟨v, h1, h2.map hU fun j hj => hown j (ok.tm t av j ht hj)⟩
  · simp only [AS.setm] at hk
    by_cases e : k = d
    · subst e
      rw [upd_same] at hk
      cases hk
      refine ⟨vs, ty, ?_, hv.map hU fun j x hx hj => hown j (hcs x hx j hj), ?_⟩
      · show (w.heap.push _)[if k = k then w.heap.size else ρ k]? = _; simp
      · simp only [if_true]; exact fun hf => by have := B.lt _ hf; have := h.below.size; omega
    · rw [upd_ne _ _ e] at hk
      obtain ⟨us, t, h1, h2, h3⟩ := h.mm k cs' hk
      refine ⟨us, t, ?_, h2.map hU fun j x hx hj => hown j (ok.mm k cs' x j hk hx hj), ?_⟩
      · simp only [e, if_false]; rw [Below.heap_alloc _ _ _ (h.lt hk)]; exact h1
      · simp only [e, if_false]; exact h3
  · simp only [AS.setm] at hk hk'
    by_cases e1 : k = d <;> by_cases e2 : k' = d
    · rw [e1, e2]
    · rw [upd_ne _ _ e2] at hk'
      have := h.lt hk'
      simp [e1, e2] at e
      omega
    · rw [upd_ne _ _ e1] at hk
      have := h.lt hk
      simp [e1, e2] at e
      omega
    · rw [upd_ne _ _ e1] at hk
      rw [upd_ne _ _ e2] at hk'
      simp [e1, e2] at e
      exact h.inj k k' _ _ hk hk' e
  · obtain ⟨h1, h2⟩ := h.anch k b hk
    refine ⟨h1, ?_⟩
    rw [if_neg (fun e => by subst e; exact absurd hdn (Nat.not_lt.2 h1))]
    exact h2
theorem Rel.set {k : Nat} {cs ds : List AC} {us : List Value} (h : Rel B A s ρ a w) (hk : s.mem k = some cs) (hv : RpL (s.free A ρ) ρ w ds us) : Rel B A (s.setm k ds) ρ a (w.setRow (ρ k) us.toArray) := by
  have hfree : (s.setm k ds).free A ρ = s.free A ρ := by
    funext b
    apply propext
    constructor
    · rintro ⟨hA, hb⟩
      refine ⟨hA, fun j cs' hj => ?_⟩
      by_cases e : j = k
      · subst e; exact hb j ds (by simp [AS.setm, upd_same])
      · exact hb j cs' (by simp only [AS.setm]; rw [upd_ne _ _ e]; exact hj)
    · rintro ⟨hA, hb⟩
      refine ⟨hA, fun j cs' hj => ?_⟩
      simp only [AS.setm] at hj
      by_cases e : j = k
      · subst e; exact hb j cs hk
      · rw [upd_ne _ _ e] at hj; exact hb j cs' hj
  obtain ⟨vs, ty, g1, g2, g3⟩ := h.mm k cs hk
  have hrow : (w.setRow (ρ k) us.toArray).heap[ρ k]? = some (.cells us.toArray ty (0, 0)) := setRow_heap w (ρ k) vs.toArray us.toArray ty (0, 0) g1
  have hoth : ∀ b, b ≠ ρ k → (w.setRow (ρ k) us.toArray).heap[b]? = w.heap[b]? := fun b hb => by
    simp only [World.setRow, Array.getElem?_modify]; rw [if_neg (Ne.symm hb)]
  have hU : ∀ b, s.free A ρ b → b < w.heap.size → s.free A ρ b ∧ (w.setRow (ρ k) us.toArray).heap[b]? = w.heap[b]? := fun b hb _ => ⟨hb, hoth b (Ne.symm (hb.2 k cs hk))⟩
  refine ⟨h.nodef, h.size, fun t av ht => ?_, fun j cs' hj => ?_, fun j j' c1 c2 hj hj' e => ?_, ?_, h.up, h.anch⟩
  · obtain ⟨v, h1, h2⟩ := h.tm t av ht
    exact ⟨v, h1, by rw [hfree]; exact h2.map hU fun _ _ => rfl⟩
  · simp only [AS.setm] at hj
    rw [hfree]
    by_cases e : j = k
    · subst e
      rw [upd_same] at hj
      cases hj
      exact ⟨us, ty, hrow, hv.map hU fun _ _ _ _ => rfl, g3⟩
    · rw [upd_ne _ _ e] at hj
      obtain ⟨vs', ty', h1, h2, h3⟩ := h.mm j cs' hj
      exact ⟨vs', ty', by rw [hoth _ (fun e' => e (h.inj j k _ _ hj hk e'))]; exact h1, h2.map hU fun _ _ _ _ => rfl, h3⟩
  · have hold : ∀ i c, (s.setm k ds).mem i = some c → ∃ c', s.mem i = some c' := fun i c hi => by
      simp only [AS.setm] at hi
      by_cases e : i = k
      · exact ⟨cs, by rw [e]; exact hk⟩
      · rw [upd_ne _ _ e] at hi; exact ⟨c, hi⟩
    obtain ⟨d1, q1⟩ := hold j c1 hj
    obtain ⟨d2, q2⟩ := hold j' c2 hj'
    exact h.inj j j' _ _ q1 q2 e
  · exact ⟨h.below.os, h.below.tape, h.below.output, by have := h.below.size; simpa [World.setRow] using this, fun b hb => (hoth b (fun e => by subst e; exact g3 hb)).trans (h.below.block b hb)⟩
theorem RpC.const (U : Nat → Prop) (ρ : Nat → Nat) (W : World) {v : Value} (h : v.oneCell' = true) : RpC U ρ W (.c v) v := ⟨rfl, h⟩
end
def AV.closed (x : AV) : Prop := ∀ j, ¬ x.owns j
def RpVs (U : Nat → Prop) (ρ : Nat → Nat) (W : World) (xs : List AV) (vs : List Value) : Prop :=
  xs.length = vs.length ∧ ∀ (i : Nat) (x : AV) (v : Value), xs[i]? = some x → vs[i]? = some v → RpV U ρ W x v
/-- f, called with what these values tell, hands back what r tells; elder memory stays as it was. -/
structure PCall (P : Program) (f : FuncId) (args : List AV) (r : AV) : Prop where
  ca : ∀ x ∈ args, x.closed
  cr : r.closed
  call : ∀ (U : Nat → Prop) (W : World) (vs : List Value), RpVs U id W args vs →
    Calls P f vs.toArray W fun e W' => ∃ v, e = .returned v ∧ RpV (fun b => U b ∨ W.heap.size ≤ b) id W' r v ∧ Below W.heap.size W W'
/-- an operation that leaves the world alone, and whose value hangs on its operands alone. -/
structure QuietOK (P : Program) (look : Operand → Option AV) (o : Oper) (av : AV) : Prop where
  sel : ∀ cs b, o.op ≠ .select cs b
  ops : ∀ x ∈ o.op.operands, ∃ a, look x = some a
  run : ∀ (U : Nat → Prop) (ρ : Nat → Nat) (W : World) (env : Operand → Value), (∀ x ∈ o.op.operands, ∀ a, look x = some a → RpV U ρ W a (env x)) →
    ∃ v, (execOp env o).run P W = .ok (.value v) W ∧ RpV U ρ W av v
  own : ∀ j, av.owns j → ∃ x ∈ o.op.operands, ∃ a, look x = some a ∧ a.owns j
def pick (P : Program) (ty : TypeId) (cs : List AC) (off : Nat) : Option AW :=
  match P.underlying ty with
  | some (.struct _) | some (.array _ _) => (P.info? ty).bind fun i => if off + i.size ≤ cs.length then some (.agg ((cs.drop off).take i.size)) else none
  | some _ => (cs[off]?).map .one
  | none => none
def splice (cs : List AC) (off : Nat) (ds : List AC) : List AC := cs.take off ++ ds ++ cs.drop (off + ds.length)
inductive NewOK (P : Program) (look : Operand → Option AV) (o : Oper) : List AC → Prop
  | alloc (ty : TypeId) (i : TypeInfo) (z : Value) (cs : List AC) (ho : o.op = .alloc ty) (hi : P.info? ty = some i) (hz : i.zero = some z) (hc : cs = z.cells.toList.map .c) (h1 : (z.cells.toList.all fun v => v.oneCell') = true) : NewOK P look o cs
  | box (ty : TypeId) (x : Operand) (z : AW) (ho : o.op = .box ty x) (hx : look x = some (.w z)) : NewOK P look o z.cells
def enters (P : Program) (f : FuncId) : Bool := match P.funcs[f]? with
  | some fn => fn.body.isSome && fn.name != "runtime.NumGoroutine"
  | none => false
/-- a value that a function has been bound to. -/
def bndB : Value → Bool
  | .agg cs => cs.toList.all fun v => v.oneCell'
  | .tuple _ => false
  | _ => true
def capF (w : World) : AC → Value → Nat → Prop
  | .p R, x, b => R.foot w x b
  | _, _, _ => False
/-- a function that has taken hold of what cs tells. -/
def FunP (fn : Fn) (cs : List AC) : SP where
  holds w v := ∃ vs : List Value, v = .func fn #[] vs.toArray ∧ RpL (fun _ => True) id w cs vs ∧ ∀ x ∈ cs, ∀ j, ¬ x.owns j
  foot w v b := ∃ vs : List Value, v = .func fn #[] vs.toArray ∧ ∃ (i : Nat) (x : AC) (u : Value), cs[i]? = some x ∧ vs[i]? = some u ∧ capF w x u b
  frame w w' v := by
    rintro ⟨vs, rfl, hl, hc⟩ hf
    have key : ∀ (i : Nat) (x : AC) (u : Value), cs[i]? = some x → vs[i]? = some u → RpC (fun _ => True) id w' x u ∧ ∀ b, capF w' x u b → capF w x u b := by
      intro i x u hx hu
      have h := hl.2 i x u hx hu
      cases x with
      | c y => exact ⟨h, fun b hb => hb⟩
      | own k o => exact ⟨h, fun b hb => hb⟩
      | p R =>
        have := R.frame w w' u h.1 fun b hb => hf b ⟨vs, rfl, i, _, u, hx, hu, hb⟩
        exact ⟨⟨this.1, fun _ _ => trivial⟩, this.2⟩
    refine ⟨⟨vs, rfl, ⟨hl.1, fun i x u hx hu => (key i x u hx hu).1⟩, hc⟩, ?_⟩
    rintro b ⟨vs', e, i, x, u, hx, hu, hb⟩
    have e' : vs = vs' := by simpa using e
    subst e'
    exact ⟨vs, rfl, i, x, u, hx, hu, (key i x u hx hu).2 b hb⟩
  old w v b := by
    rintro ⟨vs, rfl, hl, hc⟩ ⟨vs', e, i, x, u, hx, hu, hb⟩
    have e' : vs = vs' := by simpa using e
    subst e'
    have h := hl.2 i x u hx hu
    cases x with
    | p R => exact R.old _ _ _ h.1 hb
    | c y => cases hb
    | own k o => cases hb
  cell w v := by rintro ⟨vs, rfl, _⟩; rfl
theorem FunP.caps {U : Nat → Prop} {ρ : Nat → Nat} {w : World} {v : Value} {fn : Fn} {cs : List AC} (h : RpC U ρ w (.p (FunP fn cs)) v) : ∃ vs : List Value, v = .func fn #[] vs.toArray ∧ RpL U id w cs vs := by
  obtain ⟨⟨vs, rfl, hl, hc⟩, hf⟩ := h
  refine ⟨vs, rfl, hl.1, fun i x u hx hu => ?_⟩
  have h := hl.2 i x u hx hu
  cases x with
  | c y => exact h
  | own k o => exact h
  | p R => exact ⟨h.1, fun b hb => hf b ⟨vs, rfl, i, _, u, hx, hu, hb⟩⟩
structure CallOK (P : Program) (look : Operand → Option AV) (o : Oper) (f : FuncId) (args : List AV) : Prop where
  ex : ∃ c g, o.op = .call c ∧ c.callee = .value g ∧
    ((∃ bs : List Value, look g = some (.w (.one (.c (.func (.func f) bs.toArray #[])))) ∧ bs.map (fun b => some (ofV b)) ++ c.args.toList.map look = args.map some ∧ bs.all bndB = true) ∨
     ∃ cs : List AC, look g = some (.w (.one (.p (FunP (.func f) cs)))) ∧ c.args.toList.map look ++ cs.map (fun x => some (.w (.one x))) = args.map some)
  enters : enters P f = true
/-- an operation whose value hangs on its operands alone, and lies in memory of its own. -/
structure FreshOK (P : Program) (look : Operand → Option AV) (o : Oper) (av : AV) : Prop where
  ops : ∀ x ∈ o.op.operands, ∃ a, look x = some a
  cl : av.closed
  run : ∀ (U : Nat → Prop) (ρ : Nat → Nat) (W : World) (env : Operand → Value), (∀ x ∈ o.op.operands, ∀ a, look x = some a → RpV U ρ W a (env x)) →
    ∃ v W', (execOp env o).run P W = .ok (.value v) W' ∧ RpV (fun b => U b ∨ W.heap.size ≤ b) ρ W' av v ∧ Below W.heap.size W W'
inductive AStep (P : Program) (s : AS) (o : Oper) : AS → Prop
  | fresh (av : AV) (hq : FreshOK P s.look o av) (hd : ∀ d, o.dst = some d → d < s.n) : AStep P s o (s.put o.dst av)
  | quiet (av : AV) (hq : QuietOK P s.look o av) (hd : ∀ d, o.dst = some d → d < s.n) : AStep P s o (s.put o.dst av)
  | load (ty : TypeId) (x : Operand) (k off : Nat) (cs : List AC) (av : AW) (ho : o.op = .load ty x) (hx : s.look x = some (.w (.one (.own k off)))) (hm : s.mem k = some cs) (hv : pick P ty cs off = some av) (hd : ∀ d, o.dst = some d → d < s.n) : AStep P s o (s.put o.dst (.w av))
  | store (ty : TypeId) (x y : Operand) (k off : Nat) (cs : List AC) (z : AW) (i : TypeInfo) (ho : o.op = .store ty x y) (hx : s.look x = some (.w (.one (.own k off)))) (hy : s.look y = some (.w z)) (hm : s.mem k = some cs) (hi : P.info? ty = some i) (hs : i.size = z.cells.length) (hb : off + z.cells.length ≤ cs.length) (hd : ∀ d, o.dst = some d → d < s.n) : AStep P s o ((s.put o.dst (.tup [])).setm k (splice cs off z.cells))
  | new (cs : List AC) (d : Nat) (hdst : o.dst = some d) (hm : s.mem d = none) (hn : NewOK P s.look o cs) (hd : d < s.n) : AStep P s o ((s.setm d cs).put (some d) (.w (.one (.own d 0))))
  | call (f : FuncId) (args : List AV) (r : AV) (hc : CallOK P s.look o f args) (hp : PCall P f args r) (hd : ∀ d, o.dst = some d → d < s.n) : AStep P s o (s.put o.dst r)
section
variable {P : Program} {B : Base} {A : Nat → Prop} {s s' : AS} {ρ : Nat → Nat} {a : Act} {w : World} {o : Oper} {Q : Exit → Act → World → Prop}
theorem RpV.undef (U : Nat → Prop) : RpV U ρ w (.tup []) undef := ⟨[], rfl, rfl, fun i x v h => by simp at h⟩
theorem Rel.look {x : Operand} {av : AV} (h : Rel B A s ρ a w) (hx : s.look x = some av) : RpV (s.free A ρ) ρ w av (a.eval x) := by
  cases x with
  | tmp t =>
    obtain ⟨v, h1, h2⟩ := h.tm t av hx
    have : a.eval (.tmp t) = v := by simp [Act.eval, Array.getD_eq_getD_getElem?, h1]
    rw [this]; exact h2
  | const v =>
    simp only [AS.look] at hx
    split at hx
    · rename_i h1; cases hx; exact ⟨rfl, h1⟩
    · cases hx
  | global g => cases hx; exact ⟨rfl, rfl⟩
  | func f => cases hx; exact ⟨rfl, rfl⟩
theorem RpL.cellAt {U : Nat → Prop} {W : World} {xs : List AC} {vs : List Value} {g : Nat} {ty : TypeId} (h : RpL U ρ W xs vs) (hg : W.heap[g]? = some (.cells vs.toArray ty (0, 0))) {i : Nat} {x : AC} (hi : xs[i]? = some x) :
    ∃ v, vs[i]? = some v ∧ W.cell? ⟨g, i, none⟩ = some v ∧ RpC U ρ W x v := by
  have hlt : i < vs.length := by
    rw [← h.1]
    rcases Nat.lt_or_ge i xs.length with q | q
    · exact q
    · rw [List.getElem?_eq_none q] at hi; cases hi
  refine ⟨vs[i], List.getElem?_eq_getElem hlt, ?_, h.2 i x _ hi (List.getElem?_eq_getElem hlt)⟩
  simp [World.cell?, hg, hlt]
theorem RpL.sub {U : Nat → Prop} {W : World} {xs : List AC} {vs : List Value} (h : RpL U ρ W xs vs) (off n : Nat) : RpL U ρ W ((xs.drop off).take n) ((vs.drop off).take n) := by
  refine ⟨by simp [h.1], fun i x v hx hv => ?_⟩
  rw [List.getElem?_take] at hx hv
  split at hx
  · rename_i hlt
    rw [if_pos hlt] at hv
    rw [List.getElem?_drop] at hx hv
    exact h.2 _ x v hx hv
  · cases hx
theorem RpL.splice {U : Nat → Prop} {W : World} {xs ds : List AC} {vs us : List Value} (h : RpL U ρ W xs vs) (hd : RpL U ρ W ds us) (off : Nat) (hb : off + ds.length ≤ xs.length) : RpL U ρ W (splice xs off ds) (vs.take off ++ us ++ vs.drop (off + us.length)) := by
  have e1 := h.1
  have e2 := hd.1
  refine ⟨by simp [Proofs.Ytlfkllmnekdghaa.splice, e1, e2], fun i x v hx hv => ?_⟩
  unfold Proofs.Ytlfkllmnekdghaa.splice at hx
  have lx : (xs.take off).length = off := by simp; omega
  have lv : (vs.take off).length = off := by simp; omega
  by_cases h1 : i < off
  · rw [List.append_assoc, List.getElem?_append_left (by omega), List.getElem?_take_of_lt h1] at hx
    rw [List.append_assoc, List.getElem?_append_left (by omega), List.getElem?_take_of_lt h1] at hv
    exact h.2 i x v hx hv
  · by_cases h2 : i < off + ds.length
    · rw [List.append_assoc, List.getElem?_append_right (by omega), List.getElem?_append_left (by omega), lx] at hx
      rw [List.append_assoc, List.getElem?_append_right (by omega), List.getElem?_append_left (by omega), lv] at hv
      exact hd.2 _ x v hx hv
    · rw [List.getElem?_append_right (by simp; omega), List.getElem?_drop] at hx hv
      simp only [List.length_append, lx, lv] at hx hv
      rw [← e2] at hv
      have e : off + ds.length + (i - (off + ds.length)) = i := by omega
      rw [e] at hx hv
      exact h.2 i x v hx hv
theorem run_loadVar_one {ty : TypeId} {A : Addr} {v : Value} {d : TypeDesc} (hu : P.underlying ty = some d) (hs : ∀ fs, d ≠ .struct fs) (ha : ∀ n e, d ≠ .array n e) (hc : w.cell? A = some v) : (loadVar ty A).run P w = .ok v w := by
  have h1 : (isAgg ty).run P w = .ok false w := by
    unfold isAgg
    simp only [Sem.run_bind, run_underlying hu, Result.andThen_ok]
    cases d <;> first | rfl | (exact absurd rfl (hs _)) | (exact absurd rfl (ha _ _))
  unfold loadVar
  simp only [Sem.run_bind, h1, Result.andThen_ok, Bool.false_eq_true, if_false]
  simp [load, Sem.run, hc]
theorem run_sizeOf' {ty : TypeId} {i : TypeInfo} (hi : P.info? ty = some i) : (sizeOf ty).run P w = .ok i.size w := by
  simp [sizeOf, typeInfo, program, Sem.run_bind, Sem.run, hi, Result.andThen]
theorem run_loadVar_agg {ty : TypeId} {A : Addr} {vs : List Value} {i : TypeInfo} {d : TypeDesc} (hu : P.underlying ty = some d) (hd : (∃ fs, d = .struct fs) ∨ ∃ n e, d = .array n e) (hi : P.info? ty = some i) (hl : vs.length = i.size) (hc : ∀ j v, vs[j]? = some v → w.cell? (A.add j) = some v) :
    (loadVar ty A).run P w = .ok (.agg vs.toArray) w := by
  have h1 : (isAgg ty).run P w = .ok true w := by
    unfold isAgg
    simp only [Sem.run_bind, run_underlying hu, Result.andThen_ok]
    rcases hd with ⟨fs, rfl⟩ | ⟨n, e, rfl⟩ <;> rfl
  unfold loadVar
  simp only [Sem.run_bind, h1, Result.andThen_ok, if_true, run_sizeOf' hi, ← hl, run_loadCells_list w A vs hc]
  rfl
end
section
variable {P : Program} {B : Base} {A : Nat → Prop} {s s' : AS} {ρ : Nat → Nat} {a : Act} {w : World} {o : Oper} {Q : Exit → Act → World → Prop}
theorem pick_sound {U : Nat → Prop} {ty : TypeId} {cs : List AC} {off g : Nat} {av : AW} {vs : List Value} {t : TypeId} (hv : pick P ty cs off = some av) (hg : w.heap[g]? = some (.cells vs.toArray t (0, 0))) (hl : RpL U ρ w cs vs) :
    ∃ v, (loadVar ty ⟨g, off, none⟩).run P w = .ok v w ∧ RpW U ρ w av v := by
  unfold pick at hv
  have key : ∀ d, P.underlying ty = some d → ((∃ fs, d = .struct fs) ∨ ∃ n e, d = .array n e) → ((P.info? ty).bind fun i => if off + i.size ≤ cs.length then some (AW.agg ((cs.drop off).take i.size)) else none) = some av → ∃ v, (loadVar ty ⟨g, off, none⟩).run P w = .ok v w ∧ RpW U ρ w av v := by
    intro d hu hd h
    cases hi : P.info? ty with
    | none => rw [hi] at h; cases h
    | some i =>
      rw [hi] at h
      simp only [Option.bind_some] at h
      split at h
      · rename_i hle
        cases h
        have hs := hl.sub off i.size
        have hlen : ((vs.drop off).take i.size).length = i.size := by have := hl.1; simp; omega
        refine ⟨_, run_loadVar_agg hu hd hi hlen (fun j v hj => ?_), _, rfl, hs⟩
        have hj' : j < i.size := by rw [← hlen]; exact (List.getElem?_eq_some_iff.1 hj).1
        rw [List.getElem?_take_of_lt hj', List.getElem?_drop] at hj
        have hadd : (⟨g, off, none⟩ : Addr).add j = ⟨g, off + j, none⟩ := by unfold Addr.add; split <;> simp_all
        rw [hadd]
        simp only [World.cell?, hg]
        simpa using hj
      · cases h
  have key1 : ∀ d, P.underlying ty = some d → (∀ fs, d ≠ .struct fs) → (∀ n e, d ≠ .array n e) → (cs[off]?).map AW.one = some av → ∃ v, (loadVar ty ⟨g, off, none⟩).run P w = .ok v w ∧ RpW U ρ w av v := by
    intro d hu h1 h2 h
    cases hx : cs[off]? with
    | none => rw [hx] at h; cases h
    | some x =>
      rw [hx] at h
      cases h
      obtain ⟨v, q1, q2, q3⟩ := hl.cellAt hg hx
      exact ⟨v, run_loadVar_one hu h1 h2 q2, q3⟩
  cases hu : P.underlying ty with
  | none => rw [hu] at hv; cases hv
  | some d =>
    rw [hu] at hv
    cases d <;> first | exact key _ hu (.inl ⟨_, rfl⟩) hv | exact key _ hu (.inr ⟨_, _, rfl⟩) hv | exact key1 _ hu (fun _ h => by cases h) (fun _ _ h => by cases h) hv
theorem enters_run {f : FuncId} {args : Array Value} (h : enters P f = true) : (callFunc f args).run P w = .ok (.enter f args) w := by
  unfold enters at h
  cases hf : P.funcs[f]? with
  | none => rw [hf] at h; cases h
  | some fn =>
    rw [hf] at h
    simp only [Bool.and_eq_true, bne_iff_ne, ne_eq] at h
    obtain ⟨h1, h2⟩ := h
    simp [callFunc, program, Sem.run_bind, Sem.run, hf, Result.andThen, h2]
    intro h3
    rw [h3] at h1
    cases h1
/-- the fence that lets everything in, for a function's frame (none) or a round's. -/
def Wd (ro : Option Nat) : Fence := { Fence.wide with round := ro }
theorem callsIn_wd {ro : Option Nat} {n : Nat} {P : Program} {f : FuncId} {args : Array Value} {w : World} {R : Ending → World → Prop} (h : Calls P f args w R) : CallsIn (Wd ro) n P f args w R := callsIn_wide.2 h
theorem rowsIn_wd {ro : Option Nat} {n : Nat} {P : Program} {row : String} {args : Array Value} {w : World} {R : Value → World → Prop} (h : Rows P row args w R) : RowsIn (Wd ro) n P row args w R := fun c cs _ => by
  obtain ⟨v, w', hr, hs⟩ := h c cs
  exact ⟨v, w', hr, stepsIn_wide.2 hs⟩
theorem no_defer {P : Program} {ρ : Operand → Value} {o : Oper} {w w' : World} {x : Next} (h : (execOp ρ o).run P w = .ok x w') (hx : ∀ d, x ≠ .defer d) : ∀ c, o.op ≠ .defer c := fun c hc => by
  simp only [execOp, hc, Sem.run_bind] at h
  cases hr : (resolve ρ c o.type).run P w with
  | ok d w2 => rw [hr] at h; simp only [Result.andThen_ok, Sem.run_pure, Result.ok.injEq] at h; exact hx d h.1.symm
  | halt r w2 => rw [hr] at h; simp [Result.andThen] at h
/-- an operation that is no defer statement is carried out in a round as everywhere. -/
theorem Oper.wpIn_wd {ro : Option Nat} {n : Nat} {P : Program} {o : Oper} {a : Act} {w : World} {K : Act → World → Prop} {Q : Exit → Act → World → Prop} (h : o.wp P a w K Q) (hd : ∀ c, o.op ≠ .defer c) : o.wpIn (Wd ro) n P a w K Q := by
  refine ⟨fun _ _ => trivial, ?_⟩
  rw [Oper.semAt_eq _ _ _ hd]
  unfold Oper.wp at h
  generalize (execOp a.eval o).run P w = r at *
  have hn : (Wd ro).depth.isSome = true → 1 ≤ n := fun h => by simp [Wd, Fence.wide] at h
  cases r with
  | ok x w' => cases x <;> first | exact h | exact ⟨hn, callsIn_wd h⟩ | exact ⟨hn, rowsIn_wd h⟩ | exact h.elim
  | halt x w' => cases x <;> exact h
/-- what holds of code, in whatever frame it stands. -/
def wR (P : Program) (c : Code) (Q : Exit → Act → World → Prop) (a : Act) (w : World) : Prop := ∀ ro, c.wpIn (Wd ro) 0 P Q a w
section
variable {P : Program} {Q Q' : Exit → Act → World → Prop} {a : Act} {w : World} {c x y : Code}
theorem wR.top (h : wR P c Q a w) : c.wp P Q a w := wpIn_wide.1 (h none)
theorem wR_mono (h : wR P c Q a w) (hq : ∀ e a w, Q e a w → Q' e a w) : wR P c Q' a w := fun ro => wpIn_mono (h ro) hq
theorem wR_seq (h : wR P x (Exit.then (wR P y Q) Q) a w) : wR P (.seq x y) Q a w := fun ro => wpIn_seq (wpIn_mono (h ro) fun e a w hq => by cases e <;> first | exact hq ro | exact hq)
theorem wR_skip (h : Q .normal a w) : wR P .skip Q a w := fun ro => wpIn_skip h
theorem wR_exit {id : Nat} (h : Q (.exit id) a w) : wR P (.exit id) Q a w := fun ro => wpIn_exit h
theorem wR_ret (h : Q .ret a w) : wR P .ret Q a w := fun ro => wpIn_ret h
theorem wR_cond {c : Operand} {t : Bool} (hc : a.eval c = .bool t) (h : wR P (if t then x else y) Q a w) : wR P (.cond c x y) Q a w := fun ro => wpIn_cond hc (h ro)
theorem wR_block {id : Nat} (h : wR P c (Exit.inBlock id Q) a w) : wR P (.block id c) Q a w := fun ro => wpIn_block (h ro)
theorem wR_region {id : Nat} {ops : Array Oper} (h : ∀ ro, wpOpsIn (Wd ro) 0 P ops Q (List.range ops.size) a w) : wR P (.region id ops false) Q a w := fun ro => wpIn_region (h ro)
theorem wR_region_any {id : Nat} {ops : Array Oper} (hm : P.follows .mixedOrders = true) (h : ∀ ro, wpAnyIn (Wd ro) 0 P .any ops Q ops.size (Array.replicate ops.size false) a { w with drawn := w.drawn + 1 }) : wR P (.region id ops true) Q a w := fun ro => wpIn_region_any hm (h ro)
end
theorem Oper.wp_value {v : Value} {w' : World} {next : Act → World → Prop} (h : (execOp a.eval o).run P w = .ok (.value v) w') (hn : next (a.put o.dst v) w') : o.wp P a w next Q := by
  unfold Oper.wp
  rw [h]
  exact hn
theorem Rel.id_of_closed {U : Nat → Prop} {x : AV} {v : Value} (hc : x.closed) (h : RpV U ρ w x v) : RpV U id w x v := h.map (fun b hb _ => ⟨hb, rfl⟩) fun j hj => absurd hj (hc j)
theorem rpV_ofV {U : Nat → Prop} {v : Value} (h : bndB v = true) : RpV U ρ w (ofV v) v := by
  cases v with
  | agg cs =>
    refine ⟨cs.toList, by simp, by simp, fun i x u hx hu => ?_⟩
    rw [List.getElem?_map, hu] at hx
    cases hx
    exact ⟨rfl, List.all_eq_true.1 h u (List.mem_of_getElem? hu)⟩
  | tuple vs => cases h
  | _ => exact ⟨rfl, rfl⟩
theorem AStep.nodefer (h : AStep P s o s') (hR : Rel B A s ρ a w) : ∀ c, o.op ≠ .defer c := by
  cases h with
  | quiet av hq hd =>
    obtain ⟨v, h1, h2⟩ := hq.run (s.free A ρ) ρ w a.eval (fun x hx b hb => hR.look hb)
    exact no_defer h1 (fun d h => by cases h)
  | fresh av hq hd =>
    obtain ⟨v, W', h1, h2, hb⟩ := hq.run (s.free A ρ) ρ w a.eval (fun x hx b hb => hR.look hb)
    exact no_defer h1 (fun d h => by cases h)
  | load ty x k off cs av ho => intro c hc; rw [ho] at hc; cases hc
  | store ty x y k off cs z i ho => intro c hc; rw [ho] at hc; cases hc
  | new cs d hdst hm hn hd =>
    intro c hc
    cases hn with
    | alloc ty i z cs ho => rw [ho] at hc; cases hc
    | box ty x z ho => rw [ho] at hc; cases hc
  | call f args r hc hp hd =>
    intro c hcc
    obtain ⟨⟨c', g, ho, _⟩, _⟩ := hc
    rw [ho] at hcc; cases hcc
theorem AStep.sound (h : AStep P s o s') (hR : Rel B A s ρ a w) (ok : s.Ok) : o.wp P a w (fun a' w' => ∃ ρ', Rel B A s' ρ' a' w') Q := by
  cases h with
  | quiet av hq hd =>
    obtain ⟨v, h1, h2⟩ := hq.run (s.free A ρ) ρ w a.eval (fun x hx b hb => hR.look hb)
    exact Oper.wp_value h1 ⟨ρ, hR.put hd h2⟩
  | fresh av hq hd =>
    obtain ⟨v, W', h1, h2, hb⟩ := hq.run (s.free A ρ) ρ w a.eval (fun x hx b hb => hR.look hb)
    refine Oper.wp_value h1 ⟨ρ, (hR.call hb).put hd (h2.map (fun b hb' hl => ⟨?_, rfl⟩) fun j hj => rfl)⟩
    rcases hb' with h | h
    · exact h
    · refine ⟨hR.up b (Nat.le_trans hR.below.size h), fun k cs hk e => ?_⟩
      have := hR.lt hk
      omega
  | load ty x k off cs av ho hx hm hv hd =>
    obtain ⟨vs, t, g1, g2, g3⟩ := hR.mm k cs hm
    obtain ⟨v, h1, h2⟩ := pick_sound hv g1 g2
    have hp : a.eval x = .pointer (some ⟨ρ k, off, none⟩) := hR.look hx
    refine Oper.wp_value (v := v) (w' := w) ?_ ⟨ρ, hR.put hd h2⟩
    simp only [execOp, ho, Instr.loadAt, hp, Instr.sureAddr, Sem.run_bind, Sem.run_pure, Result.andThen_ok, h1]
  | store ty x y k off cs z i ho hx hy hm hi hs hb hd =>
    obtain ⟨vs, t, g1, g2, g3⟩ := hR.mm k cs hm
    have hp : a.eval x = .pointer (some ⟨ρ k, off, none⟩) := hR.look hx
    have hz : RpW (s.free A ρ) ρ w z (a.eval y) := hR.look hy
    have hzc := hz.cells
    have hzl : (a.eval y).cells.size = z.cells.length := by have := hzc.1; simp at this; exact this.symm
    have hst : (storeVar ty ⟨ρ k, off, none⟩ (a.eval y)).run P w = .ok () (w.setRow (ρ k) (vs.take off ++ (a.eval y).cells.toList ++ vs.drop (off + (a.eval y).cells.toList.length)).toArray) := by
      unfold storeVar
      have hne : ¬ ((a.eval y).cells.size ≠ i.size) := by rw [hzl, hs]; simp
      simp only [Sem.run_bind, run_sizeOf' hi, Result.andThen_ok, if_neg hne]
      have hall : ∀ v ∈ (a.eval y).cells.toList, v.oneCell' = true := fun v hv => by
        obtain ⟨j, hj⟩ := List.getElem?_of_mem hv
        have hlt : j < z.cells.length := by rw [hzc.1]; exact (List.getElem?_eq_some_iff.1 hj).1
        exact (hzc.2 j _ v (List.getElem?_eq_getElem hlt) hj).cell
      have := run_storeCells_at (P := P) (ρ k) off t (a.eval y).cells.toList 0 vs.toArray w g1 (by have := g2.1; simp; omega) hall
      simpa using this
    have hrel := (Rel.set (k := k) (ds := splice cs off z.cells) (hR.put (dst := o.dst) hd (RpV.undef _)) (by rw [AS.mem_put]; exact hm) (by rw [AS.free_put]; exact g2.splice hzc off hb))
    unfold Oper.wp
    have hrun : (execOp a.eval o).run P w = .ok .skip (w.setRow (ρ k) (vs.take off ++ (a.eval y).cells.toList ++ vs.drop (off + (a.eval y).cells.toList.length)).toArray) := by
      simp only [execOp, ho, Instr.storeAt, hp, Instr.sureAddr, Sem.run_bind, Sem.run_pure, Result.andThen_ok, hst]
    rw [hrun]
    exact ⟨ρ, hrel⟩
  | new cs d hdst hm hn hd =>
    have main : ∀ (vs : List Value) (ty : TypeId), RpL (s.free A ρ) ρ w cs vs → (∀ x ∈ cs, ∀ j, x.owns j → ∃ cs', s.mem j = some cs') → (execOp a.eval o).run P w = .ok (.value (.pointer (some ⟨w.heap.size, 0, none⟩))) (w.alloc (.cells vs.toArray ty)) →
        o.wp P a w (fun a' w' => ∃ ρ', Rel B A ((s.setm d cs).put (some d) (.w (.one (.own d 0)))) ρ' a' w') Q := by
      intro vs ty hl hown hrun
      refine Oper.wp_value hrun ⟨fun k => if k = d then w.heap.size else ρ k, ?_⟩
      rw [hdst]
      refine (hR.new ok hd hm hl hown).put (fun d' e => by cases e; exact hd) ?_
      show Value.pointer _ = Value.pointer _
      simp
    cases hn with
    | alloc ty i z cs ho hi hz hc h1 =>
      subst hc
      refine main z.cells.toList ty ⟨by simp, fun j x v hx hv => ?_⟩ (fun x hx j hj => ?_) ?_
      · rw [List.getElem?_map, hv] at hx
        cases hx
        exact ⟨rfl, List.all_eq_true.1 h1 v (List.mem_of_getElem? hv)⟩
      · obtain ⟨v, _, rfl⟩ := List.mem_map.1 hx
        cases hj
      · have hzv : (zeroValue ty).run P w = .ok z w := by simp [zeroValue, typeInfo, program, Sem.run_bind, Sem.run, hi, Result.andThen, hz]
        simp only [execOp, ho, Instr.alloc, Sem.run_bind, hzv, Result.andThen_ok, newVar, newRow, newObj, Sem.run]
        rfl
    | box ty x z ho hx =>
      have hz : RpW (s.free A ρ) ρ w z (a.eval x) := hR.look hx
      refine main (a.eval x).cells.toList ty hz.cells (fun y hy j hj => ?_) ?_
      · cases x with
        | tmp t => exact ok.tm t _ j hx ⟨y, hy, hj⟩
        | const v =>
          simp only [AS.look] at hx
          split at hx
          · cases hx; simp [AW.cells] at hy; subst hy; cases hj
          · cases hx
        | global g => cases hx; simp [AW.cells] at hy; subst hy; cases hj
        | func g => cases hx; simp [AW.cells] at hy; subst hy; cases hj
      · simp only [execOp, ho, Instr.box, newVar, newRow, newObj, Sem.run_bind, Sem.run, Result.andThen_ok]
        rfl
  | call f args r hc hp hd =>
    obtain ⟨⟨c, g, ho, hcal, hh⟩, hent⟩ := hc
    have hlk : ∀ {y : Operand} {x : AV}, x ∈ args → s.look y = some x → RpV (s.free A ρ) id w x (a.eval y) := fun {y x} hx hy => Rel.id_of_closed (ρ := ρ) (hp.ca x hx) (hR.look hy)
    obtain ⟨us, hvs, hrun⟩ : ∃ us : List Value, RpVs (s.free A ρ) id w args us ∧ (execOp a.eval o).run P w = .ok (.enter f us.toArray) w := by
      rcases hh with ⟨bs, hg, hargs, hfl⟩ | ⟨cs, hg, hargs⟩
      · have hgv : a.eval g = .func (.func f) bs.toArray #[] := (hR.look hg).1
        refine ⟨bs ++ c.args.toList.map a.eval, ?_, ?_⟩
        · refine ⟨by have := congrArg List.length hargs; simpa using this.symm, fun i x v hx hv => ?_⟩
          have h1 : (bs.map (fun b => some (ofV b)) ++ c.args.toList.map s.look)[i]? = some (some x) := by rw [hargs, List.getElem?_map, hx]; rfl
          rcases Nat.lt_or_ge i bs.length with hlt | hge
          · rw [List.getElem?_append_left (by simpa using hlt), List.getElem?_map] at h1
            rw [List.getElem?_append_left hlt] at hv
            rw [hv] at h1
            simp only [Option.map_some, Option.some.injEq] at h1
            subst h1
            exact rpV_ofV (List.all_eq_true.1 hfl v (List.mem_of_getElem? hv))
          · rw [List.getElem?_append_right (by simpa using hge), List.getElem?_map] at h1
            rw [List.getElem?_append_right hge, List.getElem?_map] at hv
            simp only [List.length_map] at h1
            cases hy : c.args.toList[i - bs.length]? with
            | none => rw [hy] at hv; cases hv
            | some y =>
              rw [hy] at h1 hv
              simp only [Option.map_some, Option.some.injEq] at h1 hv
              subst hv
              exact hlk (List.mem_of_getElem? hx) h1
        · have e : bs.toArray ++ c.args.map a.eval ++ #[] = (bs ++ c.args.toList.map a.eval).toArray := by
            rw [Array.append_empty]
            apply Array.ext'
            simp
          simp only [execOp, ho, resolve, hcal, Deferred.ofValue, hgv]
          simp only [Sem.run_bind, Sem.run_pure, Result.andThen_ok, invoke]
          rw [e]
          exact enters_run hent
      · obtain ⟨vs, hgv, hcl⟩ := FunP.caps (ρ := ρ) (hR.look hg)
        refine ⟨c.args.toList.map a.eval ++ vs, ?_, ?_⟩
        · refine ⟨by have := congrArg List.length hargs; have h2 := hcl.1; simp at this ⊢; omega, fun i x v hx hv => ?_⟩
          have h1 : (c.args.toList.map s.look ++ cs.map (fun x => some (.w (.one x))))[i]? = some (some x) := by rw [hargs, List.getElem?_map, hx]; rfl
          rcases Nat.lt_or_ge i c.args.toList.length with hlt | hge
          · rw [List.getElem?_append_left (by simpa using hlt), List.getElem?_map] at h1
            rw [List.getElem?_append_left (by simpa using hlt), List.getElem?_map] at hv
            cases hy : c.args.toList[i]? with
            | none => rw [hy] at hv; cases hv
            | some y =>
              rw [hy] at h1 hv
              simp only [Option.map_some, Option.some.injEq] at h1 hv
              subst hv
              exact hlk (List.mem_of_getElem? hx) h1
          · rw [List.getElem?_append_right (by simpa using hge), List.getElem?_map] at h1
            rw [List.getElem?_append_right (by simpa using hge)] at hv
            simp only [List.length_map] at h1 hv
            cases hy : cs[i - c.args.toList.length]? with
            | none => rw [hy] at h1; cases h1
            | some y =>
              rw [hy] at h1
              simp only [Option.map_some, Option.some.injEq] at h1
              subst h1
              exact hcl.2 _ y v hy hv
        · have e : (#[] : Array Value) ++ c.args.map a.eval ++ vs.toArray = (c.args.toList.map a.eval ++ vs).toArray := by
            apply Array.ext'
            simp
          simp only [execOp, ho, resolve, hcal, Deferred.ofValue, hgv]
          simp only [Sem.run_bind, Sem.run_pure, Result.andThen_ok, invoke]
          rw [e]
          exact enters_run hent
    unfold Oper.wp
    rw [hrun]
    refine (hp.call (s.free A ρ) w _ hvs).mono ?_
    rintro e w' ⟨v, rfl, hv, hb⟩
    refine ⟨ρ, (hR.call hb).put hd (hv.map (fun b hb' hl => ⟨?_, rfl⟩) fun j hj => absurd hj (hp.cr j))⟩
    rcases hb' with h | h
    · exact h
    · refine ⟨hR.up b (Nat.le_trans hR.below.size h), fun k cs hk e => ?_⟩
      have := hR.lt hk
      omega
end
def undefAV : AV := .tup []
/-- is the operation carried out? -/
def want (ops : Array Oper) (o : Oper) (s : AS) : Option Bool :=
  match o.guard with
  | none => some true
  | some (g, b) =>
    match (ops[g]?).bind (·.dst) with
    | some d => match s.tmps d with
      | some (.w (.one (.c (.bool x)))) => some (some x == some b)
      | some (.tup _) => some false
      | _ => none
    | none => none
def memKind (o : Oper) : Nat :=
  match o.op with
  | .load .. => 1
  | .store .. => 2
  | _ => 0
def memApart (x y : Oper) : Bool := !(memKind x == 2 && memKind y != 0) && !(memKind x != 0 && memKind y == 2)
def addrOf (o : Oper) : Option Operand :=
  match o.op with
  | .load _ x => some x
  | .store _ x _ => some x
  | _ => none
/-- two addresses that have no cell in common: into two blocks of the frame's own, or one of them into such a block, the other one into what is told. -/
def apartV : AV → AV → Bool
  | .w (.one (.own k _)), .w (.one (.own j _)) => !Nat.beq k j
  | .w (.one (.own _ _)), .w (.one (.p _)) => true
  | .w (.one (.p _)), .w (.one (.own _ _)) => true
  | _, _ => false
theorem apartV_own {k j o p : Nat} (h : apartV (.w (.one (.own k o))) (.w (.one (.own j p))) = true) : k ≠ j := fun e => by
  subst e
  simp [apartV, Nat.beq_refl] at h
/-- two operations do not meet in memory. -/
def MemSep (s : AS) (x y : Oper) : Prop := memApart x y = true ∨ ∃ a b u v, addrOf x = some a ∧ addrOf y = some b ∧ s.look a = some u ∧ s.look b = some v ∧ apartV u v = true
section
variable {P : Program} {B : Base} {A : Nat → Prop} {s s1 s2 s' : AS} {ρ : Nat → Nat} {a : Act} {w : World} {o oi oj : Oper} {ops : Array Oper}
theorem look_put {x : Operand} {dst : Option Nat} {v : AV} (h : ∀ d, dst = some d → x ≠ .tmp d) : (s.put dst v).look x = s.look x := by
  cases dst with
  | none => rfl
  | some d =>
    cases x with
    | tmp t => simp only [AS.look, AS.put]; exact upd_ne _ _ (fun e => h d rfl (by rw [e]))
    | _ => rfl
theorem look_setm {x : Operand} {k : Nat} {cs : List AC} : (s.setm k cs).look x = s.look x := by cases x <;> rfl
theorem QuietOK.congr {look look' : Operand → Option AV} {av : AV} (h : QuietOK P look o av) (e : ∀ x ∈ o.op.operands, look' x = look x) : QuietOK P look' o av :=
  ⟨h.sel, fun x hx => by rw [e x hx]; exact h.ops x hx, fun U ρ W env he => h.run U ρ W env fun x hx a ha => he x hx a (by rw [e x hx]; exact ha), fun j hj => by
    obtain ⟨x, hx, a, ha, hao⟩ := h.own j hj
    exact ⟨x, hx, a, by rw [e x hx]; exact ha, hao⟩⟩
theorem FreshOK.congr {look look' : Operand → Option AV} {av : AV} (h : FreshOK P look o av) (e : ∀ x ∈ o.op.operands, look' x = look x) : FreshOK P look' o av :=
  ⟨fun x hx => by rw [e x hx]; exact h.ops x hx, h.cl, fun U ρ W env he => h.run U ρ W env fun x hx a ha => he x hx a (by rw [e x hx]; exact ha)⟩
theorem NewOK.congr {look look' : Operand → Option AV} {cs : List AC} (h : NewOK P look o cs) (e : ∀ x ∈ o.op.operands, look' x = look x) : NewOK P look' o cs := by
  cases h with
  | alloc ty i z cs ho hi hz hc h1 => exact .alloc ty i z cs ho hi hz hc h1
  | box ty x z ho hx => exact .box ty x z ho (by rw [e x (by simp [ho, Op.operands])]; exact hx)
theorem CallOK.congr {look look' : Operand → Option AV} {f : FuncId} {args : List AV} (h : CallOK P look o f args) (e : ∀ x ∈ o.op.operands, look' x = look x) : CallOK P look' o f args := by
  obtain ⟨⟨c, g, ho, hc, hh⟩, he⟩ := h
  have eg : look' g = look g := e g (by simp [ho, Op.operands, Call.operands, hc])
  have ea : c.args.toList.map look' = c.args.toList.map look := List.map_congr_left fun x hx => e x (by simp [ho, Op.operands, Call.operands, hc]; exact .inr (by simpa using hx))
  refine ⟨⟨c, g, ho, hc, ?_⟩, he⟩
  rcases hh with ⟨bs, hg, ha, hb⟩ | ⟨cs, hg, ha⟩
  · exact .inl ⟨bs, by rw [eg]; exact hg, by rw [ea]; exact ha, hb⟩
  · exact .inr ⟨cs, by rw [eg]; exact hg, by rw [ea]; exact ha⟩
/-- a step from a state that holds, where it is looked at, the same. -/
theorem AS.put_comm (s : AS) {x y : Option Nat} (v u : AV) (h : ∀ d, x = some d → y ≠ some d) : (s.put x v).put y u = (s.put y u).put x v := by
  cases x with
  | none => rfl
  | some d =>
    cases y with
    | none => rfl
    | some e =>
      have hne : e ≠ d := fun he => h d rfl (by rw [he])
      simp only [AS.put]
      rw [upd_comm _ _ _ hne]
theorem AS.put_setm (s : AS) (x : Option Nat) (v : AV) (k : Nat) (cs : List AC) : (s.put x v).setm k cs = (s.setm k cs).put x v := by cases x <;> rfl
theorem AS.setm_comm (s : AS) {k j : Nat} (cs ds : List AC) (h : j ≠ k) : (s.setm k cs).setm j ds = (s.setm j ds).setm k cs := by
  simp only [AS.setm]
  rw [upd_comm _ _ _ h]
/-- what a step puts, and what it turns in memory. -/
structure Eff where
  v : AV
  m : Option (Nat × List AC)
def Eff.on (e : Eff) (dst : Option Nat) (s : AS) : AS :=
  match e.m with
  | some (k, cs) => (s.setm k cs).put dst e.v
  | none => s.put dst e.v
inductive AEff (P : Program) (n : Nat) (look : Operand → Option AV) (mem : Nat → Option (List AC)) (o : Oper) : Bool → Eff → Prop
  | skip : AEff P n look mem o false ⟨.tup [], none⟩
  | quiet (av : AV) (hq : QuietOK P look o av) : AEff P n look mem o true ⟨av, none⟩
  | fresh (av : AV) (hq : FreshOK P look o av) : AEff P n look mem o true ⟨av, none⟩
  | load (ty : TypeId) (x : Operand) (k off : Nat) (cs : List AC) (av : AW) (ho : o.op = .load ty x) (hx : look x = some (.w (.one (.own k off)))) (hm : mem k = some cs) (hv : pick P ty cs off = some av) : AEff P n look mem o true ⟨.w av, none⟩
  | store (ty : TypeId) (x y : Operand) (k off : Nat) (cs : List AC) (z : AW) (i : TypeInfo) (ho : o.op = .store ty x y) (hx : look x = some (.w (.one (.own k off)))) (hy : look y = some (.w z)) (hm : mem k = some cs) (hi : P.info? ty = some i) (hs : i.size = z.cells.length) (hb : off + z.cells.length ≤ cs.length) : AEff P n look mem o true ⟨.tup [], some (k, splice cs off z.cells)⟩
  | new (cs : List AC) (d : Nat) (hdst : o.dst = some d) (hm : mem d = none) (hn : NewOK P look o cs) : AEff P n look mem o true ⟨.w (.one (.own d 0)), some (d, cs)⟩
  | call (f : FuncId) (args : List AV) (r : AV) (hc : CallOK P look o f args) (hp : PCall P f args r) : AEff P n look mem o true ⟨r, none⟩
theorem AEff.step {e : Eff} (h : AEff P s.n s.look s.mem o true e) (hd : ∀ d, o.dst = some d → d < s.n) : AStep P s o (e.on o.dst s) := by
  cases h with
  | quiet av hq => exact .quiet av hq hd
  | fresh av hq => exact .fresh av hq hd
  | load ty x k off cs av ho hx hm hv => exact .load ty x k off cs av ho hx hm hv hd
  | store ty x y k off cs z i ho hx hy hm hi hs hb =>
    have := AStep.store (P := P) (s := s) ty x y k off cs z i ho hx hy hm hi hs hb hd
    rw [AS.put_setm] at this
    exact this
  | new cs d hdst hm hn =>
    have := AStep.new (P := P) (s := s) cs d hdst hm hn (hd d hdst)
    rw [← hdst] at this
    exact this
  | call f args r hc hp => exact .call f args r hc hp hd
theorem Eff.on_mem (e : Eff) (dst : Option Nat) (s : AS) : (e.on dst s).mem = match e.m with | some (k, cs) => upd s.mem k cs | none => s.mem := by
  unfold Eff.on
  split
  · rename_i h; rw [AS.mem_put]; simp [AS.setm]
  · rename_i h; rw [AS.mem_put]
theorem Eff.on_look (e : Eff) (dst : Option Nat) (s : AS) {x : Operand} (h : ∀ d, dst = some d → x ≠ .tmp d) : (e.on dst s).look x = s.look x := by
  unfold Eff.on
  split
  · rw [look_put h, look_setm]
  · rw [look_put h]
theorem Eff.on_n (e : Eff) (dst : Option Nat) (s : AS) : (e.on dst s).n = s.n := by
  unfold Eff.on
  split
  · rw [AS.n_put]; rfl
  · rw [AS.n_put]
theorem Eff.on_comm (e f : Eff) (x y : Option Nat) (s : AS) (h : ∀ d, x = some d → y ≠ some d) (hk : ∀ k cs j ds, e.m = some (k, cs) → f.m = some (j, ds) → j ≠ k) : f.on y (e.on x s) = e.on x (f.on y s) := by
  unfold Eff.on
  cases he : e.m with
  | none =>
    cases hf : f.m with
    | none => simp only [he, hf]; exact AS.put_comm s _ _ h
    | some q => obtain ⟨j, ds⟩ := q; simp only [he, hf]; rw [AS.put_setm]; exact AS.put_comm _ _ _ h
  | some p =>
    obtain ⟨k, cs⟩ := p
    cases hf : f.m with
    | none => simp only [he, hf]; rw [AS.put_setm]; exact AS.put_comm _ _ _ h
    | some q =>
      obtain ⟨j, ds⟩ := q
      simp only [he, hf]
      rw [AS.put_setm, AS.put_setm, AS.setm_comm s _ _ (hk k cs j ds he hf)]
      exact AS.put_comm _ _ _ h
theorem looks_op {x : Operand} {d : Nat} {y : Oper} (h : d ∉ y.looksAt ops) (hx : x ∈ y.op.operands) : x ≠ .tmp d := fun e => h (by
  subst e
  exact List.mem_append_left _ (List.mem_filterMap.2 ⟨.tmp d, by simpa using hx, rfl⟩))
/-- the diamond. -/
theorem AEff.swap {b c : Bool} {e f : Eff} (ok : s.Ok) (he : AEff P s.n s.look s.mem oi b e) (hf : AEff P (e.on oi.dst s).n (e.on oi.dst s).look (e.on oi.dst s).mem oj c f) (hap : oi.apart ops oj = true) (hma : MemSep s oi oj) :
    AEff P s.n s.look s.mem oj c f ∧ AEff P (f.on oj.dst s).n (f.on oj.dst s).look (f.on oj.dst s).mem oi b e ∧ f.on oj.dst (e.on oi.dst s) = e.on oi.dst (f.on oj.dst s) := by
  obtain ⟨a1, a2, a3⟩ := Oper.apart_spec hap
  have lj : ∀ x ∈ oj.op.operands, (e.on oi.dst s).look x = s.look x := fun x hx => Eff.on_look _ _ _ fun d hd => looks_op (a1 d hd) hx
  have mem1 := Eff.on_mem e oi.dst s
  -- a block that is pointed to by an operand of s is none that oi makes
  have hkeep : ∀ k cs, e.m = some (k, cs) → (∃ cs', s.mem k = some cs') ∨ s.mem k = none := fun k cs _ => by
    cases h : s.mem k with
    | none => exact .inr rfl
    | some c => exact .inl ⟨c, rfl⟩
  have own_mem : ∀ x k off, s.look x = some (.w (.one (.own k off))) → ∃ cs, s.mem k = some cs := fun x k off hx => by
    cases x with
    | tmp t => exact ok.tm t _ k hx ⟨.own k off, by simp [AW.cells], rfl⟩
    | const v => simp only [AS.look] at hx; split at hx <;> cases hx
    | global g => cases hx
    | func g => cases hx
  -- where oi is neither a store nor (oj a store and oi a load): memory that oj reads is the same
  have mj : ∀ x k off, addrOf oj = some x → memKind oj ≠ 0 → s.look x = some (.w (.one (.own k off))) → (e.on oi.dst s).mem k = s.mem k := by
    intro x k off hadr hkind hx
    rw [mem1]
    cases he with
    | skip => rfl
    | quiet av hq => rfl
    | fresh av hq => rfl
    | load => rfl
    | call => rfl
    | store ty x' y' k' off' cs z i ho hx' hy hm hi hs hb =>
      rcases hma with hma | ⟨a, b, q, p, ha, hb', ea, eb, hne⟩
      · exfalso
        have : memKind oi = 2 := by simp [memKind, ho]
        simp [memApart, this, hkind] at hma
      · simp only [addrOf, ho, Option.some.injEq] at ha
        subst ha
        rw [hx'] at ea
        cases ea
        rw [hadr] at hb'
        cases hb'
        rw [hx] at eb
        cases eb
        show upd s.mem k' _ k = s.mem k
        exact upd_ne _ _ (Ne.symm (apartV_own hne))
    | new cs d hdst hm hn =>
      obtain ⟨c, hc⟩ := own_mem x k off hx
      show upd s.mem d cs k = s.mem k
      exact upd_ne _ _ (fun e => by subst e; rw [hm] at hc; cases hc)
  have hf' : AEff P s.n s.look s.mem oj c f := by
    cases hf with
    | skip => exact .skip
    | quiet av hq => exact .quiet av (hq.congr fun x hx => (lj x hx).symm)
    | fresh av hq => exact .fresh av (hq.congr fun x hx => (lj x hx).symm)
    | load ty x k off cs av ho hx hm hv =>
      have hx' : s.look x = some (.w (.one (.own k off))) := by rw [← lj x (by simp [ho, Op.operands])]; exact hx
      exact .load ty x k off cs av ho hx' (by rw [← mj x k off (by simp [addrOf, ho]) (by simp [memKind, ho]) hx']; exact hm) hv
    | store ty x y k off cs z i ho hx hy hm hi hs hb =>
      have hx' : s.look x = some (.w (.one (.own k off))) := by rw [← lj x (by simp [ho, Op.operands])]; exact hx
      exact .store ty x y k off cs z i ho hx' (by rw [← lj y (by simp [ho, Op.operands])]; exact hy) (by rw [← mj x k off (by simp [addrOf, ho]) (by simp [memKind, ho]) hx']; exact hm) hi hs hb
    | new cs d hdst hm hn =>
      refine .new cs d hdst ?_ (hn.congr fun x hx => (lj x hx).symm)
      rw [mem1] at hm
      cases hem : e.m with
      | none => rw [hem] at hm; exact hm
      | some p =>
        obtain ⟨k, c⟩ := p
        rw [hem] at hm
        by_cases ek : d = k
        · subst ek
          change upd s.mem d c d = none at hm
          rw [upd_same] at hm
          cases hm
        · change upd s.mem k c d = none at hm
          rwa [upd_ne _ _ ek] at hm
    | call g args r hc hp => exact .call g args r (hc.congr fun x hx => (lj x hx).symm) hp
  have li : ∀ x ∈ oi.op.operands, (f.on oj.dst s).look x = s.look x := fun x hx => Eff.on_look _ _ _ fun d hd => looks_op (a3 d hd) hx
  have mem2 := Eff.on_mem f oj.dst s
  have he' : AEff P (f.on oj.dst s).n (f.on oj.dst s).look (f.on oj.dst s).mem oi b e := by
    have mi : ∀ x k off, addrOf oi = some x → memKind oi ≠ 0 → s.look x = some (.w (.one (.own k off))) → (f.on oj.dst s).mem k = s.mem k := by
      intro x k off hadr hkind hx
      rw [mem2]
      cases hf' with
      | skip => rfl
      | quiet av hq => rfl
      | fresh av hq => rfl
      | load => rfl
      | call => rfl
      | store ty x' y' k' off' cs z i ho hx' hy hm hi hs hb =>
        rcases hma with hma | ⟨a, b, q, p, ha, hb', ea, eb, hne⟩
        · exfalso
          have : memKind oj = 2 := by simp [memKind, ho]
          simp [memApart, this, hkind] at hma
        · simp only [addrOf, ho, Option.some.injEq] at hb'
          subst hb'
          rw [hx'] at eb
          cases eb
          rw [hadr] at ha
          cases ha
          rw [hx] at ea
          cases ea
          show upd s.mem k' _ k = s.mem k
          exact upd_ne _ _ (apartV_own hne)
      | new cs d hdst hm hn =>
        obtain ⟨c, hc⟩ := own_mem x k off hx
        show upd s.mem d cs k = s.mem k
        exact upd_ne _ _ (fun e => by subst e; rw [hm] at hc; cases hc)
    cases he with
    | skip => exact .skip
    | quiet av hq => exact .quiet av (hq.congr fun x hx => li x hx)
    | fresh av hq => exact .fresh av (hq.congr fun x hx => li x hx)
    | load ty x k off cs av ho hx hm hv => exact .load ty x k off cs av ho (by rw [li x (by simp [ho, Op.operands])]; exact hx) (by rw [mi x k off (by simp [addrOf, ho]) (by simp [memKind, ho]) hx]; exact hm) hv
    | store ty x y k off cs z i ho hx hy hm hi hs hb => exact .store ty x y k off cs z i ho (by rw [li x (by simp [ho, Op.operands])]; exact hx) (by rw [li y (by simp [ho, Op.operands])]; exact hy) (by rw [mi x k off (by simp [addrOf, ho]) (by simp [memKind, ho]) hx]; exact hm) hi hs hb
    | new cs d hdst hm hn =>
      refine .new cs d hdst ?_ (hn.congr fun x hx => li x hx)
      rw [mem2]
      cases hf' with
      | skip => exact hm
      | quiet av hq => exact hm
      | fresh av hq => exact hm
      | load => exact hm
      | call => exact hm
      | store ty x' y' k' off' cs' z i ho hx' hy hm' hi hs hb =>
        show upd s.mem k' _ d = none
        rw [upd_ne _ _ (fun e => by subst e; rw [hm] at hm'; cases hm')]
        exact hm
      | new cs' d' hdst' hm' hn' =>
        show upd s.mem d' _ d = none
        rw [upd_ne _ _ (fun e => a2 d hdst (by rw [hdst', e]))]
        exact hm
    | call g args r hc hp => exact .call g args r (hc.congr fun x hx => li x hx) hp
  refine ⟨hf', he', Eff.on_comm e f oi.dst oj.dst s a2 ?_⟩
  intro k cs j ds h1 h2 ejk
  subst ejk
  cases he with
  | skip => cases h1
  | quiet => cases h1
  | fresh => cases h1
  | load => cases h1
  | call => cases h1
  | store ty x y k' off cs' z i ho hx hy hm hi hs hb =>
    cases h1
    cases hf' with
    | skip => cases h2
    | quiet => cases h2
    | fresh => cases h2
    | load => cases h2
    | call => cases h2
    | store ty2 x2 y2 k2 off2 cs2 z2 i2 ho2 hx2 =>
      cases h2
      rcases hma with hma | ⟨a, b, q, p, ha, hb', ea, eb, hne⟩
      · simp [memApart, memKind, ho, ho2] at hma
      · simp only [addrOf, ho, ho2, Option.some.injEq] at ha hb'
        subst ha
        subst hb'
        rw [hx] at ea
        rw [hx2] at eb
        cases ea
        cases eb
        exact apartV_own hne rfl
    | new cs2 d2 hdst2 hm2 hn2 => cases h2; rw [hm2] at hm; cases hm
  | new cs' d hdst hm hn =>
    cases h1
    cases hf' with
    | skip => cases h2
    | quiet => cases h2
    | fresh => cases h2
    | load => cases h2
    | call => cases h2
    | store ty2 x2 y2 k2 off2 cs2 z2 i2 ho2 hx2 hy2 hm2 => cases h2; rw [hm2] at hm; cases hm
    | new cs2 d2 hdst2 hm2 hn2 => cases h2; exact a2 _ hdst hdst2
end
section
variable {P : Program} {B : Base} {A : Nat → Prop} {s s1 s2 s' : AS} {ρ : Nat → Nat} {a : Act} {w : World} {o oi oj : Oper} {ops : Array Oper} {md : Region.Mode}
theorem look_ok {x : Operand} {av : AV} {j : Nat} (ok : s.Ok) (hx : s.look x = some av) (hj : av.owns j) : ∃ cs, s.mem j = some cs := by
  have none : ∀ v, ¬ (AV.w (.one (.c v))).owns j := fun v ⟨y, hy, h⟩ => by simp [AW.cells] at hy; subst hy; cases h
  cases x with
  | tmp t => exact ok.tm t av j hx hj
  | const v =>
    simp only [AS.look] at hx
    split at hx
    · cases hx; exact absurd hj (none _)
    · cases hx
  | global g => cases hx; exact absurd hj (none _)
  | func g => cases hx; exact absurd hj (none _)
theorem AS.Ok.put {dst : Option Nat} {av : AV} (ok : s.Ok) (h : ∀ j, av.owns j → ∃ cs, s.mem j = some cs) : (s.put dst av).Ok := by
  cases dst with
  | none => exact ok
  | some d =>
    refine ⟨fun t bv j ht hj => ?_, ok.mm⟩
    simp only [AS.put] at ht ⊢
    by_cases e : t = d
    · subst e; rw [upd_same] at ht; cases ht; exact h j hj
    · rw [upd_ne _ _ e] at ht; exact ok.tm t bv j ht hj
theorem AS.Ok.setm {k : Nat} {cs : List AC} (ok : s.Ok) (h : ∀ x ∈ cs, ∀ j, x.owns j → ∃ cs', s.mem j = some cs') : (s.setm k cs).Ok := by
  have up : ∀ j, (∃ c, s.mem j = some c) → ∃ c, (s.setm k cs).mem j = some c := fun j ⟨c, hc⟩ => by
    by_cases e : j = k
    · exact ⟨cs, by rw [e]; exact upd_same _ _ _⟩
    · exact ⟨c, by simp only [AS.setm]; rw [upd_ne _ _ e]; exact hc⟩
  refine ⟨fun t bv j ht hj => up j (ok.tm t bv j ht hj), fun k' c x j hk hx hj => up j ?_⟩
  simp only [AS.setm] at hk
  by_cases e : k' = k
  · subst e; rw [upd_same] at hk; cases hk; exact h x hx j hj
  · rw [upd_ne _ _ e] at hk; exact ok.mm k' c x j hk hx hj
theorem pick_mem {ty : TypeId} {cs : List AC} {off : Nat} {av : AW} (h : pick P ty cs off = some av) : ∀ x ∈ av.cells, x ∈ cs := by
  unfold pick at h
  split at h
  · cases hi : P.info? ty with
    | none => rw [hi] at h; cases h
    | some i =>
      rw [hi] at h
      simp only [Option.bind_some] at h
      split at h
      · cases h; exact fun x hx => List.mem_of_mem_drop (List.mem_of_mem_take hx)
      · cases h
  · cases hi : P.info? ty with
    | none => rw [hi] at h; cases h
    | some i =>
      rw [hi] at h
      simp only [Option.bind_some] at h
      split at h
      · cases h; exact fun x hx => List.mem_of_mem_drop (List.mem_of_mem_take hx)
      · cases h
  · cases hx : cs[off]? with
    | none => rw [hx] at h; cases h
    | some y => rw [hx] at h; cases h; intro x hx'; simp [AW.cells] at hx'; subst hx'; exact List.mem_of_getElem? hx
  · cases h
theorem AStep.ok (h : AStep P s o s') (ok : s.Ok) : s'.Ok := by
  cases h with
  | quiet av hq hd =>
    refine ok.put fun j hj => ?_
    obtain ⟨x, hx, b, hb, hbj⟩ := hq.own j hj
    exact look_ok ok hb hbj
  | fresh av hq hd => exact ok.put fun j hj => absurd hj (hq.cl j)
  | load ty x k off cs av ho hx hm hv hd =>
    refine ok.put fun j hj => ?_
    obtain ⟨y, hy, hyj⟩ := hj
    exact ok.mm k cs y j hm (pick_mem hv y hy) hyj
  | store ty x y k off cs z i ho hx hy hm hi hs hb hd =>
    rw [AS.put_setm]
    refine AS.Ok.put (ok.setm fun x hx j hj => ?_) fun j hj => (by obtain ⟨y, hy, _⟩ := hj; cases hy)
    unfold splice at hx
    simp only [List.mem_append] at hx
    rcases hx with (h1 | h1) | h1
    · exact ok.mm k cs x j hm (List.mem_of_mem_take h1) hj
    · exact look_ok ok hy ⟨x, h1, hj⟩
    · exact ok.mm k cs x j hm (List.mem_of_mem_drop h1) hj
  | new cs d hdst hm hn hd =>
    refine AS.Ok.put (ok.setm fun x hx j hj => ?_) fun j hj => ?_
    · cases hn with
      | alloc ty i z cs ho hi hz hc h1 => subst hc; obtain ⟨v, _, rfl⟩ := List.mem_map.1 hx; cases hj
      | box ty y z ho hy => exact look_ok ok hy ⟨x, hx, hj⟩
    · obtain ⟨y, hy, hyj⟩ := hj
      simp [AW.cells] at hy
      subst hy
      cases hyj
      exact ⟨cs, upd_same _ _ _⟩
  | call f args r hc hp hd => exact ok.put fun j hj => absurd hj (hp.cr j)
/-- one operation comes up, or is passed by. -/
def aOp (P : Program) (ops : Array Oper) (o : Oper) (K : AS → Prop) (s : AS) : Prop :=
  ∃ b, want ops o s = some b ∧ ∃ e, AEff P s.n s.look s.mem o b e ∧ (∀ d, o.dst = some d → d < s.n) ∧ K (e.on o.dst s)
def aAny (P : Program) (md : Region.Mode) (ops : Array Oper) (K : AS → Prop) : Nat → Array Bool → AS → Prop
  | 0, listed, s => Region.ready md ops listed = [] ∧ K s
  | fuel + 1, listed, s => (Region.ready md ops listed = [] → K s) ∧
    ∀ i ∈ Region.ready md ops listed, ∀ o, ops[i]? = some o → aOp P ops o (aAny P md ops K fuel (listed.setIfInBounds i true)) s
theorem want_sound {b : Bool} (h : want ops o s = some b) (hR : Rel B A s ρ a w) : Region.wanted o (yielded ops a.tmps) = b := by
  unfold want at h
  unfold Region.wanted
  split at h
  · rename_i hg; rw [hg]; cases h; rfl
  · rename_i g b' hg
    rw [hg]
    split at h
    · rename_i d hd
      split at h
      · rename_i x hx
        cases h
        obtain ⟨v, h1, h2⟩ := hR.tm d _ hx
        obtain ⟨rfl, _⟩ := h2
        simp [yielded, hd, h1]
      · rename_i xs hx
        cases h
        obtain ⟨v, h1, h2⟩ := hR.tm d _ hx
        obtain ⟨vs, rfl, _⟩ := h2
        simp [yielded, hd, h1]
      · cases h
    · cases h
theorem eff_ok {b : Bool} {e : Eff} (ok : s.Ok) (he : AEff P s.n s.look s.mem o b e) (hd : ∀ d, o.dst = some d → d < s.n) : (e.on o.dst s).Ok := by
  cases b with
  | true => exact (he.step hd).ok ok
  | false => cases he; exact ok.put fun j hj => (by obtain ⟨y, hy, _⟩ := hj; cases hy)
theorem aOp_sound {ro : Option Nat} {K : AS → Prop} {K' : Act → World → Prop} {Q : Exit → Act → World → Prop} {i : Nat} (hi : ops[i]? = some o) (ok : s.Ok) (hR : Rel B A s ρ a w) (h : aOp P ops o K s)
    (hK : ∀ s' ρ' a' w', s'.Ok → Rel B A s' ρ' a' w' → K s' → K' a' w') : wpOpIn (Wd ro) 0 P ops Q i K' a w := by
  obtain ⟨b, hw, e, he, hd, hk⟩ := h
  have hw' := want_sound hw hR
  unfold wpOpIn
  simp only [hi]
  cases b with
  | true =>
    rw [hw']
    simp only [if_true]
    have ok' := (he.step hd).ok ok
    exact Oper.wpIn_wd (Oper.wp_mono (fun a' w' ⟨ρ', hr⟩ => hK _ ρ' a' w' ok' hr hk) (AStep.sound (he.step hd) hR ok)) ((he.step hd).nodefer hR)
  | false =>
    rw [hw']
    simp only [Bool.false_eq_true, if_false]
    cases he
    exact ⟨fun _ _ => trivial, hK _ ρ _ _ (ok.put fun j hj => (by obtain ⟨y, hy, _⟩ := hj; cases hy)) (hR.put hd (RpV.undef _)) hk⟩
theorem aAny_sound {ro : Option Nat} {K : AS → Prop} {Q : Exit → Act → World → Prop} (hQ : ∀ s' ρ' a' w', s'.Ok → Rel B A s' ρ' a' w' → K s' → Q .normal a' w') : ∀ (fuel : Nat) (listed : Array Bool) (s : AS) (ρ : Nat → Nat) (a : Act) (w : World), s.Ok → Rel B A s ρ a w →
    aAny P md ops K fuel listed s → wpAnyIn (Wd ro) 0 P md ops Q fuel listed a w
  | 0, _, _, _, _, _, ok, hR, h => ⟨h.1, hQ _ _ _ _ ok hR h.2⟩
  | fuel + 1, listed, s, ρ, a, w, ok, hR, h => ⟨fun h0 => hQ _ _ _ _ ok hR (h.1 h0), fun i hi => by
      obtain ⟨h0, o, ho, _⟩ := mem_ready.1 hi
      exact aOp_sound ho ok hR (h.2 i hi o ho) fun s' ρ' a' w' ok' hR' hk => aAny_sound hQ fuel _ s' ρ' a' w' ok' hR' hk⟩
theorem want_put {b : Option Bool} {e : Eff} {dst : Option Nat} (hl : ∀ d, dst = some d → d ∉ o.looksAt ops) : want ops o (e.on dst s) = want ops o s := by
  have ht : ∀ d, (∀ d', dst = some d' → d ≠ d') → (e.on dst s).tmps d = s.tmps d := fun d h => by
    have := Eff.on_look e dst s (x := .tmp d) (fun d' hd' e' => h d' hd' (by cases e'; rfl))
    exact this
  unfold want
  cases hg : o.guard with
  | none => rfl
  | some p =>
    obtain ⟨g, b'⟩ := p
    simp only
    cases hd : (ops[g]?).bind (·.dst) with
    | none => rfl
    | some d =>
      simp only
      rw [ht d (fun d' hd' e' => hl d' hd' (by
        subst e'
        unfold Oper.looksAt
        rw [hg]
        exact List.mem_append_right _ (by simp [hd])))]
theorem aOp_swap {b : Bool} {e : Eff} {K : AS → Prop} (ok : s.Ok) (hw : want ops oi s = some b) (he : AEff P s.n s.look s.mem oi b e) (hdi : ∀ d, oi.dst = some d → d < s.n) (hap : oi.apart ops oj = true) (hma : MemSep s oi oj) (h : aOp P ops oj K (e.on oi.dst s)) :
    aOp P ops oj (fun t => (want ops oi t = some b ∧ AEff P t.n t.look t.mem oi b e ∧ (∀ d, oi.dst = some d → d < t.n) ∧ t.Ok) ∧ K (e.on oi.dst t)) s := by
  obtain ⟨a1, a2, a3⟩ := Oper.apart_spec hap
  obtain ⟨c, hwj, f, hf, hdj, hk⟩ := h
  obtain ⟨h1, h2, h3⟩ := AEff.swap ok he hf hap hma
  rw [want_put (b := none) a1] at hwj
  have hdj' : ∀ d, oj.dst = some d → d < s.n := fun d hd => by have := hdj d hd; rwa [Eff.on_n] at this
  refine ⟨c, hwj, f, h1, hdj', ⟨?_, h2, fun d hd => by rw [Eff.on_n]; exact hdi d hd, eff_ok ok h1 hdj'⟩, by rw [← h3]; exact hk⟩
  rw [want_put (b := none) a3]
  exact hw
theorem aOp_mono {K K' : AS → Prop} (h : ∀ s, K s → K' s) (hh : aOp P ops o K s) : aOp P ops o K' s :=
  let ⟨b, h1, e, h2, h3, h4⟩ := hh
  ⟨b, h1, e, h2, h3, h _ h4⟩
/-- what stays so while other operations of the region come up. -/
def SepT (ops : Array Oper) (listed : Array Bool) (x y : Oper) (s : AS) : Prop :=
  memApart x y = true ∨ ∃ t u o p, addrOf x = some (.tmp t) ∧ addrOf y = some (.tmp u) ∧ s.tmps t = some o ∧ s.tmps u = some p ∧ apartV o p = true ∧
    ∀ i oi, ops[i]? = some oi → listed.getD i true = false → oi.dst ≠ some t ∧ oi.dst ≠ some u
theorem SepT.sep {listed : Array Bool} (h : SepT ops listed oi oj s) : MemSep s oi oj := by
  rcases h with h | ⟨t, u, o, p, h1, h2, h3, h4, h5, _⟩
  · exact .inl h
  · exact .inr ⟨_, _, o, p, h1, h2, h3, h4, h5⟩
theorem Eff.on_tmps {e : Eff} {dst : Option Nat} {t : Nat} (h : dst ≠ some t) : (e.on dst s).tmps t = s.tmps t := by
  have := Eff.on_look e dst s (x := .tmp t) (fun d hd e' => by cases e'; exact h hd)
  exact this
theorem SepT.on {listed : Array Bool} {f : Eff} {o : Oper} {i : Nat} (h : SepT ops listed oi oj s) (ho : ops[i]? = some o) (hun : listed.getD i true = false) : SepT ops (listed.setIfInBounds i true) oi oj (f.on o.dst s) := by
  rcases h with h | ⟨t, u, q, p, h1, h2, h3, h4, h5, h6⟩
  · exact .inl h
  · obtain ⟨n1, n2⟩ := h6 i o ho hun
    refine .inr ⟨t, u, q, p, h1, h2, by rw [Eff.on_tmps n1]; exact h3, by rw [Eff.on_tmps n2]; exact h4, h5, fun i' o' ho' hun' => h6 i' o' ho' ?_⟩
    by_cases e : i = i'
    · subst e; exact hun
    · rwa [getD_set_ne true e] at hun'
theorem aOp_swap2 {b : Bool} {e : Eff} {K : AS → Prop} (ok : s.Ok) (hw : want ops oi s = some b) (he : AEff P s.n s.look s.mem oi b e) (hdi : ∀ d, oi.dst = some d → d < s.n) (hap : oi.apart ops oj = true) (hma : MemSep s oi oj) (h : aOp P ops oj K (e.on oi.dst s)) :
    aOp P ops oj (fun t => (∃ f : Eff, t = f.on oj.dst s) ∧ (want ops oi t = some b ∧ AEff P t.n t.look t.mem oi b e ∧ (∀ d, oi.dst = some d → d < t.n) ∧ t.Ok) ∧ K (e.on oi.dst t)) s := by
  obtain ⟨c, h1, f, h2, h3, h4⟩ := aOp_swap ok hw he hdi hap hma h
  exact ⟨c, h1, f, h2, h3, ⟨f, rfl⟩, h4⟩
/-- j waits for i, in a few steps. -/
def waits (md : Region.Mode) (ops : Array Oper) : Nat → Nat → Nat → Bool
  | 0, _, _ => false
  | f + 1, j, i => match ops[j]? with
    | some o => o.after.any fun e => Region.binds md e && (e.on == i || waits md ops f e.on i)
    | none => false
def Down (md : Region.Mode) (ops : Array Oper) (listed : Array Bool) : Prop := ∀ k o, listed.getD k false = true → ops[k]? = some o → ∀ e ∈ o.after, Region.binds md e = true → listed.getD e.on false = true
theorem waits_listed {listed : Array Bool} (hd : Down md ops listed) : ∀ (f j i : Nat) (o : Oper), ops[j]? = some o → (∀ e ∈ o.after, Region.binds md e = true → listed.getD e.on false = true) → waits md ops f j i = true → listed.getD i false = true
  | 0, _, _, _, _, _, h => by cases h
  | f + 1, j, i, o, ho, hall, h => by
    simp only [waits, ho] at h
    obtain ⟨e, he, hb⟩ := Array.any_eq_true'.1 h
    simp only [Bool.and_eq_true, Bool.or_eq_true, beq_iff_eq] at hb
    obtain ⟨h1, h2⟩ := hb
    have hl := hall e he h1
    rcases h2 with h2 | h2
    · rw [← h2]; exact hl
    · cases ho' : ops[e.on]? with
      | none => cases f <;> simp [waits, ho'] at h2
      | some o' => exact waits_listed hd f e.on i o' ho' (fun e' he' hb' => hd e.on o' hl ho' e' he' hb') h2
theorem Down.set {listed : Array Bool} (hd : Down md ops listed) {j : Nat} (hj : j ∈ Region.ready md ops listed) : Down md ops (listed.setIfInBounds j true) := by
  intro k o hk ho e he hb
  obtain ⟨_, oj, hoj, hall⟩ := mem_ready.1 hj
  by_cases e' : j = k
  · subst e'
    rw [hoj] at ho
    cases ho
    exact getD_set_true (hall e he hb)
  · refine getD_set_true (hd k o ?_ ho e he hb)
    have : (listed.setIfInBounds j true).getD k false = listed.getD k false := by simp [Array.getElem?_setIfInBounds_ne e']
    rwa [this] at hk
theorem aAny_first {K : AS → Prop} {i : Nat} {b : Bool} {e : Eff} (hi : ops[i]? = some oi) : ∀ (fuel : Nat) (listed : Array Bool) (s : AS),
      (∀ j oj, ops[j]? = some oj → j ≠ i → listed.getD j true = false → (∀ e ∈ oj.after, Region.binds md e = true → e.on ≠ i) → waits md ops 4 j i = false → oi.apart ops oj = true ∧ SepT ops listed oi oj s) →
      Down md ops listed → i ∈ Region.ready md ops listed → s.Ok → want ops oi s = some b → AEff P s.n s.look s.mem oi b e → (∀ d, oi.dst = some d → d < s.n) →
      aAny P md ops K fuel (listed.setIfInBounds i true) (e.on oi.dst s) → aAny P md ops K (fuel + 1) listed s := by
  intro fuel
  induction fuel with
  | zero =>
    intro listed s _ hdn hr ok hw he hd H
    refine ⟨fun h => (by rw [h] at hr; cases hr), fun j hj oj hoj => ?_⟩
    by_cases hji : j = i
    · subst hji; rw [hi] at hoj; cases hoj; exact ⟨b, hw, e, he, hd, H⟩
    · have := ready_mono hj hji
      rw [H.1] at this
      cases this
  | succ fuel ih =>
    intro listed s hfree hdn hr ok hw he hd H
    refine ⟨fun h => (by rw [h] at hr; cases hr), fun j hj oj hoj => ?_⟩
    by_cases hji : j = i
    · subst hji; rw [hi] at hoj; cases hoj; exact ⟨b, hw, e, he, hd, H⟩
    · have h1 := H.2 j (ready_mono hj hji) oj hoj
      obtain ⟨hjun, oj', hoj', hall⟩ := mem_ready.1 hj
      rw [hoj] at hoj'
      cases hoj'
      have hnot : ∀ e ∈ oj.after, Region.binds md e = true → e.on ≠ i := fun e he hb heq => by
        have h1 := hall e he hb
        have h0 := (mem_ready.1 hr).1
        rw [heq] at h1
        rcases Nat.lt_or_ge i listed.size with h' | h'
        · simp [h'] at h0 h1; rw [h0] at h1; cases h1
        · simp [Array.getElem?_eq_none h'] at h1
      have hwt : waits md ops 4 j i = false := by
        cases hwj : waits md ops 4 j i with
        | false => rfl
        | true =>
          have h1 := waits_listed hdn 4 j i oj hoj hall hwj
          have h0 := (mem_ready.1 hr).1
          rcases Nat.lt_or_ge i listed.size with h' | h'
          · simp [h'] at h0 h1; rw [h0] at h1; cases h1
          · simp [Array.getElem?_eq_none h'] at h1
      obtain ⟨g1, g2⟩ := hfree j oj hoj hji hjun hnot hwt
      have h2 := aOp_swap2 ok hw he hd g1 g2.sep h1
      refine aOp_mono (fun t h3 => ?_) h2
      obtain ⟨⟨f, rfl⟩, h3⟩ := h3
      have hfree' : ∀ k ok, ops[k]? = some ok → k ≠ i → (listed.setIfInBounds j true).getD k true = false →
          (∀ e ∈ ok.after, Region.binds md e = true → e.on ≠ i) → waits md ops 4 k i = false → oi.apart ops ok = true ∧ SepT ops (listed.setIfInBounds j true) oi ok (f.on oj.dst s) := fun k ok hk hki hun hno hwk => by
        have hun' : listed.getD k true = false := by
          by_cases hjk : j = k
          · subst hjk; exact hjun
          · rwa [getD_set_ne true hjk] at hun
        obtain ⟨q1, q2⟩ := hfree k ok hk hki hun' hno hwk
        exact ⟨q1, q2.on hoj hjun⟩
      refine ih (listed.setIfInBounds j true) _ hfree' (hdn.set hj) (ready_mono hr (Ne.symm hji)) h3.1.2.2.2 h3.1.1 h3.1.2.1 h3.1.2.2.1 ?_
      rw [Array.setIfInBounds_comm _ _ hji]
      exact h3.2
/-- the walk in the order of the text. -/
def aList (P : Program) (ops : Array Oper) (K : AS → Prop) : List Oper → AS → Prop
  | [], s => K s
  | o :: rest, s => aOp P ops o (aList P ops K rest) s
/-- the pairs of slots that must point to blocks of their own. -/
def pairOf (x y : Oper) : Option (Nat × Nat) :=
  match addrOf x, addrOf y with
  | some (.tmp t), some (.tmp u) => some (t, u)
  | _, _ => none
def noWrite (ops : Array Oper) (listed : Array Bool) (t : Nat) : Bool := (List.range ops.size).all fun j => listed.getD j true || match ops[j]? with
  | some o => o.dst != some t
  | none => true
def sepB (s : AS) (p : Nat × Nat) : Bool :=
  match s.tmps p.1, s.tmps p.2 with
  | some x, some y => apartV x y
  | _, _ => false
def memFree (md : Region.Mode) (ops : Array Oper) (prs : List (Nat × Nat)) (listed : Array Bool) (i : Nat) : Bool :=
  match ops[i]? with
  | none => false
  | some oi => (List.range ops.size).all fun j => j == i || listed.getD j true || match ops[j]? with
      | some oj => memApart oi oj || waits md ops 4 j i || match pairOf oi oj with
        | some (t, u) => prs.contains (t, u) && noWrite ops listed t && noWrite ops listed u
        | none => false
      | none => true
theorem noWrite_spec {listed : Array Bool} {t : Nat} (h : noWrite ops listed t = true) (j : Nat) (o : Oper) (ho : ops[j]? = some o) (hun : listed.getD j true = false) : o.dst ≠ some t := by
  unfold noWrite at h
  simp only [List.all_eq_true, List.mem_range] at h
  have := h j (Array.getElem?_eq_some_iff.1 ho).1
  simp only [ho, hun, Bool.false_or, bne_iff_ne, ne_eq] at this
  exact this
theorem memFree_spec {i : Nat} {prs : List (Nat × Nat)} {listed : Array Bool} (hi : ops[i]? = some oi) (h : memFree md ops prs listed i = true) (hs : ∀ p ∈ prs, noWrite ops listed p.1 = true → noWrite ops listed p.2 = true → sepB s p = true) (j : Nat) (oj : Oper)
    (hj : ops[j]? = some oj) (hne : j ≠ i) (hun : listed.getD j true = false) (hno : waits md ops 4 j i = false) : SepT ops listed oi oj s := by
  simp only [memFree, hi, List.all_eq_true, List.mem_range] at h
  have h1 := h j (Array.getElem?_eq_some_iff.1 hj).1
  simp only [hj, Bool.or_eq_true, beq_iff_eq, hne, false_or, hun, Bool.false_eq_true] at h1
  rcases h1 with (h1 | h1) | h1
  · exact .inl h1
  · rw [hno] at h1; cases h1
  · split at h1
    · rename_i t u hp
      simp only [Bool.and_eq_true] at h1
      obtain ⟨⟨c1, c2⟩, c3⟩ := h1
      have hsp := hs (t, u) (by simpa using c1) c2 c3
      unfold pairOf at hp
      split at hp
      · rename_i t' u' e1 e2
        cases hp
        unfold sepB at hsp
        split at hsp
        · rename_i o p' q1 q2
          exact .inr ⟨t, u, o, p', e1, e2, q1, q2, hsp, fun i' o' ho' hun' => ⟨noWrite_spec c2 i' o' ho' hun', noWrite_spec c3 i' o' ho' hun'⟩⟩
        · cases hsp
      · cases hp
    · cases h1
def lexM (md : Region.Mode) (ops : Array Oper) (prs : List (Nat × Nat)) : List Nat → Array Bool → Bool
  | [], listed => (Region.ready md ops listed).isEmpty
  | k :: ord, listed => (Region.ready md ops listed).contains k && Region.free md ops listed k && memFree md ops prs listed k && lexM md ops prs ord (listed.setIfInBounds k true)
def getAll (l : List Oper) : List Nat → Option (List Oper)
  | [] => some []
  | i :: ord => match l[i]?, getAll l ord with
    | some o, some r => some (o :: r)
    | _, _ => none
theorem getAll_spec {l : List Oper} : ∀ (ord : List Nat) (r : List Oper), getAll l ord = some r → r.length = ord.length ∧ ∀ (j : Nat), r[j]? = (ord[j]?).bind (l[·]?)
  | [], r, h => by cases h; exact ⟨rfl, fun j => by simp⟩
  | i :: ord, r, h => by
    simp only [getAll] at h
    split at h
    · rename_i o r' ho hr
      cases h
      obtain ⟨h1, h2⟩ := getAll_spec ord r' hr
      refine ⟨by simp [h1], fun j => ?_⟩
      cases j with
      | zero => simp [ho]
      | succ j => simpa using h2 j
    · cases h
/-- the slots that no operation of the list writes hold in the end what they held. -/
theorem aList_end {K : AS → Prop} : ∀ (l : List Oper) (s : AS), aList P ops K l s → ∃ s', K s' ∧ ∀ t, (∀ o ∈ l, o.dst ≠ some t) → s'.tmps t = s.tmps t
  | [], s, h => ⟨s, h, fun _ _ => rfl⟩
  | o :: l, s, ⟨b, hw, e, he, hd, hK⟩ => by
    obtain ⟨s', h1, h2⟩ := aList_end l _ hK
    exact ⟨s', h1, fun t ht => (h2 t fun o' ho' => ht o' (by simp [ho'])).trans (Eff.on_tmps (ht o (by simp)))⟩
theorem aAny_lex {K : AS → Prop} {prs : List (Nat × Nat)} : ∀ (ord : List Nat) (l : List Oper) (listed : Array Bool) (s : AS), l.length = ord.length → (∀ (j : Nat), l[j]? = (ord[j]?).bind (ops[·]?)) → (∀ k ∈ ord, listed.getD k true = false) → (∀ k, k < ops.size → listed.getD k true = false → k ∈ ord) → ord.Nodup → Down md ops listed → s.Ok →
    lexM md ops prs ord listed = true → aList P ops (fun s => prs.all (sepB s) = true ∧ K s) l s → aAny P md ops K l.length listed s
  | [], [], _, _, _, _, _, _, _, _, _, hB, h => ⟨by simpa [lexM] using hB, h.2⟩
  | [], _ :: _, _, _, hlen, _, _, _, _, _, _, _, _ => by cases hlen
  | _ :: _, [], _, _, hlen, _, _, _, _, _, _, _, _ => by cases hlen
  | k :: ord, o :: l, listed, s, hlen, hl, hun, hcov, hnd, hdn, ok, hB, h => by
    have h0 : ops[k]? = some o := by simpa using (hl 0).symm
    have hend := aList_end _ _ h
    simp only [lexM, Bool.and_eq_true] at hB
    obtain ⟨⟨⟨hr, hf⟩, hm⟩, hB'⟩ := hB
    obtain ⟨b, hw, e, he, hd, hK⟩ := h
    have hs : ∀ p ∈ prs, noWrite ops listed p.1 = true → noWrite ops listed p.2 = true → sepB s p = true := fun p hp n1 n2 => by
      obtain ⟨s', ⟨h1, _⟩, h2⟩ := hend
      have nw : ∀ t, noWrite ops listed t = true → ∀ o' ∈ o :: l, o'.dst ≠ some t := fun t ht o' ho' => by
        obtain ⟨j, hj⟩ := List.getElem?_of_mem ho'
        rw [hl j] at hj
        cases hq : (k :: ord)[j]? with
        | none => rw [hq] at hj; cases hj
        | some q => rw [hq] at hj; exact noWrite_spec ht q o' hj (hun _ (List.mem_of_getElem? hq))
      have := List.all_eq_true.1 h1 p hp
      unfold sepB at this ⊢
      rw [h2 p.1 (nw _ n1), h2 p.2 (nw _ n2)] at this
      exact this
    rw [List.nodup_cons] at hnd
    have hne : ∀ q ∈ ord, k ≠ q := fun q hq e => hnd.1 (by rw [e]; exact hq)
    refine aAny_first h0 l.length listed s (fun j oj h1 h2 h3 h4 h5 => ⟨Region.free_spec h0 hf j oj h1 h2 h3 h4, memFree_spec h0 hm hs j oj h1 h2 h3 h5⟩) hdn (by simpa using hr) ok hw he hd ?_
    refine aAny_lex ord l _ _ (by simpa using hlen) (fun j => by simpa using hl (j + 1)) (fun q hq => by rw [getD_set_ne true (hne q hq)]; exact hun q (by simp [hq])) (fun q hq hlq => ?_) hnd.2 (hdn.set (by simpa using hr)) (eff_ok ok he hd) hB' hK
    by_cases e' : k = q
    · subst e'
      have : k < listed.size := by
        have := hun k (by simp)
        rcases Nat.lt_or_ge k listed.size with h' | h'
        · exact h'
        · simp [Array.getElem?_eq_none h'] at this
      simp [this] at hlq
    · rw [getD_set_ne true e'] at hlq
      rcases List.mem_cons.1 (hcov q hq hlq) with h' | h'
      · exact absurd h'.symm e'
      · exact h'
/-- the pairs that are needed. -/
def needPrs (ops : Array Oper) (ord : List Nat) : List (Nat × Nat) :=
  match ord with
  | [] => []
  | i :: rest => (match ops[i]? with
    | some oi => bif memKind oi != 0 then rest.filterMap fun j => match ops[j]? with
        | some oj => bif memApart oi oj || waits .any ops 4 j i then none else pairOf oi oj
        | none => none
      else []
    | none => []) ++ needPrs ops rest
/-- what makes blocks comes first. -/
def early (o : Oper) : Bool := (match o.op with | .alloc _ => true | _ => false) && o.after.isEmpty && o.guard.isNone
def ordOf (l : List Oper) : List Nat := ((List.range l.length).filter fun i => match l[i]? with | some o => early o | none => false) ++ (List.range l.length).filter fun i => match l[i]? with | some o => !early o | none => false
/-- what holds of a piece of code, over states. -/
def AWp (P : Program) (c : Code) (Q : Exit → AS → Prop) (s : AS) : Prop :=
  s.Ok → ∀ B A ρ a w, Rel B A s ρ a w → wR P c (fun e a' w' => ∃ s' ρ', s'.Ok ∧ Rel B A s' ρ' a' w' ∧ Q e s') a w
def ndB : List Nat → Bool
  | [] => true
  | x :: xs => !xs.contains x && ndB xs
theorem ndB_spec : ∀ (l : List Nat), ndB l = true → l.Nodup
  | [], _ => List.nodup_nil
  | x :: xs, h => by
    simp only [ndB, Bool.and_eq_true, Bool.not_eq_true', List.contains_eq_mem, decide_eq_false_iff_not] at h
    exact List.nodup_cons.2 ⟨h.1, ndB_spec xs h.2⟩
def drawB (l : List Oper) : Bool := Nat.beq (ordOf l).length l.length && ndB (ordOf l) && (List.range l.length).all (fun i => (ordOf l).contains i) && (ordOf l).all (fun i => Nat.blt i l.length) && lexM .any l.toArray (needPrs l.toArray (ordOf l)) (ordOf l) (Array.replicate l.length false)
theorem awp_region_draw {id : Nat} {l l' : List Oper} {Q : Exit → AS → Prop} (hm : P.follows .mixedOrders = true) (hB : drawB l = true) (hl : getAll l (ordOf l) = some l')
    (h : aList P l.toArray (fun s => (needPrs l.toArray (ordOf l)).all (sepB s) = true ∧ Q .normal s) l' s) : AWp P (.region id l.toArray true) Q s := by
  intro ok B A ρ a w hR
  refine wR_region_any hm fun ro => ?_
  unfold drawB at hB
  simp only [Bool.and_eq_true, List.all_eq_true, List.mem_range, List.contains_eq_mem, decide_eq_true_eq] at hB
  obtain ⟨⟨⟨⟨b0, b1⟩, b2⟩, b3⟩, b4⟩ := hB
  obtain ⟨g1, g2⟩ := getAll_spec _ _ hl
  have hd : Rel B A s ρ a { w with drawn := w.drawn + 1 } := hR.call ((Below.refl _ w).drew)
  refine aAny_sound (K := Q .normal) (fun s' ρ' a' w' ok' hR' hk => ⟨s', ρ', ok', hR', hk⟩) _ _ s ρ a _ ok hd ?_
  have nd := ndB_spec _ b1
  have hlen : (ordOf l).length = l.length := Nat.eq_of_beq_eq_true b0
  have := aAny_lex (md := .any) (ops := l.toArray) (ordOf l) l' (Array.replicate l.length false) s g1 (by simpa using g2) (fun q hq => by have := b3 q hq; simp [Nat.blt_eq] at this; simp [this]) (fun q hq _ => b2 q (by simpa using hq)) nd (fun k o hk => by exfalso; rcases Nat.lt_or_ge k l.length with q | q <;> simp [Array.getElem?_replicate, q] at hk) ok b4 h
  rw [g1, hlen] at this
  simpa using this
theorem aList_sound {ro : Option Nat} {K : AS → Prop} {Q : Exit → Act → World → Prop} (hQ : ∀ s' ρ' a' w', s'.Ok → Rel B A s' ρ' a' w' → K s' → Q .normal a' w') : ∀ (l : List Oper) (k : Nat) (s : AS) (ρ : Nat → Nat) (a : Act) (w : World), (∀ (j : Nat), l[j]? = ops[k + j]?) → s.Ok → Rel B A s ρ a w →
    aList P ops K l s → wpOpsIn (Wd ro) 0 P ops Q ((List.range l.length).map (k + ·)) a w
  | [], _, _, _, _, _, _, ok, hR, h => hQ _ _ _ _ ok hR h
  | o :: l, k, s, ρ, a, w, hl, ok, hR, h => by
    have h0 : ops[k]? = some o := by simpa using (hl 0).symm
    have e : (List.range (o :: l).length).map (k + ·) = k :: (List.range l.length).map (k + 1 + ·) := by
      rw [List.length_cons, List.range_succ_eq_map, List.map_cons, List.map_map]
      congr 1
      apply List.map_congr_left
      intro j _
      simp [Nat.add_assoc, Nat.add_comm 1 j]
    rw [e, wpOpsIn_cons]
    refine aOp_sound h0 ok hR h fun s' ρ' a' w' ok' hR' hk => aList_sound hQ l (k + 1) s' ρ' a' w' (fun j => by have := hl (j + 1); simpa [Nat.add_assoc, Nat.add_comm 1 j] using this) ok' hR' hk
theorem awp_region {id : Nat} {l : List Oper} {Q : Exit → AS → Prop} (h : aList P l.toArray (Q .normal) l s) : AWp P (.region id l.toArray false) Q s := by
  intro ok B A ρ a w hR
  refine wR_region fun ro => ?_
  have := aList_sound (ro := ro) (ops := l.toArray) (K := Q .normal) (Q := fun e a' w' => ∃ s' ρ', s'.Ok ∧ Rel B A s' ρ' a' w' ∧ Q e s') (fun s' ρ' a' w' ok' hR' hk => ⟨s', ρ', ok', hR', hk⟩) l 0 s ρ a w (by simp) ok hR h
  simpa using this
end
section
variable {P : Program} {B : Base} {A : Nat → Prop} {s s1 s2 s' : AS} {ρ : Nat → Nat} {a : Act} {w : World} {Q : Exit → AS → Prop} {x y : Code}
def athen (next : AS → Prop) (Q : Exit → AS → Prop) : Exit → AS → Prop
  | .normal, s => next s
  | e, s => Q e s
theorem awp_seq (h : AWp P x (athen (fun s' => AWp P y Q s') Q) s) : AWp P (.seq x y) Q s := by
  intro ok B A ρ a w hR
  refine wR_seq (wR_mono (h ok B A ρ a w hR) ?_)
  rintro e a' w' ⟨s', ρ', ok', hR', hq⟩
  cases e <;> first | exact hq ok' B A ρ' a' w' hR' | exact ⟨s', ρ', ok', hR', hq⟩
theorem awp_skip (h : Q .normal s) : AWp P .skip Q s := fun ok B A ρ a w hR => wR_skip ⟨s, ρ, ok, hR, h⟩
theorem awp_exit {id : Nat} (h : Q (.exit id) s) : AWp P (.exit id) Q s := fun ok B A ρ a w hR => wR_exit ⟨s, ρ, ok, hR, h⟩
theorem awp_ret (h : Q .ret s) : AWp P .ret Q s := fun ok B A ρ a w hR => wR_ret ⟨s, ρ, ok, hR, h⟩
theorem awp_cond {c : Operand} {t : Bool} (hc : s.look c = some (.w (.one (.c (.bool t))))) (h1 : t = true → AWp P x Q s) (h0 : t = false → AWp P y Q s) : AWp P (.cond c x y) Q s := by
  intro ok B A ρ a w hR
  have hv : a.eval c = .bool t := (hR.look hc).1
  refine wR_cond hv ?_
  cases t with
  | true => exact h1 rfl ok B A ρ a w hR
  | false => exact h0 rfl ok B A ρ a w hR
theorem awp_cond_t {c : Operand} (hc : s.look c = some (.w (.one (.c (.bool true))))) (h1 : AWp P x Q s) : AWp P (.cond c x y) Q s := awp_cond hc (fun _ => h1) (fun e => by cases e)
theorem awp_cond_f {c : Operand} (hc : s.look c = some (.w (.one (.c (.bool false))))) (h0 : AWp P y Q s) : AWp P (.cond c x y) Q s := awp_cond hc (fun e => by cases e) (fun _ => h0)
def ablock (id : Nat) (Q : Exit → AS → Prop) : Exit → AS → Prop
  | .exit id', s => bif Nat.beq id' id then Q .normal s else Q (.exit id') s
  | e, s => Q e s
theorem awp_block {id : Nat} (h : AWp P x (ablock id Q) s) : AWp P (.block id x) Q s := by
  intro ok B A ρ a w hR
  refine wR_block (wR_mono (h ok B A ρ a w hR) ?_)
  rintro e a' w' ⟨s', ρ', ok', hR', hq⟩
  cases e with
  | exit id' =>
    simp only [Exit.inBlock]
    simp only [ablock] at hq
    cases hb : Nat.beq id' id with
    | true => rw [hb] at hq; rw [if_pos (Nat.eq_of_beq_eq_true hb)]; exact ⟨s', ρ', ok', hR', hq⟩
    | false =>
      rw [hb] at hq
      have : id' ≠ id := fun e => by subst e; rw [Nat.beq_refl] at hb; cases hb
      rw [if_neg this]; exact ⟨s', ρ', ok', hR', hq⟩
  | _ => exact ⟨s', ρ', ok', hR', hq⟩
/-- less is known. -/
structure AS.Le (s s' : AS) : Prop where
  n : s'.n = s.n
  tm : ∀ t av, s'.tmps t = some av → s.tmps t = some av
  mm : ∀ k cs, s'.mem k = some cs → s.mem k = some cs
theorem Rel.le (h : Rel B A s ρ a w) (l : s.Le s') : Rel B A s' ρ a w := by
  have hf : ∀ b, s.free A ρ b → b < w.heap.size → s'.free A ρ b ∧ w.heap[b]? = w.heap[b]? := fun b hb _ => ⟨⟨hb.1, fun k cs hk => hb.2 k cs (l.mm k cs hk)⟩, rfl⟩
  refine ⟨h.nodef, by rw [l.n]; exact h.size, fun t av ht => ?_, fun k cs hk => ?_, fun k k' c c' hk hk' e => h.inj k k' c c' (l.mm _ _ hk) (l.mm _ _ hk') e, h.below, h.up, fun k b hk => by rw [l.n]; exact h.anch k b hk⟩
  · obtain ⟨v, h1, h2⟩ := h.tm t av (l.tm t av ht)
    exact ⟨v, h1, h2.map hf fun _ _ => rfl⟩
  · obtain ⟨vs, ty, h1, h2, h3⟩ := h.mm k cs (l.mm k cs hk)
    exact ⟨vs, ty, h1, h2.map hf fun _ _ _ _ => rfl, h3⟩
theorem wR_loop_n {c : Code} {Q : Exit → Act → World → Prop} (I : Nat → Act → World → Prop) {n : Nat} (h₀ : I n a w)
    (round : ∀ n a w, I n a w → wR P c (Exit.then (fun a' w' => ∃ m, m < n ∧ I m a' w') Q) a w) : wR P (Code.loop c) Q a w := by
  intro ro b k cs hro hb hroom
  have key : ∀ n a w, I n a w →
      ∃ e a' w', Q e a' w' ∧ ArrivesIn (Machine.fenced P (Wd ro)) P (lone (b.atR a (.code c :: .inLoop c :: k)) cs w) b k cs e a' w' := by
    intro n
    induction n using Nat.strongRecOn with
    | _ n ih =>
      intro a w hI
      obtain ⟨e, a₁, w₁, hq, harr⟩ := round n a w hI ro b (.inLoop c :: k) cs hro hb hroom
      cases e with
      | normal =>
        obtain ⟨m, hlt, hI₁⟩ := hq
        obtain ⟨e₂, a₂, w₂, hq₂, harr₂⟩ := ih m hlt a₁ w₁ hI₁
        exact ⟨e₂, a₂, w₂, hq₂, .of_steps (StepsIn.trans harr (.one (fenced_calm hb hroom rfl) stepR_inLoop)) harr₂⟩
      | exit id => exact ⟨_, a₁, w₁, hq, .pass (x := .inLoop c) rfl (fun _ _ => .inl (by simp)) harr⟩
      | goto l => exact ⟨_, a₁, w₁, hq, .pass (x := .inLoop c) rfl (fun _ _ => .inl (by simp)) harr⟩
      | ret => exact ⟨_, a₁, w₁, hq, .pass (x := .inLoop c) rfl (fun _ _ => .inl (by simp)) harr⟩
      | panic ch => exact ⟨_, a₁, w₁, hq, .pass (x := .inLoop c) rfl (fun _ _ => .inl (by simp)) harr⟩
      | outgrown => exact ⟨_, a₁, w₁, hq, .pass (x := .inLoop c) rfl (fun _ _ => .inl (by simp)) harr⟩
  obtain ⟨e, a', w', hq, harr⟩ := key _ a w h₀
  exact ⟨e, a', w', hq, .of_steps (.one (fenced_calm hb hroom rfl) stepR_loop) harr⟩
/-- a loop: I n holds ahead of each round, n falling. -/
theorem awp_loop (I : Nat → AS → Prop) (n : Nat) (s0 : AS) (l0 : s.Le s0) (ok0 : s0.Ok) (h0 : I n s0)
    (round : ∀ n s, I n s → AWp P x (athen (fun s' => ∃ m, m < n ∧ ∃ s'', s'.Le s'' ∧ s''.Ok ∧ I m s'') Q) s) : AWp P (.loop x) Q s := by
  intro ok B A ρ a w hR
  refine wR_loop_n (fun n a w => ∃ s ρ, s.Ok ∧ Rel B A s ρ a w ∧ I n s) ⟨s0, ρ, ok0, hR.le l0, h0⟩ ?_
  rintro n a w ⟨s, ρ, ok, hR, hI⟩
  refine wR_mono (round n s hI ok B A ρ a w hR) ?_
  rintro e a' w' ⟨s', ρ', ok', hR', hq⟩
  cases e with
  | normal =>
    obtain ⟨m, hm, s'', hl, ok'', hI'⟩ := hq
    exact ⟨m, hm, s'', ρ', ok'', hR'.le hl, hI'⟩
  | _ => exact ⟨s', ρ', ok', hR', hq⟩
def AV.Le (x y : AV) : Prop := ∀ U ρ W v, RpV U ρ W x v → RpV U ρ W y v
theorem AV.Le.refl (x : AV) : x.Le x := fun _ _ _ _ h => h
theorem AV.Le.of_eq {x y : AV} (h : x = y) : x.Le y := by subst h; exact .refl x
def resOf (P : Program) (s : AS) : ResultVar → Option AW
  | .tmp t => match s.tmps t with
    | some (.w x) => some x
    | _ => none
  | .cell a ty => match s.tmps a with
    | some (.w (.one (.own k off))) => (s.mem k).bind (pick P ty · off)
    | _ => none
def packed : List AW → AV
  | [x] => .w x
  | xs => .tup xs
/-- what is asked where a function ends. -/
def apost (P : Program) (fn : Func) (r : AV) : Exit → AS → Prop
  | .normal, s | .ret, s => ∃ xs, fn.results.toList.map (resOf P s) = xs.map some ∧ (packed xs).Le r
  | _, _ => False
theorem run_mapM {α : Type} {f : α → Sem Value} : ∀ (l : List α) (vs : List Value), l.length = vs.length → (∀ (i : Nat) x v, l[i]? = some x → vs[i]? = some v → (f x).run P w = .ok v w) → (l.mapM f).run P w = .ok vs w
  | [], [], _, _ => rfl
  | [], _ :: _, h, _ => by cases h
  | _ :: _, [], h, _ => by cases h
  | x :: l, v :: vs, hl, h => by
    have h0 := h 0 x v rfl rfl
    have ih := run_mapM l vs (by simpa using hl) (fun i x v hx hv => h (i + 1) x v (by simpa using hx) (by simpa using hv))
    rw [List.mapM_cons]
    simp only [Sem.run_bind, h0, Result.andThen_ok, ih]
    rfl
def resSem (a : Act) : ResultVar → Sem Value
  | .tmp t => pure (a.tmps.getD t undef)
  | .cell b t => do loadVar t (← asAddr (a.tmps.getD b undef))
theorem results_eq (fn : Func) (a : Act) : results fn a.tmps = (do let vs ← fn.results.mapM (resSem a); pure (if h : vs.size = 1 then vs[0] else .tuple vs)) := rfl
theorem res_sound {v : ResultVar} {z : AW} (hR : Rel B A s ρ a w) (h : resOf P s v = some z) : ∃ u, (resSem a v).run P w = .ok u w ∧ RpW (s.free A ρ) ρ w z u := by
  cases v with
  | tmp t =>
    simp only [resOf] at h
    split at h
    · rename_i x hx
      cases h
      obtain ⟨v, h1, h2⟩ := hR.tm t _ hx
      refine ⟨v, ?_, h2⟩
      simp [resSem, Array.getD_eq_getD_getElem?, h1]
    · cases h
  | cell b ty =>
    simp only [resOf] at h
    split at h
    · rename_i k off hx
      cases hm : s.mem k with
      | none => rw [hm] at h; cases h
      | some cs =>
        rw [hm] at h
        obtain ⟨vs, t, g1, g2, g3⟩ := hR.mm k cs hm
        obtain ⟨u, h1, h2⟩ := pick_sound h g1 g2
        obtain ⟨p, q1, q2⟩ := hR.tm b _ hx
        cases q2
        refine ⟨u, ?_, h2⟩
        simp only [resSem, Array.getD_eq_getD_getElem?, q1, Option.getD_some, asAddr, Sem.run_bind, Sem.run_pure, Result.andThen_ok, h1]
    · cases h
theorem results_sound {fn : Func} {xs : List AW} (hR : Rel B A s ρ a w) (h : fn.results.toList.map (resOf P s) = xs.map some) : ∃ v, (results fn a.tmps).run P w = .ok v w ∧ RpV (s.free A ρ) ρ w (packed xs) v := by
  have key : ∀ (l : List ResultVar) (xs : List AW), l.map (resOf P s) = xs.map some → ∃ vs : List Value, vs.length = xs.length ∧ l.length = vs.length ∧ (∀ (i : Nat) r u, l[i]? = some r → vs[i]? = some u → (resSem a r).run P w = .ok u w) ∧ ∀ (i : Nat) x u, xs[i]? = some x → vs[i]? = some u → RpW (s.free A ρ) ρ w x u := by
    intro l
    induction l with
    | nil => intro xs h; cases xs with
      | nil => exact ⟨[], rfl, rfl, fun i r u h => by simp at h, fun i x u h => by simp at h⟩
      | cons => cases h
    | cons r l ih =>
      intro xs h
      cases xs with
      | nil => cases h
      | cons x xs =>
        simp only [List.map_cons, List.cons.injEq] at h
        obtain ⟨vs, e1, e2, e3, e4⟩ := ih xs h.2
        obtain ⟨u, q1, q2⟩ := res_sound hR h.1
        refine ⟨u :: vs, by simp [e1], by simp [e2], fun i r' u' h1 h2 => ?_, fun i x' u' h1 h2 => ?_⟩
        · cases i with
          | zero => simp at h1 h2; subst h1; subst h2; exact q1
          | succ i => exact e3 i r' u' (by simpa using h1) (by simpa using h2)
        · cases i with
          | zero => simp at h1 h2; subst h1; subst h2; exact q2
          | succ i => exact e4 i x' u' (by simpa using h1) (by simpa using h2)
  obtain ⟨vs, e1, e2, e3, e4⟩ := key _ _ h
  have hm := run_mapM (P := P) (w := w) _ vs e2 e3
  have hrun : (results fn a.tmps).run P w = .ok (if h : vs.toArray.size = 1 then vs.toArray[0] else .tuple vs.toArray) w := by
    rw [results_eq, Array.mapM_eq_mapM_toList]
    simp only [map_eq_pure_bind, bind_assoc, Sem.run_bind]
    rw [hm]
    simp only [Result.andThen_ok, Sem.run_bind, Sem.run_pure]
  refine ⟨_, hrun, ?_⟩
  match vs, xs, e1, e4 with
  | [], [], _, _ => exact ⟨[], rfl, rfl, fun i x v h => by simp at h⟩
  | [v], [x], _, e4 => exact e4 0 x v rfl rfl
  | v1 :: v2 :: vs, x1 :: x2 :: xs, e1, e4 =>
    rw [dif_neg (by simp)]
    exact ⟨v1 :: v2 :: vs, rfl, e1.symm, e4⟩
/-- the state in which a function begins. -/
def start (n : Nat) (args : List AV) : AS := ⟨n, fun t => args[t]?, fun _ => none⟩
/-- code of a function's own level: no block that the function has made is older than its call. -/
def AWt (P : Program) (c : Code) (Q : Exit → AS → Prop) (s : AS) : Prop :=
  s.Ok → ∀ W A ρ a w, Rel (Base.all W) A s ρ a w → c.wp P (fun e a' w' => ∃ s' ρ', s'.Ok ∧ Rel (Base.all W) A s' ρ' a' w' ∧ Q e s') a w
theorem pcall_of_bodyT {f : FuncId} {fn : Func} {c : Code} {args : List AV} {r : AV} (hf : P.funcs[f]? = some fn) (hb : fn.body = some c) (hn : args.length ≤ fn.ntmps) (ca : ∀ x ∈ args, x.closed) (cr : r.closed)
    (h : AWt P c (apost P fn r) (start fn.ntmps args)) : PCall P f args r := by
  refine ⟨ca, cr, fun U W vs hvs => ?_⟩
  have hl := hvs.1
  -- what the arguments' facts hang on is kept apart from all blocks that the call makes
  refine calls_of_wp hf hb ?_
  have ok : (start fn.ntmps args).Ok := ⟨fun t av j ht hj => absurd hj (ca av (List.mem_of_getElem? ht) j), fun k cs x j hk => by cases hk⟩
  have hR : Rel (Base.all W) (fun b => U b ∨ W.heap.size ≤ b) (start fn.ntmps args) id { tmps := vs.toArray ++ Array.replicate (fn.ntmps - vs.toArray.size) undef, defers := [] } W := by
    refine ⟨rfl, by simp [start]; omega, fun t av ht => ?_, (fun k cs hk => by cases hk), (fun k k' cs cs' hk => by cases hk), BelowB.refl (Base.all W), fun b hb => .inr hb, fun k b hk => (by cases hk)⟩
    have hlt : t < vs.length := by rw [← hl]; exact (List.getElem?_eq_some_iff.1 ht).1
    refine ⟨vs[t], by simp [Array.getElem?_append, hlt], ?_⟩
    exact (hvs.2 t av _ ht (List.getElem?_eq_getElem hlt)).map (fun b hb _ => ⟨⟨.inl hb, fun k cs hk => by cases hk⟩, rfl⟩) fun _ _ => rfl
  refine wp_mono (h ok W _ id _ W hR) ?_
  rintro e a' w' ⟨s', ρ', ok', hR', hq⟩
  have fin : (∃ xs, fn.results.toList.map (resOf P s') = xs.map some ∧ (packed xs).Le r) → a'.defers = [] ∧ ∃ v, (results fn a'.tmps).run P w' = .ok v w' ∧ ∃ u, Ending.returned v = .returned u ∧ RpV (fun b => U b ∨ W.heap.size ≤ b) id w' r u ∧ Below W.heap.size W w' := by
    rintro ⟨xs, h1, h2⟩
    obtain ⟨v, q1, q2⟩ := results_sound hR' h1
    exact ⟨hR'.nodef, v, q1, v, rfl, (h2 _ _ _ _ q2).map (fun b hb _ => ⟨hb.1, rfl⟩) fun j hj => absurd hj (cr j), hR'.below.all⟩
  cases e with
  | normal => exact fin hq
  | ret => exact fin hq
  | _ => exact hq.elim
theorem pcall_of_body {f : FuncId} {fn : Func} {c : Code} {args : List AV} {r : AV} (hf : P.funcs[f]? = some fn) (hb : fn.body = some c) (hn : args.length ≤ fn.ntmps) (ca : ∀ x ∈ args, x.closed) (cr : r.closed)
    (h : AWp P c (apost P fn r) (start fn.ntmps args)) : PCall P f args r :=
  pcall_of_bodyT hf hb hn ca cr fun ok W A ρ a w hR => (h ok (Base.all W) A ρ a w hR).top
end
end Go.Proofs.Ytlfkllmnekdghaa

namespace Go.Proofs.Ytlfkllmnekdghaa
open Go.RowKit
set_option linter.unusedVariables false
set_option linter.unusedSimpArgs false
abbrev vC (v : Value) : AV := .w (.one (.c v))
abbrev vI (n : Int) : AV := vC (.int .i64 n)
abbrev vB (b : Bool) : AV := vC (.bool b)
abbrev vO (k off : Nat) : AV := .w (.one (.own k off))
def tyOf (P : Program) (ty : TypeId) : Option (Bool × Nat) :=
  match P.underlying ty, P.info? ty with
  | some (.struct _), some i | some (.array _ _), some i => some (true, i.size)
  | some _, some i => some (false, i.size)
  | _, _ => none
class TyOf (P : Program) (ty : TypeId) (agg : outParam Bool) (n : outParam Nat) : Prop where
  h : tyOf P ty = some (agg, n)
def zeroOf (P : Program) (ty : TypeId) : Option (List Value) := ((P.info? ty).bind (·.zero)).map fun z => z.cells.toList
class ZeroOf (P : Program) (ty : TypeId) (vs : outParam (List Value)) : Prop where
  h : zeroOf P ty = some vs
def fldOf (P : Program) (ty : TypeId) (i : Nat) : Option Nat :=
  match P.underlying ty with
  | some (.struct fs) => (fs[i]?).bind fun f => (P.info? f.type).bind fun t => if t.size = 0 then none else some f.offset
  | _ => none
class FldOf (P : Program) (ty : TypeId) (i : Nat) (off : outParam Nat) : Prop where
  h : fldOf P ty i = some off
def arrOf (P : Program) (ty : TypeId) : Option (Nat × Nat) :=
  match P.underlying ty with
  | some (.array n e) => (P.info? e).map fun t => (n, t.size)
  | _ => none
class ArrOf (P : Program) (ty : TypeId) (n size : outParam Nat) : Prop where
  h : arrOf P ty = some (n, size)
def sliOf (P : Program) (ty : TypeId) : Option Nat :=
  match P.underlying ty with
  | some (.slice e) => (P.info? e).map fun t => t.size
  | _ => none
class SliOf (P : Program) (ty : TypeId) (size : outParam Nat) : Prop where
  h : sliOf P ty = some size
def plcOf (P : Program) (ty : TypeId) : Option (List (Nat × Nat)) :=
  match P.underlying ty with
  | some (.struct fs) => fs.toList.mapM fun f => (P.info? f.type).map fun t => (f.offset, t.size)
  | some (.array n e) => bif Nat.ble n 32 then (P.info? e).map fun t => (List.range n).map fun i => (i * t.size, t.size) else none
  | _ => none
class PlcOf (P : Program) (ty : TypeId) (ps : outParam (List (Nat × Nat))) : Prop where
  h : plcOf P ty = some ps
class IntTy (P : Program) (ty : TypeId) (k : outParam IntKind) : Prop where
  h : P.underlying ty = some (.int k)
class Enters (P : Program) (f : FuncId) : Prop where
  h : enters P f = true
def takeN : List AC → Nat → Nat → Option (List AC)
  | _, 0, 0 => some []
  | [], _, _ => none
  | c :: cs, 0, n + 1 => match takeN cs 0 n with
    | some r => some (c :: r)
    | none => none
  | _ :: cs, off + 1, n => takeN cs off n
def putN : List AC → Nat → List AC → Option (List AC)
  | cs, 0, [] => some cs
  | [], _, _ => none
  | _ :: cs, 0, d :: ds => match putN cs 0 ds with
    | some r => some (d :: r)
    | none => none
  | c :: cs, off + 1, ds => match putN cs off ds with
    | some r => some (c :: r)
    | none => none
theorem takeN_spec : ∀ (cs : List AC) (off n : Nat) (r : List AC), takeN cs off n = some r → off + n ≤ cs.length ∧ (cs.drop off).take n = r
  | cs, 0, 0, r, h => by
    cases cs <;> (simp only [takeN, Option.some.injEq] at h; subst h; simp)
  | [], 0, n + 1, r, h => by simp [takeN] at h
  | [], off + 1, n, r, h => by cases n <;> simp [takeN] at h
  | c :: cs, 0, n + 1, r, h => by
    simp only [takeN] at h
    split at h
    · rename_i r' hr
      cases h
      have := takeN_spec cs 0 n r' hr
      simp at this ⊢
      exact this
    · cases h
  | c :: cs, off + 1, n, r, h => by
    have h' : takeN cs off n = some r := by cases n <;> simpa [takeN] using h
    have := takeN_spec cs off n r h'
    exact ⟨by have := this.1; simp; omega, by simpa using this.2⟩
theorem putN_spec : ∀ (cs : List AC) (off : Nat) (ds : List AC) (r : List AC), putN cs off ds = some r → off + ds.length ≤ cs.length ∧ splice cs off ds = r
  | cs, 0, [], r, h => by
    cases cs <;> (simp only [putN, Option.some.injEq] at h; subst h; simp [splice])
  | [], 0, d :: ds, r, h => by simp [putN] at h
  | [], off + 1, ds, r, h => by cases ds <;> simp [putN] at h
  | c :: cs, 0, d :: ds, r, h => by
    simp only [putN] at h
    split at h
    · rename_i r' hr
      cases h
      have := putN_spec cs 0 ds r' hr
      simp [splice] at this ⊢
      exact this
    · cases h
  | c :: cs, off + 1, ds, r, h => by
    simp only [putN] at h
    split at h
    · rename_i r' hr
      cases h
      have := putN_spec cs off ds r' hr
      simp [splice, Nat.add_right_comm] at this ⊢
      exact this
    · cases h
section
variable {P : Program} {s s' : AS} {o : Oper} {ops : Array Oper} {rest : List Oper} {K : AS → Prop}
theorem al_nil (h : K s) : aList P ops K [] s := h
theorem al_nilS {prs : List (Nat × Nat)} (hs : prs.all (sepB s) = true) (h : K s) : aList P ops (fun s => prs.all (sepB s) = true ∧ K s) [] s := ⟨hs, h⟩
theorem al_step {e : Eff} (hw : want ops o s = some true) (he : AEff P s.n s.look s.mem o true e) (hd : ∀ d, o.dst = some d → d < s.n) (h : aList P ops K rest (e.on o.dst s)) : aList P ops K (o :: rest) s := ⟨true, hw, e, he, hd, h⟩
section
variable {d ty : Nat} {op : Op} {pos : String} {after : Array Edge} {guard : Option (Nat × Bool)}
theorem dst_ok {d : Nat} (hd : Nat.blt d s.n = true) : ∀ d', some d = some d' → d' < s.n := fun d' e => by cases e; simpa [Nat.blt_eq] using hd
theorem al_pass {dst : Option Nat} (hw : want ops ⟨dst, op, ty, pos, after, guard⟩ s = some false) (hd : ∀ d, dst = some d → Nat.blt d s.n = true) (h : aList P ops K rest (s.put dst (.tup []))) : aList P ops K (⟨dst, op, ty, pos, after, guard⟩ :: rest) s :=
  ⟨false, hw, _, .skip, fun d e => by have := hd d e; simpa [Nat.blt_eq] using this, h⟩
theorem al_quiet {av : AV} (hw : want ops ⟨some d, op, ty, pos, after, guard⟩ s = some true) (hq : QuietOK P s.look ⟨some d, op, ty, pos, after, guard⟩ av) (hd : Nat.blt d s.n = true) (h : aList P ops K rest (s.put (some d) av)) : aList P ops K (⟨some d, op, ty, pos, after, guard⟩ :: rest) s :=
  al_step hw (.quiet av hq) (dst_ok hd) h
theorem al_move {x : Operand} {av : AV} (hw : want ops ⟨some d, .move x, ty, pos, after, guard⟩ s = some true) (hx : s.look x = some av) (hd : Nat.blt d s.n = true) (h : aList P ops K rest (s.put (some d) av)) : aList P ops K (⟨some d, .move x, ty, pos, after, guard⟩ :: rest) s := by
  refine al_quiet hw ⟨fun _ _ h => (by cases h), fun y hy => ?_, fun U ρ W env he => ⟨env x, rfl, he x (by simp [Op.operands]) av hx⟩, fun j hj => ⟨x, by simp [Op.operands], av, hx, hj⟩⟩ hd h
  simp [Op.operands] at hy
  subst hy
  exact ⟨av, hx⟩
theorem al_assign {x : Operand} {av : AV} (hw : want ops ⟨some d, .assign x, ty, pos, after, guard⟩ s = some true) (hx : s.look x = some av) (hd : Nat.blt d s.n = true) (h : aList P ops K rest (s.put (some d) av)) : aList P ops K (⟨some d, .assign x, ty, pos, after, guard⟩ :: rest) s := by
  refine al_quiet hw ⟨fun _ _ h => (by cases h), fun y hy => ?_, fun U ρ W env he => ⟨env x, rfl, he x (by simp [Op.operands]) av hx⟩, fun j hj => ⟨x, by simp [Op.operands], av, hx, hj⟩⟩ hd h
  simp [Op.operands] at hy
  subst hy
  exact ⟨av, hx⟩
theorem al_extract {x : Operand} {i : Nat} {xs : List AW} {y : AW} (hw : want ops ⟨some d, .extract x i, ty, pos, after, guard⟩ s = some true) (hx : s.look x = some (.tup xs)) (hi : xs[i]? = some y) (hd : Nat.blt d s.n = true) (h : aList P ops K rest (s.put (some d) (.w y))) : aList P ops K (⟨some d, .extract x i, ty, pos, after, guard⟩ :: rest) s := by
  refine al_quiet (av := .w y) hw ⟨fun _ _ h => (by cases h), fun y hy => ?_, fun U ρ W env he => ?_, fun j hj => ⟨x, by simp [Op.operands], _, hx, ⟨y, List.mem_of_getElem? hi, hj⟩⟩⟩ hd h
  · simp [Op.operands] at hy
    subst hy
    exact ⟨_, hx⟩
  · obtain ⟨vs, e, hl, hv⟩ := he x (by simp [Op.operands]) _ hx
    have hlt : i < vs.length := by rw [← hl]; exact (List.getElem?_eq_some_iff.1 hi).1
    refine ⟨vs[i], ?_, hv i y _ hi (List.getElem?_eq_getElem hlt)⟩
    simp only [execOp, Instr.extract, e]
    simp [hlt]
theorem al_fld {x : Operand} {sty i k off fo : Nat} [F : FldOf P sty i fo] (hw : want ops ⟨some d, .fieldAddr sty x i, ty, pos, after, guard⟩ s = some true) (hx : s.look x = some (vO k off)) (hd : Nat.blt d s.n = true) (h : aList P ops K rest (s.put (some d) (vO k (off + fo)))) : aList P ops K (⟨some d, .fieldAddr sty x i, ty, pos, after, guard⟩ :: rest) s := by
  refine al_quiet hw ⟨fun _ _ h => (by cases h), fun y hy => ?_, fun U ρ W env he => ?_, fun j hj => ⟨x, by simp [Op.operands], _, hx, ?_⟩⟩ hd h
  · simp [Op.operands] at hy
    subst hy
    exact ⟨_, hx⟩
  · have hp : env x = .pointer (some ⟨ρ k, off, none⟩) := he x (by simp [Op.operands]) _ hx
    have hF := F.h
    unfold fldOf at hF
    split at hF
    · rename_i fs hu
      cases hf : fs[i]? with
      | none => rw [hf] at hF; cases hF
      | some f =>
        rw [hf] at hF
        simp only [Option.bind_some] at hF
        cases hi : P.info? f.type with
        | none => rw [hi] at hF; cases hF
        | some t =>
          rw [hi] at hF
          simp only [Option.bind_some] at hF
          split at hF
          · cases hF
          · rename_i hne
            cases hF
            refine ⟨.pointer (some ⟨ρ k, off + f.offset, none⟩), ?_, rfl⟩
            have hadd : (⟨ρ k, off, none⟩ : Addr).add f.offset = ⟨ρ k, off + f.offset, none⟩ := by unfold Addr.add; split <;> simp_all
            simp only [execOp, Instr.fieldAt, hp, Instr.sureAddr, Sem.run_bind, Sem.run_pure, Result.andThen_ok, run_underlying hu, hf, fieldPlace, run_sizeOf' hi, if_neg hne, hadd]
    · cases hF
  · obtain ⟨y, hy, hyj⟩ := hj
    exact ⟨.own k off, by simp [AW.cells], by simp [AW.cells] at hy; subst hy; exact hyj⟩
theorem al_idx {x y : Operand} {aty k off n size : Nat} {ik : IntKind} {i : Int} [A : ArrOf P aty n size] (hw : want ops ⟨some d, .indexAddr aty x y, ty, pos, after, guard⟩ s = some true) (hx : s.look x = some (vO k off)) (hy : s.look y = some (vC (.int ik i))) (h0 : 0 ≤ i) (h1 : i < n) (hd : Nat.blt d s.n = true) (h : aList P ops K rest (s.put (some d) (vO k (off + i.toNat * size)))) : aList P ops K (⟨some d, .indexAddr aty x y, ty, pos, after, guard⟩ :: rest) s := by
  refine al_quiet hw ⟨fun _ _ h => (by cases h), fun z hz => ?_, fun U ρ W env he => ?_, fun j hj => ⟨x, by simp [Op.operands], _, hx, ?_⟩⟩ hd h
  · simp [Op.operands] at hz
    rcases hz with rfl | rfl
    · exact ⟨_, hx⟩
    · exact ⟨_, hy⟩
  · have hp : env x = .pointer (some ⟨ρ k, off, none⟩) := he x (by simp [Op.operands]) _ hx
    have hi : env y = .int ik i := (he y (by simp [Op.operands]) _ hy).1
    have hA := A.h
    unfold arrOf at hA
    split at hA
    · rename_i n' e hu
      cases hi' : P.info? e with
      | none => rw [hi'] at hA; cases hA
      | some t =>
        rw [hi'] at hA
        cases hA
        refine ⟨.pointer (some ⟨ρ k, off + i.toNat * t.size, none⟩), ?_, rfl⟩
        have hadd : (⟨ρ k, off, none⟩ : Addr).add (i.toNat * t.size) = ⟨ρ k, off + i.toNat * t.size, none⟩ := by unfold Addr.add; split <;> simp_all
        simp only [execOp, Instr.indexAt, hp, hi, asIntOf, Instr.sureAddr, Sem.run_bind, Sem.run_pure, Result.andThen_ok, run_underlying hu, run_sizeOf' hi', if_pos (And.intro h0 h1), hadd]
    · cases hA
  · obtain ⟨y, hy, hyj⟩ := hj
    exact ⟨.own k off, by simp [AW.cells], by simp [AW.cells] at hy; subst hy; exact hyj⟩
theorem tyOf_one {ty n : Nat} (h : tyOf P ty = some (false, n)) {cs : List AC} {off : Nat} {y : AC} (hc : cs[off]? = some y) : pick P ty cs off = some (.one y) := by
  unfold tyOf at h
  unfold pick
  cases hu : P.underlying ty with
  | none => rw [hu] at h; cases h
  | some D =>
    cases hi : P.info? ty with
    | none => rw [hu, hi] at h; cases D <;> cases h
    | some i =>
      rw [hu, hi] at h
      cases D <;> first | (simp only [hc, Option.map_some]; done) | (exfalso; cases h)
theorem tyOf_agg {ty n : Nat} (h : tyOf P ty = some (true, n)) {cs ys : List AC} {off : Nat} (hc : takeN cs off n = some ys) : pick P ty cs off = some (.agg ys) := by
  obtain ⟨h1, h2⟩ := takeN_spec _ _ _ _ hc
  unfold tyOf at h
  unfold pick
  split at h
  · rename_i i hu hi; cases h; simp only [hu, hi, Option.bind_some, if_pos h1, h2]
  · rename_i i hu hi; cases h; simp only [hu, hi, Option.bind_some, if_pos h1, h2]
  · cases h
  · cases h
theorem tyOf_info {ty n : Nat} {b : Bool} (h : tyOf P ty = some (b, n)) : ∃ i, P.info? ty = some i ∧ i.size = n := by
  unfold tyOf at h
  split at h
  · rename_i i hu hi; cases h; exact ⟨i, hi, rfl⟩
  · rename_i i hu hi; cases h; exact ⟨i, hi, rfl⟩
  · rename_i i _ _ hu hi; cases h; exact ⟨_, hi, rfl⟩
  · cases h
theorem al_load1 {x : Operand} {lt k off n : Nat} {cs : List AC} {y : AC} [T : TyOf P lt false n] (hw : want ops ⟨some d, .load lt x, ty, pos, after, guard⟩ s = some true) (hx : s.look x = some (vO k off)) (hm : s.mem k = some cs) (hc : cs[off]? = some y) (hd : Nat.blt d s.n = true) (h : aList P ops K rest (s.put (some d) (.w (.one y)))) : aList P ops K (⟨some d, .load lt x, ty, pos, after, guard⟩ :: rest) s :=
  al_step hw (.load lt x k off cs _ rfl hx hm (tyOf_one T.h hc)) (dst_ok hd) h
theorem al_loadN {x : Operand} {lt k off n : Nat} {cs ys : List AC} [T : TyOf P lt true n] (hw : want ops ⟨some d, .load lt x, ty, pos, after, guard⟩ s = some true) (hx : s.look x = some (vO k off)) (hm : s.mem k = some cs) (hc : takeN cs off n = some ys) (hd : Nat.blt d s.n = true) (h : aList P ops K rest (s.put (some d) (.w (.agg ys)))) : aList P ops K (⟨some d, .load lt x, ty, pos, after, guard⟩ :: rest) s :=
  al_step hw (.load lt x k off cs _ rfl hx hm (tyOf_agg T.h hc)) (dst_ok hd) h
theorem al_store {x y : Operand} {st k off n : Nat} {b : Bool} {cs ds : List AC} {z : AW} [T : TyOf P st b n] (hw : want ops ⟨none, .store st x y, ty, pos, after, guard⟩ s = some true) (hx : s.look x = some (vO k off)) (hy : s.look y = some (.w z)) (hm : s.mem k = some cs) (hn : Nat.beq n z.cells.length = true) (hp : putN cs off z.cells = some ds) (h : aList P ops K rest (s.setm k ds)) : aList P ops K (⟨none, .store st x y, ty, pos, after, guard⟩ :: rest) s := by
  obtain ⟨i, hi, hs⟩ := tyOf_info T.h
  obtain ⟨h1, h2⟩ := putN_spec _ _ _ _ hp
  refine al_step hw (.store st x y k off cs z i rfl hx hy hm hi (by rw [hs]; exact Nat.eq_of_beq_eq_true hn) h1) (fun d e => by cases e) ?_
  simp only [Eff.on, h2]
  exact h
theorem al_alloc {at' : Nat} {vs : List Value} [Z : ZeroOf P at' vs] (hw : want ops ⟨some d, .alloc at', ty, pos, after, guard⟩ s = some true) (hm : s.mem d = none) (h1 : (vs.all fun v => v.oneCell') = true) (hd : Nat.blt d s.n = true) (h : aList P ops K rest ((s.setm d (vs.map .c)).put (some d) (vO d 0))) : aList P ops K (⟨some d, .alloc at', ty, pos, after, guard⟩ :: rest) s := by
  have hz := Z.h
  unfold zeroOf at hz
  cases hi : P.info? at' with
  | none => rw [hi] at hz; cases hz
  | some i =>
    rw [hi] at hz
    simp only [Option.bind_some] at hz
    cases hzz : i.zero with
    | none => rw [hzz] at hz; cases hz
    | some z =>
      rw [hzz] at hz
      cases hz
      exact al_step hw (.new _ d rfl hm (.alloc at' i z _ rfl hi hzz rfl h1)) (dst_ok hd) h
theorem al_box {bt : Nat} {x : Operand} {z : AW} (hw : want ops ⟨some d, .box bt x, ty, pos, after, guard⟩ s = some true) (hx : s.look x = some (.w z)) (hm : s.mem d = none) (hd : Nat.blt d s.n = true) (h : aList P ops K rest ((s.setm d z.cells).put (some d) (vO d 0))) : aList P ops K (⟨some d, .box bt x, ty, pos, after, guard⟩ :: rest) s :=
  al_step hw (.new _ d rfl hm (.box bt x z rfl hx)) (dst_ok hd) h
/-- exact operands. -/
def exactL : List AC → Option (List Value)
  | [] => some []
  | .c v :: xs => match exactL xs with
    | some r => some (v :: r)
    | none => none
  | _ :: _ => none
def exactW : AW → Option Value
  | .one (.c v) => some v
  | .one _ => none
  | .agg xs => match exactL xs with
    | some r => some (.agg r.toArray)
    | none => none
theorem exactL_sound {U : Nat → Prop} {ρ : Nat → Nat} {W : World} : ∀ (xs : List AC) (vs r : List Value), RpL U ρ W xs vs → exactL xs = some r → vs = r
  | [], vs, r, h, he => by cases he; have := h.1; exact List.eq_nil_of_length_eq_zero this.symm
  | .c v :: xs, vs, r, h, he => by
    simp only [exactL] at he
    split at he
    · rename_i r' hr
      cases he
      cases vs with
      | nil => have := h.1; cases this
      | cons u us =>
        have h0 : u = v := (h.2 0 _ _ rfl rfl).1
        have := exactL_sound xs us r' ⟨by have := h.1; simpa using this, fun i x w hx hw => h.2 (i + 1) x w (by simpa using hx) (by simpa using hw)⟩ hr
        rw [h0, this]
    · cases he
  | .own _ _ :: _, _, _, _, he => by cases he
  | .p _ :: _, _, _, _, he => by cases he
theorem exactW_sound {U : Nat → Prop} {ρ : Nat → Nat} {W : World} {x : AW} {v u : Value} (h : RpW U ρ W x v) (he : exactW x = some u) : v = u := by
  cases x with
  | one y => cases y with
    | c w => cases he; exact h.1
    | own => cases he
    | p => cases he
  | agg xs =>
    simp only [exactW] at he
    split at he
    · rename_i r hr
      cases he
      obtain ⟨vs, rfl, hl⟩ := h
      rw [exactL_sound xs vs r hl hr]
    · cases he
theorem noown (v : Value) (j : Nat) : ¬ (vC v).owns j := fun ⟨y, hy, h⟩ => by simp [AW.cells] at hy; subst hy; cases h
theorem al_bin {bop : BinOp} {xt yt : Nat} {x y : Operand} {a b : AW} {va vb v : Value} (hw : want ops ⟨some d, .binOp bop xt x y yt, ty, pos, after, guard⟩ s = some true) (hx : s.look x = some (.w a)) (hy : s.look y = some (.w b)) (ea : exactW a = some va) (eb : exactW b = some vb)
    (hg : ∀ W, (eqGuard bop xt x y va vb).run P W = .ok () W) (hr : ∀ W, (binOp bop xt va vb).run P W = .ok v W) (h1 : v.oneCell' = true) (hd : Nat.blt d s.n = true) (h : aList P ops K rest (s.put (some d) (vC v))) : aList P ops K (⟨some d, .binOp bop xt x y yt, ty, pos, after, guard⟩ :: rest) s := by
  refine al_quiet (av := vC v) hw ⟨fun _ _ h => (by cases h), fun z hz => ?_, fun U ρ W env he => ⟨v, ?_, ⟨rfl, h1⟩⟩, fun j hj => absurd hj (noown v j)⟩ hd h
  · simp [Op.operands] at hz
    rcases hz with rfl | rfl
    · exact ⟨_, hx⟩
    · exact ⟨_, hy⟩
  · have e1 : env x = va := exactW_sound (he x (by simp [Op.operands]) _ hx) ea
    have e2 : env y = vb := exactW_sound (he y (by simp [Op.operands]) _ hy) eb
    simp only [execOp, e1, e2, Sem.run_bind, hg, Result.andThen_ok, hr, Sem.run_pure]
theorem al_int {bop : BinOp} {xt yt : Nat} {x y : Operand} {k : IntKind} {a b : Int} {v : Value} (hw : want ops ⟨some d, .binOp bop xt x y yt, ty, pos, after, guard⟩ s = some true) (hx : s.look x = some (vC (.int k a))) (hy : s.look y = some (vC (.int k b)))
    (hr : ∀ W, (binOp bop xt (.int k a) (.int k b)).run P W = .ok v W) (h1 : v.oneCell' = true) (hd : Nat.blt d s.n = true) (h : aList P ops K rest (s.put (some d) (vC v))) : aList P ops K (⟨some d, .binOp bop xt x y yt, ty, pos, after, guard⟩ :: rest) s :=
  al_bin hw hx hy rfl rfl (fun W => by unfold eqGuard; cases bop <;> rfl) hr h1 hd h
theorem al_lss {xt yt : Nat} {x y : Operand} {k : IntKind} {a b : Int} (hw : want ops ⟨some d, .binOp .lss xt x y yt, ty, pos, after, guard⟩ s = some true) (hx : s.look x = some (vC (.int k a))) (hy : s.look y = some (vC (.int k b))) (hd : Nat.blt d s.n = true) (h : aList P ops K rest (s.put (some d) (vB (decide (a < b))))) : aList P ops K (⟨some d, .binOp .lss xt x y yt, ty, pos, after, guard⟩ :: rest) s :=
  al_int hw hx hy (fun W => by cases k <;> rfl) rfl hd h
theorem al_leq {xt yt : Nat} {x y : Operand} {k : IntKind} {a b : Int} (hw : want ops ⟨some d, .binOp .leq xt x y yt, ty, pos, after, guard⟩ s = some true) (hx : s.look x = some (vC (.int k a))) (hy : s.look y = some (vC (.int k b))) (hd : Nat.blt d s.n = true) (h : aList P ops K rest (s.put (some d) (vB (decide (a ≤ b))))) : aList P ops K (⟨some d, .binOp .leq xt x y yt, ty, pos, after, guard⟩ :: rest) s :=
  al_int hw hx hy (fun W => by cases k <;> rfl) rfl hd h
theorem al_gtr {xt yt : Nat} {x y : Operand} {k : IntKind} {a b : Int} (hw : want ops ⟨some d, .binOp .gtr xt x y yt, ty, pos, after, guard⟩ s = some true) (hx : s.look x = some (vC (.int k a))) (hy : s.look y = some (vC (.int k b))) (hd : Nat.blt d s.n = true) (h : aList P ops K rest (s.put (some d) (vB (decide (b < a))))) : aList P ops K (⟨some d, .binOp .gtr xt x y yt, ty, pos, after, guard⟩ :: rest) s :=
  al_int hw hx hy (fun W => by cases k <;> rfl) rfl hd h
theorem al_geq {xt yt : Nat} {x y : Operand} {k : IntKind} {a b : Int} (hw : want ops ⟨some d, .binOp .geq xt x y yt, ty, pos, after, guard⟩ s = some true) (hx : s.look x = some (vC (.int k a))) (hy : s.look y = some (vC (.int k b))) (hd : Nat.blt d s.n = true) (h : aList P ops K rest (s.put (some d) (vB (decide (b ≤ a))))) : aList P ops K (⟨some d, .binOp .geq xt x y yt, ty, pos, after, guard⟩ :: rest) s :=
  al_int hw hx hy (fun W => by cases k <;> rfl) rfl hd h
theorem al_eql {xt yt : Nat} {x y : Operand} {k : IntKind} {a b : Int} (hw : want ops ⟨some d, .binOp .eql xt x y yt, ty, pos, after, guard⟩ s = some true) (hx : s.look x = some (vC (.int k a))) (hy : s.look y = some (vC (.int k b))) (hd : Nat.blt d s.n = true) (h : aList P ops K rest (s.put (some d) (vB (decide (a = b))))) : aList P ops K (⟨some d, .binOp .eql xt x y yt, ty, pos, after, guard⟩ :: rest) s :=
  al_int hw hx hy (fun W => by cases k <;> rfl) rfl hd h
theorem al_neq {xt yt : Nat} {x y : Operand} {k : IntKind} {a b : Int} (hw : want ops ⟨some d, .binOp .neq xt x y yt, ty, pos, after, guard⟩ s = some true) (hx : s.look x = some (vC (.int k a))) (hy : s.look y = some (vC (.int k b))) (hd : Nat.blt d s.n = true) (h : aList P ops K rest (s.put (some d) (vB (!decide (a = b))))) : aList P ops K (⟨some d, .binOp .neq xt x y yt, ty, pos, after, guard⟩ :: rest) s :=
  al_int hw hx hy (fun W => by cases k <;> rfl) rfl hd h
theorem al_add {xt yt : Nat} {x y : Operand} {k : IntKind} {a b c : Int} (hw : want ops ⟨some d, .binOp .add xt x y yt, ty, pos, after, guard⟩ s = some true) (hx : s.look x = some (vC (.int k a))) (hy : s.look y = some (vC (.int k b))) (hc : k.wrap (a + b) = c) (hd : Nat.blt d s.n = true) (h : aList P ops K rest (s.put (some d) (vC (.int k c)))) : aList P ops K (⟨some d, .binOp .add xt x y yt, ty, pos, after, guard⟩ :: rest) s :=
  al_int hw hx hy (fun W => by rw [← hc]; cases k <;> rfl) rfl hd h
theorem al_sub {xt yt : Nat} {x y : Operand} {k : IntKind} {a b c : Int} (hw : want ops ⟨some d, .binOp .sub xt x y yt, ty, pos, after, guard⟩ s = some true) (hx : s.look x = some (vC (.int k a))) (hy : s.look y = some (vC (.int k b))) (hc : k.wrap (a - b) = c) (hd : Nat.blt d s.n = true) (h : aList P ops K rest (s.put (some d) (vC (.int k c)))) : aList P ops K (⟨some d, .binOp .sub xt x y yt, ty, pos, after, guard⟩ :: rest) s :=
  al_int hw hx hy (fun W => by rw [← hc]; cases k <;> rfl) rfl hd h
theorem al_mul {xt yt : Nat} {x y : Operand} {k : IntKind} {a b c : Int} (hw : want ops ⟨some d, .binOp .mul xt x y yt, ty, pos, after, guard⟩ s = some true) (hx : s.look x = some (vC (.int k a))) (hy : s.look y = some (vC (.int k b))) (hc : k.wrap (a * b) = c) (hd : Nat.blt d s.n = true) (h : aList P ops K rest (s.put (some d) (vC (.int k c)))) : aList P ops K (⟨some d, .binOp .mul xt x y yt, ty, pos, after, guard⟩ :: rest) s :=
  al_int hw hx hy (fun W => by rw [← hc]; cases k <;> rfl) rfl hd h
theorem i64_wrap {n : Int} (h : -9223372036854775808 ≤ n ∧ n < 9223372036854775808) : IntKind.i64.wrap n = n := IntWalk.i64_in n (by omega)
theorem al_not {xt : Nat} {x : Operand} {b : Bool} (hw : want ops ⟨some d, .unOp .not xt x, ty, pos, after, guard⟩ s = some true) (hx : s.look x = some (vB b)) (hd : Nat.blt d s.n = true) (h : aList P ops K rest (s.put (some d) (vB (!b)))) : aList P ops K (⟨some d, .unOp .not xt x, ty, pos, after, guard⟩ :: rest) s := by
  refine al_quiet (av := vB (!b)) hw ⟨fun _ _ h => (by cases h), fun z hz => ?_, fun U ρ W env he => ⟨.bool (!b), ?_, ⟨rfl, rfl⟩⟩, fun j hj => absurd hj (noown _ j)⟩ hd h
  · simp [Op.operands] at hz; subst hz; exact ⟨_, hx⟩
  · have e1 : env x = .bool b := (he x (by simp [Op.operands]) _ hx).1
    simp only [execOp, e1, Sem.run_bind, Op.unary]
    rfl
theorem al_pick_t {c x y : Operand} {av : AV} (hw : want ops ⟨some d, .pick c x y, ty, pos, after, guard⟩ s = some true) (hc : s.look c = some (vB true)) (hx : s.look x = some av) {bv : AV} (hy : s.look y = some bv) (hd : Nat.blt d s.n = true) (h : aList P ops K rest (s.put (some d) av)) : aList P ops K (⟨some d, .pick c x y, ty, pos, after, guard⟩ :: rest) s := by
  refine al_quiet hw ⟨fun _ _ h => (by cases h), fun z hz => ?_, fun U ρ W env he => ⟨env x, ?_, he x (by simp [Op.operands]) av hx⟩, fun j hj => ⟨x, by simp [Op.operands], av, hx, hj⟩⟩ hd h
  · simp [Op.operands] at hz
    rcases hz with rfl | rfl | rfl
    · exact ⟨_, hc⟩
    · exact ⟨_, hx⟩
    · exact ⟨_, hy⟩
  · have e1 : env c = .bool true := (he c (by simp [Op.operands]) _ hc).1
    simp [execOp, e1, asBool]
theorem al_pick_f {c x y : Operand} {av : AV} (hw : want ops ⟨some d, .pick c x y, ty, pos, after, guard⟩ s = some true) (hc : s.look c = some (vB false)) (hx : s.look y = some av) {bv : AV} (hy : s.look x = some bv) (hd : Nat.blt d s.n = true) (h : aList P ops K rest (s.put (some d) av)) : aList P ops K (⟨some d, .pick c x y, ty, pos, after, guard⟩ :: rest) s := by
  refine al_quiet hw ⟨fun _ _ h => (by cases h), fun z hz => ?_, fun U ρ W env he => ⟨env y, ?_, he y (by simp [Op.operands]) av hx⟩, fun j hj => ⟨y, by simp [Op.operands], av, hx, hj⟩⟩ hd h
  · simp [Op.operands] at hz
    rcases hz with rfl | rfl | rfl
    · exact ⟨_, hc⟩
    · exact ⟨_, hy⟩
    · exact ⟨_, hx⟩
  · have e1 : env c = .bool false := (he c (by simp [Op.operands]) _ hc).1
    simp [execOp, e1, asBool]
theorem al_callv {f : FuncId} {g : Operand} {ts : Array TypeId} {l : List Operand} {args : List AV} {r : AV} [E : Enters P f] (hw : want ops ⟨some d, .call ⟨.value g, l.toArray, ts⟩, ty, pos, after, guard⟩ s = some true) (hg : s.look g = some (vC (.func (.func f) #[] #[]))) (ha : l.map s.look = args.map some) (hp : PCall P f args r) (hd : Nat.blt d s.n = true) (h : aList P ops K rest (s.put (some d) r)) :
    aList P ops K (⟨some d, .call ⟨.value g, l.toArray, ts⟩, ty, pos, after, guard⟩ :: rest) s :=
  al_step hw (.call f args r ⟨⟨_, g, rfl, rfl, .inl ⟨[], hg, by simpa using ha, rfl⟩⟩, E.h⟩ hp) (dst_ok hd) h
theorem al_call0 {f : FuncId} {g : Operand} {ts : Array TypeId} {r : AV} [E : Enters P f] (hw : want ops ⟨some d, .call ⟨.value g, #[], ts⟩, ty, pos, after, guard⟩ s = some true) (hg : s.look g = some (vC (.func (.func f) #[] #[]))) (hp : PCall P f [] r) (hd : Nat.blt d s.n = true) (h : aList P ops K rest (s.put (some d) r)) : aList P ops K (⟨some d, .call ⟨.value g, #[], ts⟩, ty, pos, after, guard⟩ :: rest) s :=
  al_callv (l := []) hw hg rfl hp hd h
theorem al_call1 {f : FuncId} {g : Operand} {ts : Array TypeId} {x1 : Operand} {a1 : AV} {r : AV} [E : Enters P f] (hw : want ops ⟨some d, .call ⟨.value g, #[x1], ts⟩, ty, pos, after, guard⟩ s = some true) (hg : s.look g = some (vC (.func (.func f) #[] #[]))) (h1 : s.look x1 = some a1) (hp : PCall P f [a1] r) (hd : Nat.blt d s.n = true) (h : aList P ops K rest (s.put (some d) r)) : aList P ops K (⟨some d, .call ⟨.value g, #[x1], ts⟩, ty, pos, after, guard⟩ :: rest) s :=
  al_callv (l := [x1]) hw hg (by simp [h1]) hp hd h
theorem al_call2 {f : FuncId} {g : Operand} {ts : Array TypeId} {x1 x2 : Operand} {a1 a2 : AV} {r : AV} [E : Enters P f] (hw : want ops ⟨some d, .call ⟨.value g, #[x1, x2], ts⟩, ty, pos, after, guard⟩ s = some true) (hg : s.look g = some (vC (.func (.func f) #[] #[]))) (h1 : s.look x1 = some a1) (h2 : s.look x2 = some a2) (hp : PCall P f [a1, a2] r) (hd : Nat.blt d s.n = true) (h : aList P ops K rest (s.put (some d) r)) : aList P ops K (⟨some d, .call ⟨.value g, #[x1, x2], ts⟩, ty, pos, after, guard⟩ :: rest) s :=
  al_callv (l := [x1, x2]) hw hg (by simp [h1, h2]) hp hd h
theorem al_call3 {f : FuncId} {g : Operand} {ts : Array TypeId} {x1 x2 x3 : Operand} {a1 a2 a3 : AV} {r : AV} [E : Enters P f] (hw : want ops ⟨some d, .call ⟨.value g, #[x1, x2, x3], ts⟩, ty, pos, after, guard⟩ s = some true) (hg : s.look g = some (vC (.func (.func f) #[] #[]))) (h1 : s.look x1 = some a1) (h2 : s.look x2 = some a2) (h3 : s.look x3 = some a3) (hp : PCall P f [a1, a2, a3] r) (hd : Nat.blt d s.n = true) (h : aList P ops K rest (s.put (some d) r)) : aList P ops K (⟨some d, .call ⟨.value g, #[x1, x2, x3], ts⟩, ty, pos, after, guard⟩ :: rest) s :=
  al_callv (l := [x1, x2, x3]) hw hg (by simp [h1, h2, h3]) hp hd h
def buildN (ps : List (Nat × Nat)) : List AC → List (Nat × AW) → Option (List AC)
  | cs, [] => some cs
  | cs, (i, z) :: rest => match ps[i]? with
    | some (off, size) => bif Nat.beq size z.cells.length then match putN cs off z.cells with
        | some r => buildN ps r rest
        | none => none
      else none
    | none => none
def lookP (look : Operand → Option AV) : List (Nat × Operand) → Option (List (Nat × AW))
  | [] => some []
  | (i, x) :: rest => match look x, lookP look rest with
    | some (.w z), some r => some ((i, z) :: r)
    | _, _ => none
theorem fold_set (off : Nat) : ∀ (zs : List Value) (k : Nat) (arr : Array Value), off + k + zs.length ≤ arr.size → ((zs.zipIdx k).foldl (fun cs (c, j) => cs.setIfInBounds (off + j) c) arr).toList = arr.toList.take (off + k) ++ zs ++ arr.toList.drop (off + k + zs.length)
  | [], k, arr, _ => by simp
  | z :: zs, k, arr, h => by
    simp only [List.zipIdx_cons, List.foldl_cons]
    rw [fold_set off zs (k + 1) _ (by simp at h ⊢; omega)]
    have e := list_seg_step arr.toList (off + k) z zs (by simp at h ⊢; omega)
    simpa [Array.toList_setIfInBounds, Nat.add_assoc] using e
theorem fill_sound {U : Nat → Prop} {ρ : Nat → Nat} {W : World} {ps : List (Nat × Nat)} {place : Nat → Option (Nat × Nat)} (hp : ∀ i q, ps[i]? = some q → place i = some q) {look : Operand → Option AV} {env : Operand → Value} : ∀ (parts : List (Nat × Operand)) (cs : List AC) (vs : List Value) (zs : List (Nat × AW)) (r : List AC), RpL U ρ W cs vs → lookP look parts = some zs → (∀ p ∈ parts, ∀ a, look p.2 = some a → RpV U ρ W a (env p.2)) → buildN ps cs zs = some r →
    ∃ us : List Value, Instr.fill place vs.toArray (parts.map fun p => (p.1, env p.2)) = some us.toArray ∧ RpL U ρ W r us
  | [], cs, vs, zs, r, hl, hz, _, hb => by cases hz; cases hb; exact ⟨vs, rfl, hl⟩
  | (i, x) :: parts, cs, vs, zs, r, hl, hz, he, hb => by
    simp only [lookP] at hz
    split at hz
    · rename_i z zr hx hr
      cases hz
      simp only [buildN] at hb
      split at hb
      · rename_i off size hps
        cases hbeq : Nat.beq size z.cells.length with
        | false => rw [hbeq] at hb; cases hb
        | true =>
          rw [hbeq] at hb
          simp only [cond_true] at hb
          split at hb
          · rename_i cs' hput
            have hz : RpW U ρ W z (env x) := he (i, x) (by simp) _ hx
            have hzc := hz.cells
            obtain ⟨q1, q2⟩ := putN_spec _ _ _ _ hput
            have hs := Nat.eq_of_beq_eq_true hbeq
            have hlz : (env x).cells.size = z.cells.length := by have := hzc.1; simp at this; exact this.symm
            have hlv := hl.1
            have hsp := hl.splice hzc off q1
            rw [q2] at hsp
            obtain ⟨us, g1, g2⟩ := fill_sound hp parts cs' _ zr r hsp hr (fun p hp' => he p (by simp [hp'])) hb
            refine ⟨us, ?_, g2⟩
            simp only [List.map_cons, Instr.fill, hp i _ hps]
            rw [if_neg (by simp [hlz, hs]; omega)]
            rw [← g1]
            congr 1
            apply Array.ext'
            have := fold_set off (env x).cells.toList 0 vs.toArray (by simp [hlz]; omega)
            rw [← Array.foldl_toList, Array.toList_zipIdx]
            simpa using this
          · cases hb
      · cases hb
    · cases hz
theorem lookP_mem {look : Operand → Option AV} : ∀ (parts : List (Nat × Operand)) (zs : List (Nat × AW)), lookP look parts = some zs → ∀ p ∈ parts, ∃ z, look p.2 = some (.w z) ∧ (p.1, z) ∈ zs
  | [], _, _, p, hp => by cases hp
  | (i, x) :: parts, zs, h, p, hp => by
    simp only [lookP] at h
    split at h
    · rename_i z zr hx hr
      cases h
      rcases List.mem_cons.1 hp with rfl | hp
      · exact ⟨z, hx, by simp⟩
      · obtain ⟨z', h1, h2⟩ := lookP_mem parts zr hr p hp
        exact ⟨z', h1, by simp [h2]⟩
    · cases h
theorem lookP_back {look : Operand → Option AV} : ∀ (parts : List (Nat × Operand)) (zs : List (Nat × AW)), lookP look parts = some zs → ∀ q ∈ zs, ∃ p ∈ parts, look p.2 = some (.w q.2)
  | [], _, h, q, hq => by cases h; cases hq
  | (i, x) :: parts, zs, h, q, hq => by
    simp only [lookP] at h
    split at h
    · rename_i z zr hx hr
      cases h
      rcases List.mem_cons.1 hq with rfl | hq
      · exact ⟨(i, x), by simp, hx⟩
      · obtain ⟨p, h1, h2⟩ := lookP_back parts zr hr q hq
        exact ⟨p, by simp [h1], h2⟩
    · cases h
theorem putN_mem {cs ds r : List AC} {off : Nat} (h : putN cs off ds = some r) : ∀ x ∈ r, x ∈ cs ∨ x ∈ ds := by
  obtain ⟨_, rfl⟩ := putN_spec _ _ _ _ h
  intro x hx
  unfold splice at hx
  simp only [List.mem_append] at hx
  rcases hx with (h1 | h1) | h1
  · exact .inl (List.mem_of_mem_take h1)
  · exact .inr h1
  · exact .inl (List.mem_of_mem_drop h1)
theorem buildN_mem {ps : List (Nat × Nat)} : ∀ (zs : List (Nat × AW)) (cs r : List AC), buildN ps cs zs = some r → ∀ x ∈ r, x ∈ cs ∨ ∃ q ∈ zs, x ∈ q.2.cells
  | [], cs, r, h, x, hx => by cases h; exact .inl hx
  | (i, z) :: zs, cs, r, h, x, hx => by
    simp only [buildN] at h
    split at h
    · rename_i off size hps
      cases hbeq : Nat.beq size z.cells.length with
      | false => rw [hbeq] at h; cases h
      | true =>
        rw [hbeq] at h
        simp only [cond_true] at h
        split at h
        · rename_i cs' hput
          rcases buildN_mem zs cs' r h x hx with h1 | ⟨q, h1, h2⟩
          · rcases putN_mem hput x h1 with h2 | h2
            · exact .inl h2
            · exact .inr ⟨(i, z), by simp, h2⟩
          · exact .inr ⟨q, by simp [h1], h2⟩
        · cases h
    · cases h
theorem run_mapM_arr {α β : Type} {f : α → Sem β} {W : World} : ∀ (l : List α) (vs : List β), l.length = vs.length → (∀ (i : Nat) x v, l[i]? = some x → vs[i]? = some v → (f x).run P W = .ok v W) → (l.mapM f).run P W = .ok vs W
  | [], [], _, _ => rfl
  | [], _ :: _, h, _ => by cases h
  | _ :: _, [], h, _ => by cases h
  | x :: l, v :: vs, hl, h => by
    have h0 := h 0 x v rfl rfl
    have ih := run_mapM_arr l vs (by simpa using hl) (fun i x v hx hv => h (i + 1) x v (by simpa using hx) (by simpa using hv))
    rw [List.mapM_cons]
    simp only [Sem.run_bind, h0, Result.andThen_ok, ih]
    rfl
theorem mapM_opt {α β : Type} {f : α → Option β} : ∀ (l : List α) (vs : List β), l.mapM f = some vs → l.length = vs.length ∧ ∀ (i : Nat) x v, l[i]? = some x → vs[i]? = some v → f x = some v
  | [], vs, h => by cases h; exact ⟨rfl, fun i x v hx => by simp at hx⟩
  | a :: l, vs, h => by
    rw [List.mapM_cons] at h
    cases ha : f a with
    | none => rw [ha] at h; cases h
    | some b =>
      rw [ha] at h
      cases hl : l.mapM f with
      | none => rw [hl] at h; cases h
      | some bs =>
        rw [hl] at h
        cases h
        obtain ⟨h1, h2⟩ := mapM_opt l bs hl
        refine ⟨by simp [h1], fun i x v hx hv => ?_⟩
        cases i with
        | zero => simp at hx hv; subst hx; subst hv; exact ha
        | succ i => exact h2 i x v (by simpa using hx) (by simpa using hv)
theorem al_build {t : Nat} {parts : List (Nat × Operand)} {vs : List Value} {ps : List (Nat × Nat)} {zs : List (Nat × AW)} {r : List AC} [Z : ZeroOf P t vs] [L : PlcOf P t ps] (hw : want ops ⟨some d, .build t parts.toArray, ty, pos, after, guard⟩ s = some true) (hz : lookP s.look parts = some zs) (hb : buildN ps (vs.map .c) zs = some r) (h1 : (vs.all fun v => v.oneCell') = true) (hd : Nat.blt d s.n = true) (h : aList P ops K rest (s.put (some d) (.w (.agg r)))) : aList P ops K (⟨some d, .build t parts.toArray, ty, pos, after, guard⟩ :: rest) s := by
  refine al_quiet (av := .w (.agg r)) hw ⟨fun _ _ h => (by cases h), fun z hz' => ?_, fun U ρ W env he => ?_, fun j hj => ?_⟩ hd h
  · simp only [Op.operands, List.mem_toArray, List.mem_map] at hz'
    obtain ⟨p, hp, rfl⟩ := hz'
    obtain ⟨z, h1, _⟩ := lookP_mem parts zs hz p hp
    exact ⟨_, h1⟩
  · have hZ := Z.h
    have hL := L.h
    unfold zeroOf at hZ
    unfold plcOf at hL
    cases hi : P.info? t with
    | none => rw [hi] at hZ; cases hZ
    | some i =>
      rw [hi] at hZ
      simp only [Option.bind_some] at hZ
      cases hzz : i.zero with
      | none => rw [hzz] at hZ; cases hZ
      | some z =>
        rw [hzz] at hZ
        cases hZ
        split at hL
        · rename_i fs hu
          obtain ⟨m1, m2⟩ := mapM_opt _ _ hL
          have hzv : (zeroValue t).run P W = .ok z W := by simp [zeroValue, typeInfo, program, Sem.run_bind, Sem.run, hi, Result.andThen, hzz]
          have hpl : (fs.mapM fun f => (do pure (f.offset, ← sizeOf f.type) : Sem (Nat × Nat))).run P W = .ok ps.toArray W := by
            rw [Array.mapM_eq_mapM_toList]
            have := run_mapM_arr (P := P) (W := W) (f := fun f : Field => (do pure (f.offset, ← sizeOf f.type) : Sem (Nat × Nat))) fs.toList ps m1 (fun j x v hx hv => by
              have := m2 j x v hx hv
              cases hif : P.info? x.type with
              | none => rw [hif] at this; cases this
              | some ti =>
                rw [hif] at this
                cases this
                simp only [Sem.run_bind, run_sizeOf' hif, Result.andThen_ok, Sem.run_pure])
            simp only [map_eq_pure_bind, Sem.run_bind, this, Result.andThen_ok, Sem.run_pure]
          have hrl : RpL U ρ W (z.cells.toList.map .c) z.cells.toList := ⟨by simp, fun j x v hx hv => by
            rw [List.getElem?_map, hv] at hx
            cases hx
            exact ⟨rfl, List.all_eq_true.1 h1 v (List.mem_of_getElem? hv)⟩⟩
          obtain ⟨us, g1, g2⟩ := fill_sound (U := U) (ρ := ρ) (W := W) (ps := ps) (place := fun i => ps.toArray[i]?) (fun i q h => by simpa using h) (look := s.look) (env := env) parts _ _ zs r hrl hz (fun p hp a ha => he p.2 (by simp only [Op.operands, List.mem_toArray, List.mem_map]; exact ⟨p, hp, rfl⟩) a ha) hb
          refine ⟨.agg us.toArray, ?_, us, rfl, g2⟩
          have hparts : (parts.toArray.map fun (i, x) => (i, env x)).toList = parts.map fun p => (p.1, env p.2) := by simp
          have hz2 : z.cells.toList.toArray = z.cells := by simp
          rw [hz2] at g1
          simp only [execOp, Instr.build, Sem.run_bind, hzv, Result.andThen_ok, run_underlying hu, hpl, hparts, g1, Sem.run_pure]
        · rename_i n el hu
          have hzv : (zeroValue t).run P W = .ok z W := by simp [zeroValue, typeInfo, program, Sem.run_bind, Sem.run, hi, Result.andThen, hzz]
          have hrl : RpL U ρ W (z.cells.toList.map .c) z.cells.toList := ⟨by simp, fun j x v hx hv => by
            rw [List.getElem?_map, hv] at hx
            cases hx
            exact ⟨rfl, List.all_eq_true.1 h1 v (List.mem_of_getElem? hv)⟩⟩
          cases hn : Nat.ble n 32 with
          | false => rw [hn] at hL; cases hL
          | true =>
            rw [hn] at hL
            simp only [cond_true] at hL
            cases hie : P.info? el with
            | none => rw [hie] at hL; cases hL
            | some ti =>
              rw [hie] at hL
              simp only [Option.map_some, Option.some.injEq] at hL
              obtain ⟨us, g1, g2⟩ := fill_sound (U := U) (ρ := ρ) (W := W) (ps := ps) (place := fun i => some (i * ti.size, ti.size)) (fun i q h => by
                rw [← hL, List.getElem?_map] at h
                rcases Nat.lt_or_ge i n with hlt | hge
                · rw [List.getElem?_eq_getElem (by simpa using hlt)] at h
                  simpa using h
                · rw [List.getElem?_eq_none (by simpa using hge)] at h
                  cases h) (look := s.look) (env := env) parts _ _ zs r hrl hz (fun p hp a ha => he p.2 (by simp only [Op.operands, List.mem_toArray, List.mem_map]; exact ⟨p, hp, rfl⟩) a ha) hb
              refine ⟨.agg us.toArray, ?_, us, rfl, g2⟩
              have hparts : (parts.toArray.map fun (i, x) => (i, env x)).toList = parts.map fun p => (p.1, env p.2) := by simp
              have hz2 : z.cells.toList.toArray = z.cells := by simp
              rw [hz2] at g1
              simp only [execOp, Instr.build, Sem.run_bind, hzv, Result.andThen_ok, run_underlying hu, run_sizeOf' hie, hparts, g1, Sem.run_pure]
        · cases hL
  · obtain ⟨y, hy, hyj⟩ := hj
    rcases buildN_mem zs _ r hb y hy with h2 | ⟨q, h2, h3⟩
    · obtain ⟨v, _, rfl⟩ := List.mem_map.1 h2; cases hyj
    · obtain ⟨p, hp, hl⟩ := lookP_back parts zs hz q h2
      exact ⟨p.2, by simp only [Op.operands, List.mem_toArray, List.mem_map]; exact ⟨p, hp, rfl⟩, _, hl, ⟨y, h3, hyj⟩⟩
/-- min and max. -/
theorem al_blt2 {bi : Builtin} {ts : Array TypeId} {x y : Operand} {va vb v : Value} (hw : want ops ⟨some d, .call ⟨.builtin bi, #[x, y], ts⟩, ty, pos, after, guard⟩ s = some true) (hx : s.look x = some (vC va)) (hy : s.look y = some (vC vb)) (hr : ∀ cs W, (builtin bi ts ty cs #[va, vb]).run P W = .ok (.value v) W) (h1 : v.oneCell' = true) (hd : Nat.blt d s.n = true) (h : aList P ops K rest (s.put (some d) (vC v))) : aList P ops K (⟨some d, .call ⟨.builtin bi, #[x, y], ts⟩, ty, pos, after, guard⟩ :: rest) s := by
  refine al_quiet (av := vC v) hw ⟨fun _ _ h => (by cases h), fun z hz => ?_, fun U ρ W env he => ⟨v, ?_, ⟨rfl, h1⟩⟩, fun j hj => absurd hj (noown v j)⟩ hd h
  · simp [Op.operands, Call.operands] at hz
    rcases hz with rfl | rfl
    · exact ⟨_, hx⟩
    · exact ⟨_, hy⟩
  · have e1 : env x = va := (he x (by simp [Op.operands, Call.operands]) _ hx).1
    have e2 : env y = vb := (he y (by simp [Op.operands, Call.operands]) _ hy).1
    have em : (#[x, y] : Array Operand).map env = #[va, vb] := by simp [e1, e2]
    simp only [execOp, resolve, em, Sem.run_bind, Sem.run_pure, Result.andThen_ok, invoke, hr]
theorem al_min {ts : Array TypeId} {x y : Operand} {k : IntKind} {a b : Int} (hw : want ops ⟨some d, .call ⟨.builtin .min, #[x, y], ts⟩, ty, pos, after, guard⟩ s = some true) (hx : s.look x = some (vC (.int k a))) (hy : s.look y = some (vC (.int k b))) (hd : Nat.blt d s.n = true) (h : aList P ops K rest (s.put (some d) (vC (.int k (if b < a then b else a))))) : aList P ops K (⟨some d, .call ⟨.builtin .min, #[x, y], ts⟩, ty, pos, after, guard⟩ :: rest) s :=
  al_blt2 hw hx hy (fun cs W => by go_simp; all_goals (first | rfl | (split <;> omega))) rfl hd h
theorem al_max {ts : Array TypeId} {x y : Operand} {k : IntKind} {a b : Int} (hw : want ops ⟨some d, .call ⟨.builtin .max, #[x, y], ts⟩, ty, pos, after, guard⟩ s = some true) (hx : s.look x = some (vC (.int k a))) (hy : s.look y = some (vC (.int k b))) (hd : Nat.blt d s.n = true) (h : aList P ops K rest (s.put (some d) (vC (.int k (if b > a then b else a))))) : aList P ops K (⟨some d, .call ⟨.builtin .max, #[x, y], ts⟩, ty, pos, after, guard⟩ :: rest) s :=
  al_blt2 hw hx hy (fun cs W => by go_simp; all_goals (first | rfl | (split <;> omega))) rfl hd h
/-- a test parts the ways: where a guard hangs on it. -/
theorem al_case {t : Nat} {b : Bool} {l : List Oper} (hs : s.tmps t = some (vB b)) (h1 : b = true → aList P ops K l (s.put (some t) (vB true))) (h0 : b = false → aList P ops K l (s.put (some t) (vB false))) : aList P ops K l s := by
  have same : ∀ c, b = c → s.put (some t) (vB c) = s := fun c e => by
    subst e
    simp only [AS.put]
    congr 1
    funext j
    by_cases hj : j = t
    · subst hj; rw [upd_same, hs]
    · rw [upd_ne _ _ hj]
  cases b with
  | true => rw [← same true rfl]; exact h1 rfl
  | false => rw [← same false rfl]; exact h0 rfl
end
theorem resl_nil : ([] : List ResultVar).map (resOf P s) = ([] : List AW).map some := rfl
theorem resl_tmp {t : Nat} {x : AW} {l : List ResultVar} {xs : List AW} (h : s.tmps t = some (.w x)) (hl : l.map (resOf P s) = xs.map some) : (ResultVar.tmp t :: l).map (resOf P s) = (x :: xs).map some := by
  simp only [List.map_cons, hl]; rw [show resOf P s (.tmp t) = some x by simp only [resOf, h]]
theorem resl_one {a ty k off n : Nat} [T : TyOf P ty false n] {cs : List AC} {y : AC} {l : List ResultVar} {xs : List AW} (h : s.tmps a = some (vO k off)) (hm : s.mem k = some cs) (hc : cs[off]? = some y) (hl : l.map (resOf P s) = xs.map some) : (ResultVar.cell a ty :: l).map (resOf P s) = (.one y :: xs).map some := by
  simp only [List.map_cons, hl]; rw [show resOf P s (.cell a ty) = some (.one y) by simp only [resOf, h, hm, Option.bind_some, tyOf_one T.h hc]]
theorem resl_agg {a ty k off n : Nat} [T : TyOf P ty true n] {cs ys : List AC} {l : List ResultVar} {xs : List AW} (h : s.tmps a = some (vO k off)) (hm : s.mem k = some cs) (hc : takeN cs off n = some ys) (hl : l.map (resOf P s) = xs.map some) : (ResultVar.cell a ty :: l).map (resOf P s) = (.agg ys :: xs).map some := by
  simp only [List.map_cons, hl]; rw [show resOf P s (.cell a ty) = some (.agg ys) by simp only [resOf, h, hm, Option.bind_some, tyOf_agg T.h hc]]
theorem apost_ret {fn : Func} {l : List ResultVar} {xs : List AW} {r : AV} (hr : fn.results = l.toArray) (h : l.map (resOf P s) = xs.map some) (hle : (packed xs).Le r) : apost P fn r .ret s := ⟨xs, by rw [hr]; exact h, hle⟩
def AC.closedB : AC → Bool
  | .own _ _ => false
  | _ => true
def AW.closedB : AW → Bool
  | .one x => x.closedB
  | .agg xs => xs.all AC.closedB
def AV.closedB : AV → Bool
  | .w x => x.closedB
  | .tup xs => xs.all AW.closedB
theorem AC.closed_of {x : AC} (h : x.closedB = true) (j : Nat) : ¬ x.owns j := by cases x <;> simp_all [AC.closedB, AC.owns]
theorem AW.closed_of {x : AW} (h : x.closedB = true) (j : Nat) : ¬ x.owns j := by
  rintro ⟨y, hy, hj⟩
  cases x with
  | one z => simp [AW.cells] at hy; subst hy; exact AC.closed_of h j hj
  | agg xs => exact AC.closed_of (List.all_eq_true.1 h y hy) j hj
theorem AV.closed_of {x : AV} (h : x.closedB = true) : x.closed := fun j => by
  cases x with
  | w y => exact AW.closed_of h j
  | tup xs => rintro ⟨y, hy, hj⟩; exact AW.closed_of (List.all_eq_true.1 h y hy) j hj
theorem pcall_body {f : FuncId} {fn : Func} {c : Code} {args : List AV} {r : AV} (hf : P.funcs[f]? = some fn) (hb : fn.body = some c) (hn : Nat.ble args.length fn.ntmps = true) (ca : args.all AV.closedB = true) (cr : r.closedB = true)
    (h : AWp P c (apost P fn r) (start fn.ntmps args)) : PCall P f args r :=
  pcall_of_body hf hb (by simpa [Nat.ble_eq] using hn) (fun x hx => AV.closed_of (List.all_eq_true.1 ca x hx)) (AV.closed_of cr) h
theorem pcall_bodyT {f : FuncId} {fn : Func} {c : Code} {args : List AV} {r : AV} (hf : P.funcs[f]? = some fn) (hb : fn.body = some c) (hn : Nat.ble args.length fn.ntmps = true) (ca : args.all AV.closedB = true) (cr : r.closedB = true)
    (h : AWt P c (apost P fn r) (start fn.ntmps args)) : PCall P f args r :=
  pcall_of_bodyT hf hb (by simpa [Nat.ble_eq] using hn) (fun x hx => AV.closed_of (List.all_eq_true.1 ca x hx)) (AV.closed_of cr) h
theorem athen_normal {next : AS → Prop} {Q : Exit → AS → Prop} (h : next s) : athen next Q .normal s := h
theorem athen_exit {next : AS → Prop} {Q : Exit → AS → Prop} {id : Nat} (h : Q (.exit id) s) : athen next Q (.exit id) s := h
theorem athen_ret {next : AS → Prop} {Q : Exit → AS → Prop} (h : Q .ret s) : athen next Q .ret s := h
theorem ablock_normal {Q : Exit → AS → Prop} {id : Nat} (h : Q .normal s) : ablock id Q .normal s := h
theorem ablock_ret {Q : Exit → AS → Prop} {id : Nat} (h : Q .ret s) : ablock id Q .ret s := h
theorem ablock_same {Q : Exit → AS → Prop} {id : Nat} (h : Q .normal s) : ablock id Q (.exit id) s := by simp only [ablock, Nat.beq_refl, cond_true]; exact h
theorem al_guard_b {dst : Option Nat} {op : Op} {ty : Nat} {pos : String} {after : Array Edge} {g t : Nat} {b bb c : Bool} (hd : (ops[g]?).bind (·.dst) = some t) (hs : s.tmps t = some (vB bb)) (hb : bb = c)
    (h1 : aList P ops K (⟨dst, op, ty, pos, after, some (g, b)⟩ :: rest) (s.put (some t) (vB c))) : aList P ops K (⟨dst, op, ty, pos, after, some (g, b)⟩ :: rest) s := by
  subst hb
  exact al_case hs (fun e => by subst e; exact h1) (fun e => by subst e; exact h1)
theorem awp_cond_b {c : Operand} {t u : Bool} {x y : Code} {Q : Exit → AS → Prop} (hc : s.look c = some (vB t)) (ht : t = u) (h : AWp P (bif u then x else y) Q s) : AWp P (.cond c x y) Q s := by
  subst ht
  cases t with
  | true => exact awp_cond_t hc h
  | false => exact awp_cond_f hc h
theorem awp_cond_1 {c : Operand} {t : Bool} {x y : Code} {Q : Exit → AS → Prop} (hc : s.look c = some (vB t)) (ht : t = true) (h : AWp P x Q s) : AWp P (.cond c x y) Q s := awp_cond_b hc ht h
theorem awp_cond_0 {c : Operand} {t : Bool} {x y : Code} {Q : Exit → AS → Prop} (hc : s.look c = some (vB t)) (ht : t = false) (h : AWp P y Q s) : AWp P (.cond c x y) Q s := awp_cond_b hc ht h
end
end Go.Proofs.Ytlfkllmnekdghaa

namespace Go.Proofs.Ytlfkllmnekdghaa
open Go.RowKit
set_option linter.unusedVariables false
set_option linter.unusedSimpArgs false
/-- two numbers, as Point and Pixel have. -/
abbrev vP (x y : Int) : AV := .w (.agg [.c (.int .i64 x), .c (.int .i64 y)])
def footC (w : World) : AC → Value → Nat → Prop
  | .p R, x, b => R.foot w x b
  | _, _, _ => False
theorem add_add' (a : Addr) (m j : Nat) : (a.add m).add j = a.add (m + j) := by
  unfold Addr.add
  by_cases h1 : m = 0 <;> by_cases h2 : j = 0 <;> simp [h1, h2, Nat.add_assoc]
theorem block_add (a : Addr) (m : Nat) : (a.add m).block = a.block := by unfold Addr.add; split <;> rfl
/-- cells that lie from an address on, and tell what xs does. -/
structure CellsAt (w : World) (a : Addr) (xs : List AC) (vs : List Value) : Prop where
  lt : a.block < w.heap.size
  rp : RpL (fun _ => True) id w xs vs
  at_ : ∀ (j : Nat) v, vs[j]? = some v → w.cell? (a.add j) = some v
  cl : ∀ y ∈ xs, y.closedB = true
def footL (w : World) (a : Addr) (xs : List AC) (b : Nat) : Prop := a.block = b ∨ ∃ (j : Nat) (y : AC) (v : Value), xs[j]? = some y ∧ w.cell? (a.add j) = some v ∧ footC w y v b
theorem CellsAt.frame {w w' : World} {a : Addr} {xs : List AC} {vs : List Value} (h : CellsAt w a xs vs) (hf : ∀ b, footL w a xs b → w'.heap[b]? = w.heap[b]?) : CellsAt w' a xs vs ∧ ∀ b, footL w' a xs b → footL w a xs b := by
  have hb : w'.heap[a.block]? = w.heap[a.block]? := hf _ (.inl rfl)
  have hc : ∀ j, w'.cell? (a.add j) = w.cell? (a.add j) := fun j => World.cell?_of_block (w := w) (by rw [block_add]; exact hb)
  have key : ∀ (j : Nat) (y : AC) (v : Value), xs[j]? = some y → w.cell? (a.add j) = some v → RpC (fun _ => True) id w y v → RpC (fun _ => True) id w' y v ∧ ∀ b, footC w' y v b → footC w y v b := by
    intro j y v hy hv hr
    cases y with
    | c u => exact ⟨hr, fun b h => h⟩
    | own k o => exact ⟨hr, fun b h => h⟩
    | p R =>
      have := R.frame w w' v hr.1 fun b hb => hf b (.inr ⟨j, _, v, hy, hv, hb⟩)
      exact ⟨⟨this.1, fun _ _ => trivial⟩, this.2⟩
  refine ⟨⟨?_, ⟨h.rp.1, fun i y v hy hv => (key i y v hy (h.at_ i v hv) (h.rp.2 i y v hy hv)).1⟩, fun j v hv => by rw [hc]; exact h.at_ j v hv, h.cl⟩, ?_⟩
  · have h5 := Array.getElem?_eq_getElem h.lt
    exact (Array.getElem?_eq_some_iff.1 (hb.trans h5)).1
  · rintro b (h1 | ⟨j, y, v, hy, hv, hfo⟩)
    · exact .inl h1
    · rw [hc] at hv
      have hlt : j < vs.length := by rw [← h.rp.1]; exact (List.getElem?_eq_some_iff.1 hy).1
      have h2 := h.at_ j _ (List.getElem?_eq_getElem hlt)
      rw [hv] at h2
      cases h2
      exact .inr ⟨j, y, _, hy, hv, (key j y _ hy hv (h.rp.2 j y _ hy (List.getElem?_eq_getElem hlt))).2 b hfo⟩
theorem CellsAt.old {w : World} {a : Addr} {xs : List AC} {vs : List Value} {b : Nat} (h : CellsAt w a xs vs) (hf : footL w a xs b) : b < w.heap.size := by
  rcases hf with rfl | ⟨j, y, v, hy, hv, hfo⟩
  · exact h.lt
  · have hlt : j < vs.length := by rw [← h.rp.1]; exact (List.getElem?_eq_some_iff.1 hy).1
    have h2 := h.at_ j _ (List.getElem?_eq_getElem hlt)
    rw [hv] at h2
    cases h2
    have := h.rp.2 j y _ hy (List.getElem?_eq_getElem hlt)
    cases y with
    | c u => cases hfo
    | own k o => cases hfo
    | p R => exact R.old _ _ _ this.1 hfo
theorem CellsAt.sub {w : World} {a : Addr} {xs : List AC} {vs : List Value} (h : CellsAt w a xs vs) (off n : Nat) : CellsAt w (a.add off) ((xs.drop off).take n) ((vs.drop off).take n) := by
  refine ⟨by rw [block_add]; exact h.lt, h.rp.sub off n, fun j v hv => ?_, fun y hy => h.cl y (List.mem_of_mem_drop (List.mem_of_mem_take hy))⟩
  rw [add_add']
  have hj : j < n := by
    have := (List.getElem?_eq_some_iff.1 hv).1
    simp at this; omega
  rw [List.getElem?_take_of_lt hj, List.getElem?_drop] at hv
  exact h.at_ _ v hv
theorem footL.sub {w : World} {a : Addr} {xs : List AC} {off n b : Nat} (h : footL w (a.add off) ((xs.drop off).take n) b) : footL w a xs b := by
  rcases h with h | ⟨j, y, v, hy, hv, hfo⟩
  · rw [block_add] at h; exact .inl h
  · rw [add_add'] at hv
    have hj : j < n := by
      have := (List.getElem?_eq_some_iff.1 hy).1
      simp at this; omega
    rw [List.getElem?_take_of_lt hj, List.getElem?_drop] at hy
    exact .inr ⟨_, y, v, hy, hv, hfo⟩
theorem CellsAt.rpl {w : World} {a : Addr} {xs : List AC} {vs : List Value} {U : Nat → Prop} {ρ : Nat → Nat} (h : CellsAt w a xs vs) (hU : ∀ b, footL w a xs b → U b) : RpL U ρ w xs vs := by
  refine ⟨h.rp.1, fun i y v hy hv => ?_⟩
  have h1 := h.rp.2 i y v hy hv
  have h2 := h.cl y (List.mem_of_getElem? hy)
  cases y with
  | c u => exact h1
  | own k o => cases h2
  | p R => exact ⟨h1.1, fun b hb => hU b (.inr ⟨i, _, v, hy, h.at_ i v hv, hb⟩)⟩
/-- a pointer to cells. -/
def PtrP (xs : List AC) : SP where
  holds w v := ∃ a vs, v = .pointer (some a) ∧ CellsAt w a xs vs
  foot w v b := ∃ a, v = .pointer (some a) ∧ footL w a xs b
  frame w w' v := by
    rintro ⟨a, vs, rfl, h⟩ hf
    obtain ⟨h1, h2⟩ := h.frame fun b hb => hf b ⟨a, rfl, hb⟩
    exact ⟨⟨a, vs, rfl, h1⟩, fun b ⟨a', e, hb⟩ => by cases e; exact ⟨a, rfl, h2 b hb⟩⟩
  old w v b := by
    rintro ⟨a, vs, rfl, h⟩ ⟨a', e, hb⟩
    cases e
    exact h.old hb
  cell w v := by rintro ⟨a, vs, rfl, h⟩; rfl
/-- a slice of n things of sz cells each. -/
def SlP (sz n : Nat) (xs : List AC) : SP where
  holds w v := ∃ A c, v = .slice A n c ∧ n ≤ c ∧ xs.length = n * sz ∧ (0 < n → ∃ a vs, A = some a ∧ CellsAt w a xs vs)
  foot w v b := ∃ c a, v = .slice (some a) n c ∧ 0 < n ∧ footL w a xs b
  frame w w' v := by
    rintro ⟨A, c, rfl, hc, hl, h⟩ hf
    refine ⟨⟨A, c, rfl, hc, hl, fun hn => ?_⟩, ?_⟩
    · obtain ⟨a, vs, rfl, h'⟩ := h hn
      exact ⟨a, vs, rfl, (h'.frame fun b hb => hf b ⟨c, a, rfl, hn, hb⟩).1⟩
    · rintro b ⟨c', a', e, hn, hb⟩
      cases e
      obtain ⟨a, vs, e, h'⟩ := h hn
      cases e
      exact ⟨c, a', rfl, hn, (h'.frame fun b hb => hf b ⟨c, a', rfl, hn, hb⟩).2 b hb⟩
  old w v b := by
    rintro ⟨A, c, rfl, hc, hl, h⟩ ⟨c', a', e, hn, hb⟩
    cases e
    obtain ⟨a, vs, e, h'⟩ := h hn
    cases e
    exact h'.old hb
  cell w v := by rintro ⟨A, c, rfl, _⟩; rfl
abbrev vS (sz n : Nat) (xs : List AC) : AV := .w (.one (.p (SlP sz n xs)))
abbrev vPt (xs : List AC) : AV := .w (.one (.p (PtrP xs)))
theorem noownp (R : SP) (j : Nat) : ¬ (AV.w (.one (.p R))).owns j := fun ⟨y, hy, h⟩ => by simp [AW.cells] at hy; subst hy; cases h
section
variable {P : Program} {s : AS} {o : Oper} {ops : Array Oper} {K : AS → Prop} {rest : List Oper} {op : Op} {ty : Nat} {pos : String} {after : Array Edge} {guard : Option (Nat × Bool)} {d : Nat}
theorem al_fresh {av : AV} (hw : want ops ⟨some d, op, ty, pos, after, guard⟩ s = some true) (hq : FreshOK P s.look ⟨some d, op, ty, pos, after, guard⟩ av) (hd : Nat.blt d s.n = true) (h : aList P ops K rest (s.put (some d) av)) : aList P ops K (⟨some d, op, ty, pos, after, guard⟩ :: rest) s :=
  al_step (e := ⟨av, none⟩) hw (.fresh av hq) (dst_ok hd) h
theorem sliOf_spec {t sz : Nat} (h : sliOf P t = some sz) : ∃ e i, P.underlying t = some (.slice e) ∧ P.info? e = some i ∧ i.size = sz := by
  unfold sliOf at h
  split at h
  · rename_i e hu
    cases hi : P.info? e with
    | none => rw [hi] at h; cases h
    | some i => rw [hi] at h; cases h; exact ⟨e, i, hu, hi, rfl⟩
  · cases h
theorem elem_slice {t e : Nat} (h : P.underlying t = some (.slice e)) : P.elem t = e := by simp [Program.elem, h]
/-- len of a slice. -/
theorem al_len {t sz sz' n : Nat} {xs : List AC} {x : Operand} [S : SliOf P t sz'] (hw : want ops ⟨some d, .call ⟨.builtin .len, #[x], #[t]⟩, ty, pos, after, guard⟩ s = some true) (hx : s.look x = some (vS sz n xs)) (hd : Nat.blt d s.n = true)
    (h : aList P ops K rest (s.put (some d) (vI n))) : aList P ops K (⟨some d, .call ⟨.builtin .len, #[x], #[t]⟩, ty, pos, after, guard⟩ :: rest) s := by
  refine al_quiet (av := vI n) hw ⟨fun _ _ h => (by cases h), fun y hy => ?_, fun U ρ W env he => ⟨.int .i64 n, ?_, rfl, rfl⟩, fun j hj => absurd hj (noown _ j)⟩ hd h
  · simp [Op.operands, Call.operands] at hy
    subst hy
    exact ⟨_, hx⟩
  · obtain ⟨⟨A, c, e1, _⟩, _⟩ := he x (by simp [Op.operands, Call.operands]) _ hx
    obtain ⟨e, i, hu, hi, _⟩ := sliOf_spec S.h
    have hu' : P.underlying t = some (.slice (P.elem t)) := by rw [elem_slice hu]; exact hu
    have em : (#[x] : Array Operand).map env = #[.slice A n c] := by simp [e1]
    simp only [execOp, resolve, em, Sem.run_bind, Sem.run_pure, Result.andThen_ok, invoke, builtin]
    rw [run_len_slice W t ty A n c hu']
    rfl
/-- the address of a slice's thing. -/
theorem al_idxS {x y : Operand} {t sz n : Nat} {ik : IntKind} {i : Int} {xs ys : List AC} [S : SliOf P t sz] (hw : want ops ⟨some d, .indexAddr t x y, ty, pos, after, guard⟩ s = some true) (hx : s.look x = some (vS sz n xs)) (hy : s.look y = some (vC (.int ik i))) (h0 : 0 ≤ i) (h1 : i < n)
    (he : (xs.drop (i.toNat * sz)).take sz = ys) (hd : Nat.blt d s.n = true) (h : aList P ops K rest (s.put (some d) (vPt ys))) : aList P ops K (⟨some d, .indexAddr t x y, ty, pos, after, guard⟩ :: rest) s := by
  subst he
  refine al_quiet hw ⟨fun _ _ h => (by cases h), fun z hz => ?_, fun U ρ W env he => ?_, fun j hj => absurd hj (noownp _ j)⟩ hd h
  · simp [Op.operands] at hz
    rcases hz with rfl | rfl
    · exact ⟨_, hx⟩
    · exact ⟨_, hy⟩
  · obtain ⟨⟨A, c, e1, hc, hl, hA⟩, hU⟩ := he x (by simp [Op.operands]) _ hx
    have hi : env y = .int ik i := (he y (by simp [Op.operands]) _ hy).1
    obtain ⟨e, ti, hu, hi', hs⟩ := sliOf_spec S.h
    obtain ⟨a, vs, rfl, hcs⟩ := hA (by omega)
    refine ⟨.pointer (some (a.add (i.toNat * sz))), ?_, ⟨_, _, rfl, hcs.sub _ _⟩, ?_⟩
    · simp only [execOp, Instr.indexAt, e1, hi, asIntOf, Sem.run_bind, Sem.run_pure, Result.andThen_ok, run_underlying hu, run_sizeOf' hi', if_pos (And.intro h0 h1), hs]
    · rintro b ⟨a', e, hb⟩
      cases e
      exact hU b ⟨c, a, e1, by omega, hb.sub⟩
/-- what is pointed to: one cell; several. -/
theorem al_loadP1 {x : Operand} {lt n : Nat} {xs : List AC} {y : AC} [T : TyOf P lt false n] (hw : want ops ⟨some d, .load lt x, ty, pos, after, guard⟩ s = some true) (hx : s.look x = some (vPt xs)) (hc : xs[0]? = some y) (hcl : y.closedB = true) (hd : Nat.blt d s.n = true) (h : aList P ops K rest (s.put (some d) (.w (.one y)))) : aList P ops K (⟨some d, .load lt x, ty, pos, after, guard⟩ :: rest) s := by
  refine al_quiet hw ⟨fun _ _ h => (by cases h), fun y hy => ?_, fun U ρ W env he => ?_, fun j hj => ?_⟩ hd h
  · simp [Op.operands] at hy
    subst hy
    exact ⟨_, hx⟩
  · obtain ⟨⟨a, vs, e1, hcs⟩, hU⟩ := he x (by simp [Op.operands]) _ hx
    have hr := hcs.rpl (U := U) (ρ := ρ) fun b hb => hU b ⟨a, e1, hb⟩
    have hlt : 0 < vs.length := by rw [← hr.1]; exact (List.getElem?_eq_some_iff.1 hc).1
    have hv := List.getElem?_eq_getElem hlt
    refine ⟨_, ?_, hr.2 0 y _ hc hv⟩
    have hT := T.h
    have hcell : W.cell? a = some vs[0] := hcs.at_ 0 _ hv
    unfold tyOf at hT
    cases hu : P.underlying lt with
    | none => rw [hu] at hT; cases hT
    | some D =>
      have key : (loadVar lt a).run P W = .ok vs[0] W := by
        refine run_loadVar_one hu (fun fs e => ?_) (fun m e' e => ?_) hcell
        · subst e
          cases hi : P.info? lt with
          | none => simp [hu, hi] at hT
          | some ti => simp [hu, hi] at hT
        · subst e
          cases hi : P.info? lt with
          | none => simp [hu, hi] at hT
          | some ti => simp [hu, hi] at hT
      simp only [execOp, Instr.loadAt, e1, Instr.sureAddr, Sem.run_bind, Sem.run_pure, Result.andThen_ok, key]
  · exact absurd hj (AV.closed_of (x := .w (.one y)) hcl j)
theorem al_loadPN {x : Operand} {lt n : Nat} {xs ys : List AC} [T : TyOf P lt true n] (hw : want ops ⟨some d, .load lt x, ty, pos, after, guard⟩ s = some true) (hx : s.look x = some (vPt xs)) (hc : takeN xs 0 n = some ys) (hcl : (AW.agg ys).closedB = true) (hd : Nat.blt d s.n = true) (h : aList P ops K rest (s.put (some d) (.w (.agg ys)))) : aList P ops K (⟨some d, .load lt x, ty, pos, after, guard⟩ :: rest) s := by
  refine al_quiet hw ⟨fun _ _ h => (by cases h), fun y hy => ?_, fun U ρ W env he => ?_, fun j hj => ?_⟩ hd h
  · simp [Op.operands] at hy
    subst hy
    exact ⟨_, hx⟩
  · obtain ⟨⟨a, vs, e1, hcs⟩, hU⟩ := he x (by simp [Op.operands]) _ hx
    obtain ⟨q1, q2⟩ := takeN_spec _ _ _ _ hc
    have hsub := hcs.sub 0 n
    have hr := hsub.rpl (U := U) (ρ := ρ) fun b hb => hU b ⟨a, e1, footL.sub hb⟩
    rw [q2] at hr
    have ha : a.add 0 = a := rfl
    refine ⟨.agg ((vs.drop 0).take n).toArray, ?_, _, rfl, hr⟩
    have hT := T.h
    unfold tyOf at hT
    have hlen : ((vs.drop 0).take n).length = n := by have := hcs.rp.1; simp; omega
    have hcell := hsub.at_
    rw [ha] at hcell
    cases hu : P.underlying lt with
    | none => rw [hu] at hT; cases hT
    | some D =>
      cases hi : P.info? lt with
      | none => rw [hu, hi] at hT; cases D <;> cases hT
      | some ti =>
        rw [hu, hi] at hT
        have key : ((∃ fs, D = .struct fs) ∨ ∃ n e, D = .array n e) ∧ ti.size = n := by cases D <;> simp at hT <;> simp [hT]
        have := run_loadVar_agg (P := P) (w := W) (A := a) hu key.1 hi (by rw [hlen, key.2]) hcell
        simp only [execOp, Instr.loadAt, e1, Instr.sureAddr, Sem.run_bind, Sem.run_pure, Result.andThen_ok, this]
  · exact absurd hj (AV.closed_of (x := .w (.agg ys)) hcl j)
/-- a slice that is written down. -/
def sliZ (P : Program) (t : TypeId) : Option (List Value) :=
  match P.underlying t with
  | some (.slice e) => zeroOf P e
  | _ => none
class SliZ (P : Program) (t : TypeId) (vs : outParam (List Value)) : Prop where
  h : sliZ P t = some vs
def zeroN (n sz : Nat) (vs : List Value) : List AC := (List.range (n * sz)).map fun j => .c (vs.toArray[j % vs.length]!)
def plcN (n sz : Nat) : List (Nat × Nat) := (List.range n).map fun i => (i * sz, sz)
theorem alloc_cellsAt {w : World} {rs : List AC} {us : List Value} {ty : TypeId} {U : Nat → Prop} {ρ : Nat → Nat} (h : RpL U ρ w rs us) (hcl : ∀ y ∈ rs, y.closedB = true) : CellsAt (w.alloc (.cells us.toArray ty)) ⟨w.heap.size, 0, none⟩ rs us := by
  refine ⟨by show w.heap.size < (w.heap.push _).size; simp, ⟨h.1, fun i y v hy hv => ?_⟩, fun j v hv => ?_, hcl⟩
  · refine (h.2 i y v hy hv).map (fun b hb hl => ⟨trivial, Below.heap_alloc _ _ _ hl⟩) fun j hj => ?_
    exact absurd hj (AC.closed_of (hcl y (List.mem_of_getElem? hy)) j)
  · have hadd : (⟨w.heap.size, 0, none⟩ : Addr).add j = ⟨w.heap.size, j, none⟩ := by unfold Addr.add; split <;> simp_all
    rw [hadd]
    have : (w.alloc (.cells us.toArray ty)).heap[w.heap.size]? = some (.cells us.toArray ty (0, 0)) := by show (w.heap.push _)[w.heap.size]? = _; simp
    simp only [World.cell?, this]
    simpa using hv
theorem alloc_foot {w : World} {rs : List AC} {us : List Value} {ty : TypeId} {U : Nat → Prop} {ρ : Nat → Nat} {b : Nat} (h : RpL U ρ w rs us) (hf : footL (w.alloc (.cells us.toArray ty)) ⟨w.heap.size, 0, none⟩ rs b) : U b ∨ w.heap.size ≤ b := by
  rcases hf with rfl | ⟨j, y, v, hy, hv, hfo⟩
  · exact .inr (Nat.le_refl _)
  · have hadd : (⟨w.heap.size, 0, none⟩ : Addr).add j = ⟨w.heap.size, j, none⟩ := by unfold Addr.add; split <;> simp_all
    rw [hadd] at hv
    have : (w.alloc (.cells us.toArray ty)).heap[w.heap.size]? = some (.cells us.toArray ty (0, 0)) := by show (w.heap.push _)[w.heap.size]? = _; simp
    simp only [World.cell?, this] at hv
    have hv' : us[j]? = some v := by simpa using hv
    have hr := h.2 j y v hy hv'
    cases y with
    | c u => cases hfo
    | own k o => cases hfo
    | p R =>
      refine .inl (hr.2 b ?_)
      exact (R.frame w _ v hr.1 fun b' hb' => Below.heap_alloc _ _ _ (R.old _ _ _ hr.1 hb')).2 b hfo
theorem al_bslice {t n sz : Nat} {parts : List (Nat × Operand)} {vs : List Value} {zs : List (Nat × AW)} {r : List AC} [S : SliOf P t sz] [Z : SliZ P t vs] (hw : want ops ⟨some d, .buildSlice t n parts.toArray, ty, pos, after, guard⟩ s = some true) (hz : lookP s.look parts = some zs) (hb : buildN (plcN n sz) (zeroN n sz vs) zs = some r)
    (h1 : (vs.all fun v => v.oneCell') = true) (hs : Nat.beq vs.length sz = true) (h0 : Nat.blt 0 (n * sz) = true) (h2 : Nat.ble (n * sz) 16777216 = true) (hr : Nat.beq r.length (n * sz) = true) (hcl : r.all AC.closedB = true) (hd : Nat.blt d s.n = true) (h : aList P ops K rest (s.put (some d) (vS sz n r))) : aList P ops K (⟨some d, .buildSlice t n parts.toArray, ty, pos, after, guard⟩ :: rest) s := by
  refine al_fresh (av := vS sz n r) hw ⟨fun z hz' => ?_, fun j hj => noownp _ j hj, fun U ρ W env he => ?_⟩ hd h
  · simp only [Op.operands, List.mem_toArray, List.mem_map] at hz'
    obtain ⟨p, hp, rfl⟩ := hz'
    obtain ⟨z, h1, _⟩ := lookP_mem parts zs hz p hp
    exact ⟨_, h1⟩
  · obtain ⟨e, i, hu, hi, hsz⟩ := sliOf_spec S.h
    have hZ := Z.h
    unfold sliZ at hZ
    rw [hu] at hZ
    simp only at hZ
    unfold zeroOf at hZ
    rw [hi] at hZ
    simp only [Option.bind_some] at hZ
    cases hzz : i.zero with
    | none => rw [hzz] at hZ; cases hZ
    | some z =>
      rw [hzz] at hZ
      cases hZ
      have hlen : z.cells.toList.length = sz := Nat.eq_of_beq_eq_true hs
      have h0' : 0 < n * sz := by simpa [Nat.blt_eq] using h0
      have h2' : n * sz ≤ 16777216 := by simpa [Nat.ble_eq] using h2
      have hr' : r.length = n * sz := Nat.eq_of_beq_eq_true hr
      have hcl' : ∀ y ∈ r, y.closedB = true := List.all_eq_true.1 hcl
      have hzv : (zeroValue e).run P W = .ok z W := by simp [zeroValue, typeInfo, program, Sem.run_bind, Sem.run, hi, Result.andThen, hzz]
      have hrl : RpL U ρ W (zeroN n sz z.cells.toList) ((List.range (n * sz)).map fun j => z.cells[j % z.cells.size]!) := by
        refine ⟨by simp [zeroN], fun j x v hx hv => ?_⟩
        have hj : j < n * sz := by have := (List.getElem?_eq_some_iff.1 hv).1; simpa using this
        simp only [zeroN, List.getElem?_map, List.getElem?_range hj, Option.map_some, Option.some.injEq] at hx hv
        subst hx; subst hv
        have hzl : z.cells.size = sz := by simpa using hlen
        have hpos : 0 < sz := Nat.pos_of_mul_pos_left h0' |> fun h => by
          rcases Nat.eq_zero_or_pos sz with q | q
          · rw [q] at h0'; simp at h0'
          · exact q
        have hlt : j % z.cells.size < z.cells.size := Nat.mod_lt _ (by omega)
        have e2 : z.cells.toList.toArray[j % z.cells.toList.length]! = z.cells[j % z.cells.size]! := by simp
        refine ⟨e2.symm, ?_⟩
        rw [e2, getElem!_pos z.cells _ hlt]
        exact List.all_eq_true.1 h1 _ (by simp)
      obtain ⟨us, g1, g2⟩ := fill_sound (U := U) (ρ := ρ) (W := W) (ps := plcN n sz) (place := fun i => some (i * sz, sz)) (fun i q hq => by
          simp only [plcN, List.getElem?_map] at hq
          cases hr : (List.range n)[i]? with
          | none => rw [hr] at hq; cases hq
          | some m =>
            rw [hr] at hq
            cases hq
            have := List.getElem?_eq_some_iff.1 hr
            obtain ⟨h3, h4⟩ := this
            simp at h4
            rw [h4]) (look := s.look) (env := env) parts _ _ zs r hrl hz (fun p hp a ha => he p.2 (by simp only [Op.operands, List.mem_toArray, List.mem_map]; exact ⟨p, hp, rfl⟩) a ha) hb
      refine ⟨.slice (some ⟨W.heap.size, 0, none⟩) n n, W.alloc (.cells us.toArray e), ?_, ⟨⟨some ⟨W.heap.size, 0, none⟩, n, rfl, Nat.le_refl _, hr', fun hn => ⟨_, us, rfl, alloc_cellsAt g2 hcl'⟩⟩, ?_⟩, (Below.refl _ _).alloc (Nat.le_refl _) _⟩
      · have hparts : (parts.toArray.map fun (i, x) => (i, env x)).toList = parts.map fun p => (p.1, env p.2) := by simp
        have e3 : (Array.range (n * sz)).map (fun j => z.cells[j % z.cells.size]!) = ((List.range (n * sz)).map fun j => z.cells[j % z.cells.size]!).toArray := by simp [← List.toArray_range]
        simp only [execOp, Instr.buildSlice, Sem.run_bind, run_underlying hu, Result.andThen_ok, run_sizeOf' hi, hsz]
        rw [if_neg (by omega), if_neg (by omega)]
        simp only [Sem.run_bind, Sem.run_pure, hzv, Result.andThen_ok, e3, hparts, g1, newRow, newObj, Sem.run]
        rfl
      · rintro b ⟨c, a, e, hn, hb⟩
        cases e
        exact alloc_foot g2 hb
end
/-! states told by lists -/
def lkp {α : Type} : List (Nat × α) → Nat → Option α
  | [], _ => none
  | (k, v) :: r, t => bif Nat.beq t k then some v else lkp r t
def mkS (n : Nat) (ts : List (Nat × AV)) (ms : List (Nat × List AC)) : AS := ⟨n, lkp ts, lkp ms⟩
def allT {α : Type} (f : Nat → Option α) : List (Nat × α) → Prop
  | [] => True
  | (k, v) :: r => f k = some v ∧ allT f r
theorem allT_lkp {α : Type} {f : Nat → Option α} : ∀ (l : List (Nat × α)), allT f l → ∀ t v, lkp l t = some v → f t = some v
  | [], _, t, v, h => by cases h
  | (k, u) :: r, ha, t, v, h => by
    simp only [lkp] at h
    cases hb : Nat.beq t k with
    | true => rw [hb] at h; cases h; rw [Nat.eq_of_beq_eq_true hb]; exact ha.1
    | false => rw [hb] at h; exact allT_lkp r ha.2 t v h
theorem mkS_le {s : AS} {n : Nat} {ts : List (Nat × AV)} {ms : List (Nat × List AC)} (hn : n = s.n) (ht : allT s.tmps ts) (hm : allT s.mem ms) : s.Le (mkS n ts ms) :=
  ⟨hn, allT_lkp ts ht, allT_lkp ms hm⟩
def keyB {α : Type} (ms : List (Nat × α)) (k : Nat) : Bool := ms.any fun p => Nat.beq k p.1
def acOkB (ms : List (Nat × List AC)) : AC → Bool
  | .own k _ => keyB ms k
  | _ => true
def avOkB (ms : List (Nat × List AC)) : AV → Bool
  | .w x => x.cells.all (acOkB ms)
  | .tup xs => xs.all fun x => x.cells.all (acOkB ms)
def okB (ts : List (Nat × AV)) (ms : List (Nat × List AC)) : Bool := ts.all (fun p => avOkB ms p.2) && ms.all fun p => p.2.all (acOkB ms)
theorem keyB_lkp {α : Type} {k : Nat} : ∀ (ms : List (Nat × α)), keyB ms k = true → ∃ v, lkp ms k = some v
  | [], h => by cases h
  | (j, u) :: r, h => by
    simp only [keyB, List.any_cons, Bool.or_eq_true] at h
    simp only [lkp]
    cases hb : Nat.beq k j with
    | true => exact ⟨u, rfl⟩
    | false => rw [hb] at h; exact keyB_lkp r (by simpa [keyB] using h)
theorem lkp_mem {α : Type} {k : Nat} {v : α} : ∀ (ms : List (Nat × α)), lkp ms k = some v → (k, v) ∈ ms
  | [], h => by cases h
  | (j, u) :: r, h => by
    simp only [lkp] at h
    cases hb : Nat.beq k j with
    | true => rw [hb] at h; cases h; rw [Nat.eq_of_beq_eq_true hb]; simp
    | false => rw [hb] at h; exact List.mem_cons_of_mem _ (lkp_mem r h)
theorem acOkB_spec {ms : List (Nat × List AC)} {x : AC} {j : Nat} (h : acOkB ms x = true) (hj : x.owns j) : ∃ cs, lkp ms j = some cs := by
  cases x with
  | c v => cases hj
  | p R => cases hj
  | own k o => cases hj; exact keyB_lkp ms h
theorem mkS_ok {n : Nat} {ts : List (Nat × AV)} {ms : List (Nat × List AC)} (h : okB ts ms = true) : (mkS n ts ms).Ok := by
  unfold okB at h
  rw [Bool.and_eq_true] at h
  refine ⟨fun t av j ht hj => ?_, fun k cs x j hk hx hj => ?_⟩
  · have h1 := List.all_eq_true.1 h.1 _ (lkp_mem ts ht)
    cases av with
    | w x =>
      obtain ⟨y, hy, hyj⟩ := hj
      exact acOkB_spec (List.all_eq_true.1 h1 y hy) hyj
    | tup xs =>
      obtain ⟨z, hz, y, hy, hyj⟩ := hj
      exact acOkB_spec (List.all_eq_true.1 (List.all_eq_true.1 h1 z hz) y hy) hyj
  · have h1 := List.all_eq_true.1 h.2 _ (lkp_mem ms hk)
    exact acOkB_spec (List.all_eq_true.1 h1 x hx) hj
section
variable {P : Program} {s : AS} {x : Code}
/-- a loop whose state is told by lists: I k ts ms holds ahead of each round, k falling. -/
theorem awp_loopL {Q : Exit → AS → Prop} (N : Nat) (I : Nat → List (Nat × AV) → List (Nat × List AC) → Prop) (k : Nat) (ts : List (Nat × AV)) (ms : List (Nat × List AC)) (hI : I k ts ms) (hn : N = s.n) (ht : allT s.tmps ts) (hm : allT s.mem ms) (ok : okB ts ms = true)
    (round : ∀ k ts ms, I k ts ms → okB ts ms = true → AWp P x (athen (fun s' => ∃ k' ts' ms', k' < k ∧ I k' ts' ms' ∧ N = s'.n ∧ allT s'.tmps ts' ∧ allT s'.mem ms' ∧ okB ts' ms' = true) Q) (mkS N ts ms)) : AWp P (.loop x) Q s := by
  refine awp_loop (fun k s => ∃ ts ms, I k ts ms ∧ okB ts ms = true ∧ s = mkS N ts ms) k (mkS N ts ms) (mkS_le hn ht hm) (mkS_ok ok) ⟨ts, ms, hI, ok, rfl⟩ ?_
  rintro k s ⟨ts, ms, hI, ok, rfl⟩
  intro ok' B A ρ a w hR
  refine wR_mono (round k ts ms hI ok ok' B A ρ a w hR) ?_
  rintro e a' w' ⟨s', ρ', ok'', hR', hq⟩
  refine ⟨s', ρ', ok'', hR', ?_⟩
  cases e with
  | normal =>
    obtain ⟨k', ts', ms', h1, h2, h3, h4, h5, h6⟩ := hq
    exact ⟨k', h1, mkS N ts' ms', mkS_le h3 h4 h5, mkS_ok h6, ts', ms', h2, h6, rfl⟩
  | _ => exact hq
/-- a loop, round by round: no more than n rounds. -/
def roll (P : Program) (x : Code) (Q : Exit → AS → Prop) : Nat → AS → Prop
  | 0, _ => False
  | n + 1, s => AWp P x (athen (roll P x Q n) Q) s
end
end Go.Proofs.Ytlfkllmnekdghaa

namespace Go.Proofs.Ytlfkllmnekdghaa
open Go.RowKit
set_option linter.unusedVariables false
set_option linter.unusedSimpArgs false
/-- the hot row: its slice, how many things, their cells. -/
structure Hot where
  v : Value
  n : Nat
  xs : List Value
section
variable {P : Program} {B B' : Base} {A A' : Nat → Prop} {s s' : AS} {ρ : Nat → Nat} {a : Act} {w w' : World}
/-- the state is told anew: of another base, in another world. -/
theorem Rel.anew (h : Rel B A s ρ a w) (hU : ∀ b, A b → b < w.heap.size → A' b ∧ w'.heap[b]? = w.heap[b]?) (hown : ∀ k cs, s.mem k = some cs → w'.heap[ρ k]? = w.heap[ρ k]? ∧ ¬ B'.F (ρ k)) (hbel : BelowB B' w') (hup : ∀ b, B'.W.heap.size ≤ b → A' b) (han : Anch B' s ρ) (hmk : B'.marks = B.marks := by rfl) : Rel B' A' s ρ a w' := by
  have hU' : ∀ b, s.free A ρ b → b < w.heap.size → s.free A' ρ b ∧ w'.heap[b]? = w.heap[b]? := fun b hb hl => ⟨⟨(hU b hb.1 hl).1, hb.2⟩, (hU b hb.1 hl).2⟩
  refine ⟨h.nodef.trans hmk.symm, h.size, fun t av ht => ?_, fun k cs hk => ?_, h.inj, hbel, hup, han⟩
  · obtain ⟨v, h1, h2⟩ := h.tm t av ht
    exact ⟨v, h1, h2.map hU' fun _ _ => rfl⟩
  · obtain ⟨vs, ty, h1, h2, h3⟩ := h.mm k cs hk
    exact ⟨vs, ty, by rw [(hown k cs hk).1]; exact h1, h2.map hU' fun _ _ _ _ => rfl, (hown k cs hk).2⟩
theorem Rel.retell {d : Nat} {av bv : AV} (h : Rel B A s ρ a w) (hd : s.tmps d = some bv) (hv : ∀ v, a.tmps[d]? = some v → RpV (s.free A ρ) ρ w bv v → RpV (s.free A ρ) ρ w av v) : Rel B A (s.put (some d) av) ρ a w := by
  refine ⟨h.nodef, h.size, fun t cv ht => ?_, h.mm, h.inj, h.below, h.up, h.anch⟩
  simp only [AS.put] at ht
  by_cases e : t = d
  · subst e
    rw [upd_same] at ht
    cases ht
    obtain ⟨v, h1, h2⟩ := h.tm t bv hd
    exact ⟨v, h1, hv v h1 h2⟩
  · rw [upd_ne _ _ e] at ht
    exact h.tm t cv ht
/-- all that there is but the frame's own blocks. -/
def hbase (B : Base) (s : AS) (ρ : Nat → Nat) (w : World) : Base := ⟨w, fun b => b < w.heap.size ∧ ∀ k cs, s.mem k = some cs → ρ k ≠ b, fun _ h => h.1, fun k => if s.n ≤ k then some (ρ k) else none, B.marks⟩
theorem hbase_anch {B : Base} (s : AS) (ρ : Nat → Nat) (w : World) : Anch (hbase B s ρ w) s ρ := fun k b hk => by
  simp only [hbase] at hk
  split at hk
  · rename_i h; exact ⟨h, Option.some.inj hk⟩
  · cases hk
theorem anch_next {B0 : Base} {s s' : AS} {ρ ρ' : Nat → Nat} {w w' : World} {A : Nat → Prop} {a' : Act} (h : Anch B0 s ρ) (hR' : Rel (hbase B0 s ρ w) A s' ρ' a' w') : Anch B0 s' ρ' := fun k b hk => by
  obtain ⟨h1, h2⟩ := h k b hk
  obtain ⟨h3, h4⟩ := hR'.anch k (ρ k) (by simp [hbase, h1])
  exact ⟨h3, h4.trans h2⟩
theorem Rel.hot (h : Rel B A s ρ a w) (hup : ∀ b, w.heap.size ≤ b → A b) : Rel (hbase B s ρ w) A s ρ a w :=
  h.anew (fun b h _ => ⟨h, rfl⟩) (fun k cs hk => ⟨rfl, fun hf => hf.2 k cs hk rfl⟩) (BelowB.refl _) hup (hbase_anch _ _ _)
theorem ownsRow_kept {base : Nat} {e : TypeId} {sz : Nat} {v : Value} {n : Nat} {xs : List Value} (h : w.ownsRow base e sz v n xs) (hg : ∀ g, v.ownBlock = some g → w'.heap[g]? = w.heap[g]?) : w'.ownsRow base e sz v n xs := by
  refine ⟨h.1, ?_⟩
  rcases h.2 with hn | ⟨g, cap, cur, rfl, hb, hgg, rest⟩
  · exact .inl hn
  · exact .inr ⟨g, cap, cur, rfl, hb, (hg g rfl).trans hgg, rest⟩
end
/-- what holds of a frame with a hot row: the row is no one's but the frame's. -/
def HRel (B0 : Base) (A0 : Nat → Prop) (e sz : Nat) (t : Hot) (s : AS) (a : Act) (w : World) : Prop :=
  ∃ A ρ, (∀ b, A b → A0 b) ∧ Rel (hbase B0 s ρ w) A s ρ a w ∧ (∀ k cs, s.mem k = some cs → ¬ B0.F (ρ k)) ∧ BelowB B0 w ∧ w.ownsRow B0.W.heap.size e sz t.v t.n t.xs ∧ (∀ g, t.v.ownBlock = some g → ¬ A g ∧ ∀ k cs, s.mem k = some cs → ρ k ≠ g) ∧ (∀ u ∈ t.xs, u.oneCell' = true) ∧ Anch B0 s ρ
def HWp (P : Program) (e sz : Nat) (c : Code) (Q : Exit → Hot → AS → Prop) (t : Hot) (s : AS) : Prop :=
  s.Ok → ∀ (B0 : Base) A0 a w, (∀ b, B0.W.heap.size ≤ b → A0 b) → HRel B0 A0 e sz t s a w → wR P c (fun x a' w' => ∃ t' s', s'.Ok ∧ HRel B0 A0 e sz t' s' a' w' ∧ Q x t' s') a w
def hthen (next : Hot → AS → Prop) (Q : Exit → Hot → AS → Prop) : Exit → Hot → AS → Prop
  | .normal, t, s => next t s
  | e, t, s => Q e t s
def hblock (id : Nat) (Q : Exit → Hot → AS → Prop) : Exit → Hot → AS → Prop
  | .exit id', t, s => bif Nat.beq id' id then Q .normal t s else Q (.exit id') t s
  | e, t, s => Q e t s
section
variable {P : Program} {e sz : Nat} {t : Hot} {s : AS} {Q : Exit → Hot → AS → Prop} {x y c : Code}
theorem HRel.le {B0 : Base} {A0 : Nat → Prop} {s' : AS} {a : Act} {w : World} (h : HRel B0 A0 e sz t s a w) (l : s.Le s') : HRel B0 A0 e sz t s' a w := by
  obtain ⟨A, ρ, hA, hR, hown, hb, ho, hg, h1, han⟩ := h
  exact ⟨A, ρ, hA, (hR.le l).hot hR.up, fun k cs hk => hown k cs (l.mm k cs hk), hb, ho, fun g q => ⟨(hg g q).1, fun k cs hk => (hg g q).2 k cs (l.mm k cs hk)⟩, h1, fun k b hk => by rw [l.n]; exact han k b hk⟩
theorem HRel.next {B0 : Base} {A0 A : Nat → Prop} {ρ ρ' : Nat → Nat} {a' : Act} {w w' : World} {s' : AS} (hA : ∀ b, A b → A0 b) (hown : ∀ k cs, s.mem k = some cs → ¬ B0.F (ρ k)) (hb : BelowB B0 w) (ho : w.ownsRow B0.W.heap.size e sz t.v t.n t.xs) (hg : ∀ g, t.v.ownBlock = some g → ¬ A g ∧ ∀ k cs, s.mem k = some cs → ρ k ≠ g) (h1 : ∀ u ∈ t.xs, u.oneCell' = true) (han : Anch B0 s ρ)
    (hR' : Rel (hbase B0 s ρ w) A s' ρ' a' w') : HRel B0 A0 e sz t s' a' w' := by
  have hcase : ∀ k cs, s'.mem k = some cs → w.heap.size ≤ ρ' k ∨ ∃ j cs, s.mem j = some cs ∧ ρ j = ρ' k := by
    intro k cs hk
    obtain ⟨_, _, _, _, hF⟩ := hR'.mm k cs hk
    rcases Nat.lt_or_ge (ρ' k) w.heap.size with hl | hl
    · exact .inr (Classical.byContradiction fun hn => hF ⟨hl, fun j cs hj e => hn ⟨j, cs, hj, e⟩⟩)
    · exact .inl hl
  refine ⟨A, ρ', hA, hR'.hot fun b h => hR'.up b (Nat.le_trans hR'.below.size h), fun k cs hk hf => ?_, ⟨hR'.below.os.trans hb.os, hR'.below.tape.trans hb.tape, hR'.below.output.trans hb.output, Nat.le_trans hb.size hR'.below.size, fun b hf => ?_⟩, ownsRow_kept ho fun g q => ?_, fun g q => ⟨(hg g q).1, fun k cs hk he => ?_⟩, h1, anch_next han hR'⟩
  · rcases hcase k cs hk with h | ⟨j, cs', hj, e⟩
    · have := B0.lt _ hf; have := hb.size; omega
    · rw [← e] at hf; exact hown j cs' hj hf
  · exact (hR'.below.block b ⟨Nat.lt_of_lt_of_le (B0.lt b hf) hb.size, fun k cs hk e => hown k cs hk (by rw [e]; exact hf)⟩).trans (hb.block b hf)
  · exact hR'.below.block g ⟨(ho.lt g q).2, (hg g q).2⟩
  · rcases hcase k cs hk with h | ⟨j, cs', hj, e⟩
    · have := (ho.lt g q).2; omega
    · exact (hg g q).2 j cs' hj (e.trans he)
/-- append onto a row of one's own: it stays where it is, or lies in new memory. -/
theorem run_append_own2 (w : World) (base : Nat) (t ty e : TypeId) (i : TypeInfo) (z : Value) (size bytes : Nat) (ht : P.underlying t = some (.slice e)) (hi : P.info? e = some i) (hz : i.zero = some z)
    (hsize : i.size = size) (hby : i.bytes = bytes) (hzs : z.cells.size = size) (hsz : 0 < size)
    (v : Value) (n : Nat) (xs : List Value) (hown : w.ownsRow base e size v n xs)
    (a : Addr) (m c : Nat) (news : List Value) (hl : news.length = m * size) (hnews : ∀ j u, news[j]? = some u → w.cell? (a.add j) = some u) (h1 : ∀ u ∈ news, u.oneCell' = true)
    (h63 : n + m ≤ maxLen) (hbytes : (n + m) * bytes ≤ 140737488355328) (hbase : base ≤ w.heap.size) (hm : 0 < m) :
    ∃ v' w', (Builtin.append_ #[t, t] ty #[v, .slice (some a) m c]).run P w = .ok v' w' ∧ w'.ownsRow base e size v' (n + m) (xs ++ news) ∧ w.grownBy w' v.ownBlock ∧ (∀ g, v'.ownBlock = some g → v.ownBlock = some g ∨ w.heap.size ≤ g) ∧ v'.oneCell' = true := by
  obtain ⟨v', w', hr, h2, h3, h4⟩ := run_append_own (P := P) w base t ty e i z size bytes ht hi hz hsize hby hzs hsz v n xs hown a m c news hl hnews h1 h63 hbytes hbase
  refine ⟨v', w', hr, h2, h3, ?_, ?_⟩
  · have hsmall : n + m ≤ 9223372036854775807 := by simp only [maxLen] at h63; omega
    rcases hown.2 with ⟨rfl, rfl⟩ | ⟨g, cap, cur, rfl, hbg, hg, hnc, hcm, hcs, htake⟩
    · have hx : xs = [] := List.eq_nil_of_length_eq_zero (by simpa using hown.1)
      subst hx
      have := run_append_nil (P := P) w t ty e i z ht hi hz a m c news (by rw [hsize]; exact hl) hnews hm (by omega) (by rw [hby]; simp only [Nat.zero_add] at hbytes; omega)
      rw [this] at hr
      cases hr
      intro g hg
      simp [Value.ownBlock] at hg
      exact .inr (by omega)
    · by_cases hroom : n + m ≤ cap
      · have hfit : n * i.size + news.length ≤ cur.size := by rw [hsize, hl, hcs, ← Nat.add_mul]; exact Nat.mul_le_mul_right _ hroom
        have := run_append_room (P := P) w t ty e i ht hi g n cap cur hg a m c news (by rw [hsize]; exact hl) hnews h1 hroom hfit
        rw [this] at hr
        cases hr
        intro g' hg'
        exact .inl hg'
      · have holds : ∀ j u, xs[j]? = some u → w.cell? ((⟨g, 0, none⟩ : Addr).add j) = some u := hown.cells (g := g) rfl
        have := run_append_grow (P := P) w t ty e i z ht hi hz ⟨g, 0, none⟩ n cap xs (by rw [hsize]; exact hown.1) holds a m c news (by rw [hsize]; exact hl) hnews (by omega) (by omega) (growslice_fits (by omega) (by rw [hby]; exact hbytes))
        rw [this] at hr
        cases hr
        intro g' hg'
        simp [Value.ownBlock] at hg'
        exact .inr (by omega)
  · rcases h2.2 with ⟨rfl, _⟩ | ⟨g, cap, cur, rfl, _⟩ <;> rfl
theorem aList_then {ro : Option Nat} {B : Base} {A : Nat → Prop} {ops : Array Oper} {K : AS → Prop} {Q : Exit → Act → World → Prop} {r : List Nat} (hQ : ∀ s' ρ' a' w', s'.Ok → Rel B A s' ρ' a' w' → K s' → wpOpsIn (Wd ro) 0 P ops Q r a' w') : ∀ (l : List Oper) (k : Nat) (s : AS) (ρ : Nat → Nat) (a : Act) (w : World), (∀ (j : Nat), j < l.length → l[j]? = ops[k + j]?) → s.Ok → Rel B A s ρ a w →
    aList P ops K l s → wpOpsIn (Wd ro) 0 P ops Q ((List.range l.length).map (k + ·) ++ r) a w
  | [], _, _, _, _, _, _, ok, hR, h => hQ _ _ _ _ ok hR h
  | o :: l, k, s, ρ, a, w, hl, ok, hR, h => by
    have h0 : ops[k]? = some o := by simpa using (hl 0 (by simp)).symm
    have e : (List.range (o :: l).length).map (k + ·) = k :: (List.range l.length).map (k + 1 + ·) := by
      rw [List.length_cons, List.range_succ_eq_map, List.map_cons, List.map_map]
      congr 1
      apply List.map_congr_left
      intro j _
      simp [Nat.add_assoc, Nat.add_comm 1 j]
    rw [e, List.cons_append, wpOpsIn_cons]
    refine aOp_sound h0 ok hR h fun s' ρ' a' w' ok' hR' hk => aList_then hQ l (k + 1) s' ρ' a' w' (fun j hj => by have := hl (j + 1) (by simp; omega); simpa [Nat.add_assoc, Nat.add_comm 1 j] using this) ok' hR' hk
/-- the type of a row's things: what an append asks of it. -/
def rowTyB (P : Program) (tt e sz bytes : Nat) : Bool := match P.underlying tt, P.info? e with
  | some (.slice e'), some i => match i.zero with
    | some z => Nat.beq e' e && Nat.beq i.size sz && Nat.beq i.bytes bytes && Nat.beq z.cells.size sz && Nat.blt 0 sz
    | none => false
  | _, _ => false
class RowTy (P : Program) (tt : TypeId) (e sz bytes : outParam Nat) : Prop where
  h : rowTyB P tt e sz bytes = true
theorem rowTy_spec {tt e sz bytes : Nat} (h : rowTyB P tt e sz bytes = true) : ∃ (i : TypeInfo) (z : Value), P.underlying tt = some (.slice e) ∧ P.info? e = some i ∧ i.zero = some z ∧ i.size = sz ∧ i.bytes = bytes ∧ z.cells.size = sz ∧ 0 < sz := by
  unfold rowTyB at h
  split at h
  · rename_i e' i hu hi
    split at h
    · rename_i z hz
      simp only [Bool.and_eq_true] at h
      obtain ⟨⟨⟨⟨h1, h2⟩, h3⟩, h4⟩, h5⟩ := h
      rw [Nat.eq_of_beq_eq_true h1] at hu
      exact ⟨i, z, hu, hi, hz, Nat.eq_of_beq_eq_true h2, Nat.eq_of_beq_eq_true h3, Nat.eq_of_beq_eq_true h4, by simpa [Nat.blt_eq] using h5⟩
    · cases h
  · cases h
/-- one append onto the hot row. -/
theorem HRel.app {B0 : Base} {A0 : Nat → Prop} {a : Act} {w : World} {tt ty bytes m d : Nat} {sx xx : Operand} {news : List Value} [R : RowTy P tt e sz bytes] (up : ∀ b, B0.W.heap.size ≤ b → A0 b) (hH : HRel B0 A0 e sz t s a w) (hd : d < s.n) (hsx : s.look sx = some (vC t.v)) (hxx : s.look xx = some (vS sz m (news.map .c))) (hm0 : 0 < m ∨ 0 < t.n) (hn1 : ∀ u ∈ news, u.oneCell' = true) (hmax : t.n + m ≤ maxLen) (hbyt : (t.n + m) * bytes ≤ 140737488355328) :
    ∃ v' w2, (Builtin.append_ #[tt, tt] ty #[a.eval sx, a.eval xx]).run P w = .ok v' w2 ∧ v'.oneCell' = true ∧ HRel B0 A0 e sz ⟨v', t.n + m, t.xs ++ news⟩ (s.put (some d) (vC v')) (a.put (some d) v') w2 := by
  obtain ⟨i, z, ht, hi, hz, hsize, hby, hzs, hsz⟩ := rowTy_spec R.h
  obtain ⟨A, ρ, hA, hR, hown, hb, ho, hg, h1, han⟩ := hH
  have hv1 : a.eval sx = t.v := (hR.look hsx).1
  have hvo := (hR.look hsx).2
  obtain ⟨⟨Ax, cx, ex, hcx, hlx, hAx⟩, hUx⟩ := hR.look hxx
  rcases Nat.eq_zero_or_pos m with rfl | hmp
  · have hn : 0 < t.n := by rcases hm0 with h | h; exact absurd h (Nat.lt_irrefl _); exact h
    have hnews : news = [] := by
      have := hlx
      simp at this
      exact this
    subst hnews
    refine ⟨t.v, w, ?_, hvo, A, ρ, hA, hR.put (dst := some d) (fun d' e => by cases e; exact hd) ⟨rfl, hvo⟩, hown, hb, by simpa using ho, hg, by simpa using h1, han⟩
    rw [hv1, ex]
    rcases ho.2 with ⟨_, h0⟩ | ⟨g, cap, cur, hv, hbg, hgg, hnc, hcm, hcs, htake⟩
    · omega
    · rw [hv]
      cases Ax with
      | none => simp [Builtin.append_, run_underlying ht, sizeOf, typeInfo, hi, Builtin.lenOf, Builtin.firstCells, hnc, storeCells]
      | some ax => simp [Builtin.append_, run_underlying ht, sizeOf, typeInfo, hi, Builtin.lenOf, Builtin.firstCells, hnc, storeCells, loadCells, loadCellsFrom]
  · obtain ⟨ax, vs, rfl, hcs⟩ := hAx hmp
    have hvs : vs = news := by
      apply List.ext_getElem?
      intro j
      have hll := hcs.rp.1
      simp at hll
      rcases Nat.lt_or_ge j news.length with hj | hj
      · have h2 := hcs.rp.2 j (.c news[j]) (vs[j]'(by omega)) (by simp [hj]) (List.getElem?_eq_getElem _)
        rw [List.getElem?_eq_getElem (by omega : j < vs.length), List.getElem?_eq_getElem hj, h2.1]
      · rw [List.getElem?_eq_none hj, List.getElem?_eq_none (by omega)]
    subst hvs
    obtain ⟨v', w2, hrun, ho2, hgr, hblk, hone⟩ := run_append_own2 (P := P) w B0.W.heap.size tt ty e i z sz bytes ht hi hz hsize hby hzs hsz t.v t.n t.xs ho ax m cx vs (by simpa using hlx) hcs.at_ hn1 hmax hbyt hb.size hmp
    refine ⟨v', w2, by rw [hv1, ex]; exact hrun, hone, fun b => (A b ∧ b < w.heap.size) ∨ w2.heap.size ≤ b, ρ, ?_, ?_, hown, ⟨hgr.os.trans hb.os, hgr.tape.trans hb.tape, hgr.output.trans hb.output, Nat.le_trans hb.size hgr.size, fun b hf => ?_⟩, ho2, fun g hg' => ⟨?_, fun k cs hk => ?_⟩, ?_, han⟩
    · rintro b (h | h)
      · exact hA b h.1
      · exact up b (by have := hb.size; have := hgr.size; omega)
    · have hA2 : Rel (hbase B0 s ρ w2) (fun b => (A b ∧ b < w.heap.size) ∨ w2.heap.size ≤ b) s ρ a w2 :=
        hR.anew (fun b hb' hl' => ⟨.inl ⟨hb', hl'⟩, hgr.block b hl' fun e => (hg b e.symm).1 hb'⟩) (fun k cs hk => ⟨hgr.block _ (hR.lt hk) fun e => (hg _ e.symm).2 k cs hk rfl, fun hf => hf.2 k cs hk rfl⟩) (BelowB.refl _) (fun b h => .inr h) (hbase_anch _ _ _)
      exact hA2.put (dst := some d) (fun d' e => by cases e; exact hd) ⟨rfl, hone⟩
    · refine (hgr.block b (Nat.lt_of_lt_of_le (B0.lt b hf) hb.size) fun e => ?_).trans (hb.block b hf)
      have := (ho.lt b e.symm).1
      have := B0.lt b hf
      omega
    · rintro (h | h)
      · rcases hblk g hg' with q | q
        · exact (hg g q).1 h.1
        · omega
      · have := (ho2.lt g hg').2
        omega
    · rcases hblk g hg' with q | q
      · exact (hg g q).2 k cs hk
      · have := hR.lt hk
        omega
    · intro u hu
      rcases List.mem_append.1 hu with q | q
      · exact h1 u q
      · exact hn1 u q
def cutL : Nat → List Oper → Option (List Oper × List Oper)
  | 0, l => some ([], l)
  | k + 1, o :: l => match cutL k l with
    | some (a, b) => some (o :: a, b)
    | none => none
  | _ + 1, [] => none
theorem cutL_spec : ∀ (k : Nat) (l a b : List Oper), cutL k l = some (a, b) → l = a ++ b
  | 0, l, a, b, h => by cases h; rfl
  | k + 1, [], a, b, h => by cases h
  | k + 1, o :: l, a, b, h => by
    simp only [cutL] at h
    split at h
    · rename_i a' b' hc
      cases h
      have := cutL_spec k l _ _ hc
      rw [this]
      rfl
    · cases h
end
end Go.Proofs.Ytlfkllmnekdghaa

