/-
  States without addresses: what a frame and its own blocks hold, told by abstract values; each operation, regions in whatever order, code, loops and calls over them; that frames and worlds go along. My own text.
-/
import Derived.Below
import Derived.Still
import Derived.Laws.CopyRow
import Derived.Laws.Cells
namespace Go.Proofs.Ytpopeipcjpfbaaa
open Go.RowKit
set_option linter.unusedVariables false
set_option linter.unusedSimpArgs false
/-- a fact of one value that hangs on the blocks of its footprint alone. -/
structure SP where
  holds : World → Value → Prop
  foot : World → Value → Nat → Prop
  frame : ∀ w w' v, holds w v → (∀ b, foot w v b → w'.heap[b]? = w.heap[b]?) → holds w' v ∧ ∀ b, foot w' v b → foot w v b
  old : ∀ w v b, holds w v → foot w v b → b < w.heap.size
  cell : ∀ w v, holds w v → v.oneCell' = true
/-- one cell: a value; a pointer into a block of the frame's own; a value of which a fact is known. -/
inductive AC where
  | c (v : Value)
  | own (k off : Nat)
  | p (R : SP)
inductive AW where
  | one (x : AC)
  | agg (xs : List AC)
inductive AV where
  | w (x : AW)
  | tup (xs : List AW)
def AW.cells : AW → List AC
  | .one x => [x]
  | .agg xs => xs
def RpC (U : Nat → Prop) (ρ : Nat → Nat) (W : World) : AC → Value → Prop
  | .c v, x => x = v ∧ v.oneCell' = true
  | .own k off, x => x = .pointer (some ⟨ρ k, off, none⟩)
  | .p R, x => R.holds W x ∧ ∀ b, R.foot W x b → U b
def RpL (U : Nat → Prop) (ρ : Nat → Nat) (W : World) (xs : List AC) (vs : List Value) : Prop :=
  xs.length = vs.length ∧ ∀ (i : Nat) (x : AC) (v : Value), xs[i]? = some x → vs[i]? = some v → RpC U ρ W x v
def RpW (U : Nat → Prop) (ρ : Nat → Nat) (W : World) : AW → Value → Prop
  | .one x, v => RpC U ρ W x v
  | .agg xs, v => ∃ vs : List Value, v = .agg vs.toArray ∧ RpL U ρ W xs vs
def RpV (U : Nat → Prop) (ρ : Nat → Nat) (W : World) : AV → Value → Prop
  | .w x, v => RpW U ρ W x v
  | .tup xs, v => ∃ vs : List Value, v = .tuple vs.toArray ∧ xs.length = vs.length ∧ ∀ (i : Nat) (x : AW) (v : Value), xs[i]? = some x → vs[i]? = some v → RpW U ρ W x v
def AC.owns : AC → Nat → Prop
  | .own k _, j => j = k
  | _, _ => False
def AW.owns (x : AW) (j : Nat) : Prop := ∃ y ∈ x.cells, y.owns j
def AV.owns : AV → Nat → Prop
  | .w x, j => x.owns j
  | .tup xs, j => ∃ x ∈ xs, x.owns j
section
variable {U U' : Nat → Prop} {ρ ρ' : Nat → Nat} {W W' : World}
theorem RpC.cell {x : AC} {v : Value} (h : RpC U ρ W x v) : v.oneCell' = true := by
  cases x with
  | c u => obtain ⟨rfl, h⟩ := h; exact h
  | own k off => cases h; rfl
  | p R => exact R.cell _ _ h.1
theorem RpC.map {x : AC} {v : Value} (h : RpC U ρ W x v) (hU : ∀ b, U b → b < W.heap.size → U' b ∧ W'.heap[b]? = W.heap[b]?) (hρ : ∀ j, x.owns j → ρ' j = ρ j) : RpC U' ρ' W' x v := by
  cases x with
  | c u => exact h
  | own k off => simp only [RpC] at h ⊢; rw [h, hρ k rfl]
  | p R =>
    obtain ⟨h1, h2⟩ := h
    have h3 := R.frame W W' v h1 (fun b hb => (hU b (h2 b hb) (R.old _ _ _ h1 hb)).2)
    exact ⟨h3.1, fun b hb => (hU b (h2 b (h3.2 b hb)) (R.old _ _ _ h1 (h3.2 b hb))).1⟩
theorem RpL.map {xs : List AC} {vs : List Value} (h : RpL U ρ W xs vs) (hU : ∀ b, U b → b < W.heap.size → U' b ∧ W'.heap[b]? = W.heap[b]?) (hρ : ∀ j x, x ∈ xs → x.owns j → ρ' j = ρ j) : RpL U' ρ' W' xs vs :=
  ⟨h.1, fun i x v hx hv => (h.2 i x v hx hv).map hU fun j hj => hρ j x (List.mem_of_getElem? hx) hj⟩
theorem RpW.map {x : AW} {v : Value} (h : RpW U ρ W x v) (hU : ∀ b, U b → b < W.heap.size → U' b ∧ W'.heap[b]? = W.heap[b]?) (hρ : ∀ j, x.owns j → ρ' j = ρ j) : RpW U' ρ' W' x v := by
  cases x with
  | one x => exact RpC.map h hU fun j hj => hρ j ⟨x, by simp [AW.cells], hj⟩
  | agg xs =>
    obtain ⟨vs, e, h⟩ := h
    exact ⟨vs, e, h.map hU fun j x hx hj => hρ j ⟨x, hx, hj⟩⟩
theorem RpV.map {x : AV} {v : Value} (h : RpV U ρ W x v) (hU : ∀ b, U b → b < W.heap.size → U' b ∧ W'.heap[b]? = W.heap[b]?) (hρ : ∀ j, x.owns j → ρ' j = ρ j) : RpV U' ρ' W' x v := by
  cases x with
  | w x => exact RpW.map h hU hρ
  | tup xs =>
    obtain ⟨vs, e, hl, h⟩ := h
    exact ⟨vs, e, hl, fun i x v hx hv => (h i x v hx hv).map hU fun j hj => hρ j ⟨x, List.mem_of_getElem? hx, hj⟩⟩
theorem RpW.cells {x : AW} {v : Value} (h : RpW U ρ W x v) : RpL U ρ W x.cells v.cells.toList := by
  cases x with
  | one x =>
    have hc : v.cells = #[v] := by
      have := RpC.cell h
      cases v <;> simp_all [Value.cells, Value.oneCell']
    rw [hc]
    refine ⟨rfl, fun i y u hy hu => ?_⟩
    simp only [AW.cells] at hy
    cases i with
    | zero => simp at hy hu; subst hy; subst hu; exact h
    | succ i => simp at hy
  | agg xs =>
    obtain ⟨vs, rfl, h⟩ := h
    exact h
end
/-- a map at one place turned. -/
def upd {α : Type} (f : Nat → Option α) (k : Nat) (v : α) : Nat → Option α := fun j => bif Nat.beq j k then some v else f j
theorem upd_same {α : Type} (f : Nat → Option α) (k : Nat) (v : α) : upd f k v k = some v := by simp [upd]
theorem upd_ne {α : Type} (f : Nat → Option α) {k j : Nat} (v : α) (h : j ≠ k) : upd f k v j = f j := by
  have : Nat.beq j k = false := by
    cases hb : Nat.beq j k with
    | false => rfl
    | true => exact absurd (Nat.eq_of_beq_eq_true hb) h
  simp [upd, this]
theorem upd_comm {α : Type} (f : Nat → Option α) {k j : Nat} (v u : α) (h : j ≠ k) : upd (upd f k v) j u = upd (upd f j u) k v := by
  funext i
  by_cases h1 : i = j
  · subst h1; rw [upd_same, upd_ne _ _ h, upd_same]
  · by_cases h2 : i = k
    · subst h2; rw [upd_ne _ _ h1, upd_same, upd_same]
    · rw [upd_ne _ _ h1, upd_ne _ _ h2, upd_ne _ _ h2, upd_ne _ _ h1]
/-- what the frame's slots hold, and what its own blocks hold. A block is named by the slot that its making has written. -/
structure AS where
  n : Nat
  tmps : Nat → Option AV
  mem : Nat → Option (List AC)
def AS.put (s : AS) (dst : Option Nat) (v : AV) : AS :=
  match dst with
  | some d => { s with tmps := upd s.tmps d v }
  | none => s
def AS.setm (s : AS) (k : Nat) (cs : List AC) : AS := { s with mem := upd s.mem k cs }
/-- a value of the program's text. -/
def ofW : Value → AW
  | .agg cs => .agg (cs.toList.map .c)
  | v => .one (.c v)
def ofV : Value → AV
  | .tuple vs => .tup (vs.toList.map ofW)
  | v => .w (ofW v)
def AS.look (s : AS) : Operand → Option AV
  | .tmp t => s.tmps t
  | .const v => if v.oneCell' then some (.w (.one (.c v))) else none
  | .global g => some (.w (.one (.c (.pointer (some ⟨g, 0, none⟩)))))
  | .func f => some (.w (.one (.c (.func (.func f) #[] #[]))))
def AS.free (s : AS) (A : Nat → Prop) (ρ : Nat → Nat) (b : Nat) : Prop := A b ∧ ∀ k cs, s.mem k = some cs → ρ k ≠ b
/-- every own block that is pointed to is there. -/
structure AS.Ok (s : AS) : Prop where
  tm : ∀ t av j, s.tmps t = some av → av.owns j → ∃ cs, s.mem j = some cs
  mm : ∀ k cs x j, s.mem k = some cs → x ∈ cs → x.owns j → ∃ cs', s.mem j = some cs'
/-- the world in which a piece of code begins, the blocks of it that the code leaves alone, and where the blocks of these names stay. -/
structure Base where
  W : World
  F : Nat → Prop
  lt : ∀ b, F b → b < W.heap.size
  N : Nat → Option Nat
/-- what a call leaves alone: all blocks that there are. -/
def Base.all (W : World) : Base := ⟨W, fun b => b < W.heap.size, fun _ h => h, fun _ => none⟩
def Anch (B : Base) (s : AS) (ρ : Nat → Nat) : Prop := ∀ k b, B.N k = some b → s.n ≤ k ∧ ρ k = b
structure BelowB (B : Base) (w : World) : Prop where
  os : w.os = B.W.os
  tape : w.tape = B.W.tape
  output : w.output = B.W.output
  size : B.W.heap.size ≤ w.heap.size
  block : ∀ b, B.F b → w.heap[b]? = B.W.heap[b]?
theorem BelowB.then {B : Base} {w w' : World} (h : BelowB B w) (hb : Below w.heap.size w w') : BelowB B w' :=
  ⟨hb.os.trans h.os, hb.tape.trans h.tape, hb.output.trans h.output, Nat.le_trans h.size hb.size, fun b hf => (hb.block b (Nat.lt_of_lt_of_le (B.lt b hf) h.size)).trans (h.block b hf)⟩
theorem BelowB.refl (B : Base) : BelowB B B.W := ⟨rfl, rfl, rfl, Nat.le_refl _, fun _ _ => rfl⟩
theorem BelowB.all {W w : World} (h : BelowB (Base.all W) w) : Below W.heap.size W w := ⟨h.os, h.tape, h.output, h.size, fun k hk => h.block k hk⟩
structure Rel (B : Base) (A : Nat → Prop) (s : AS) (ρ : Nat → Nat) (a : Act) (w : World) : Prop where
  nodef : a.defers = []
  size : a.tmps.size = s.n
  tm : ∀ t av, s.tmps t = some av → ∃ v, a.tmps[t]? = some v ∧ RpV (s.free A ρ) ρ w av v
  mm : ∀ k cs, s.mem k = some cs → ∃ (vs : List Value) (ty : TypeId), w.heap[ρ k]? = some (.cells vs.toArray ty (0, 0)) ∧ RpL (s.free A ρ) ρ w cs vs ∧ ¬ B.F (ρ k)
  inj : ∀ k k' cs cs', s.mem k = some cs → s.mem k' = some cs' → ρ k = ρ k' → k = k'
  below : BelowB B w
  up : ∀ b, B.W.heap.size ≤ b → A b
  anch : Anch B s ρ
section
variable {B : Base} {A : Nat → Prop} {s : AS} {ρ : Nat → Nat} {a : Act} {w w' : World}
theorem AS.free_put (s : AS) (dst : Option Nat) (v : AV) (A : Nat → Prop) (ρ : Nat → Nat) : (s.put dst v).free A ρ = s.free A ρ := by cases dst <;> rfl
theorem AS.mem_put (s : AS) (dst : Option Nat) (v : AV) : (s.put dst v).mem = s.mem := by cases dst <;> rfl
theorem AS.n_put (s : AS) (dst : Option Nat) (v : AV) : (s.put dst v).n = s.n := by cases dst <;> rfl
theorem Rel.put {dst : Option Nat} {av : AV} {v : Value} (h : Rel B A s ρ a w) (hd : ∀ d, dst = some d → d < s.n) (hv : RpV (s.free A ρ) ρ w av v) : Rel B A (s.put dst av) ρ (a.put dst v) w := by
  cases dst with
  | none => exact h
  | some d =>
    have hlt := hd d rfl
    refine ⟨h.nodef, by simp [AS.put, Act.put, h.size], fun t bv ht => ?_, h.mm, h.inj, h.below, h.up, h.anch⟩
    simp only [AS.put] at ht
    by_cases e : t = d
    · subst e
      rw [upd_same] at ht
      cases ht
      exact ⟨v, by simp [Act.put, h.size, hlt], hv⟩
    · rw [upd_ne _ _ e] at ht
      obtain ⟨u, h1, h2⟩ := h.tm t bv ht
      exact ⟨u, by simp only [Act.put]; rw [Array.getElem?_setIfInBounds_ne (Ne.symm e)]; exact h1, h2⟩
theorem Rel.lt {k : Nat} {cs : List AC} (h : Rel B A s ρ a w) (hk : s.mem k = some cs) : ρ k < w.heap.size := by
  obtain ⟨vs, ty, h1, _⟩ := h.mm k cs hk
  exact (Array.getElem?_eq_some_iff.1 h1).1
theorem Rel.call (h : Rel B A s ρ a w) (hb : Below w.heap.size w w') : Rel B A s ρ a w' := by
  have hU : ∀ b, s.free A ρ b → b < w.heap.size → s.free A ρ b ∧ w'.heap[b]? = w.heap[b]? := fun b hb' hl => ⟨hb', hb.block b hl⟩
  refine ⟨h.nodef, h.size, fun t av ht => ?_, fun k cs hk => ?_, h.inj, h.below.then hb, h.up, h.anch⟩
  · obtain ⟨v, h1, h2⟩ := h.tm t av ht
    exact ⟨v, h1, h2.map hU fun _ _ => rfl⟩
  · obtain ⟨vs, ty, h1, h2, h3⟩ := h.mm k cs hk
    exact ⟨vs, ty, by rw [hb.block _ (h.lt hk)]; exact h1, h2.map hU fun _ _ _ _ => rfl, h3⟩
theorem Rel.new {d : Nat} {cs : List AC} {vs : List Value} {ty : TypeId} (h : Rel B A s ρ a w) (ok : s.Ok) (hdn : d < s.n) (hm : s.mem d = none) (hv : RpL (s.free A ρ) ρ w cs vs) (hcs : ∀ x ∈ cs, ∀ j, x.owns j → ∃ cs', s.mem j = some cs') :
    Rel B A (s.setm d cs) (fun k => if k = d then w.heap.size else ρ k) a (w.alloc (.cells vs.toArray ty)) := by
  have hne : ∀ k cs', s.mem k = some cs' → k ≠ d := fun k cs' hk e => by subst e; rw [hm] at hk; cases hk
  have hU : ∀ b, s.free A ρ b → b < w.heap.size → (s.setm d cs).free A (fun k => if k = d then w.heap.size else ρ k) b ∧ (w.alloc (.cells vs.toArray ty)).heap[b]? = w.heap[b]? := by
    intro b hb hl
    refine ⟨⟨hb.1, fun k cs' hk => ?_⟩, Below.heap_alloc _ _ _ hl⟩
    simp only [AS.setm] at hk
    by_cases e : k = d
    · subst e; simp; omega
    · rw [upd_ne _ _ e] at hk
      simp only [e, if_false]
      exact hb.2 k cs' hk
  have hown : ∀ j, (∃ cs', s.mem j = some cs') → (if j = d then w.heap.size else ρ j) = ρ j := fun j ⟨cs', hj⟩ => by rw [if_neg (hne j cs' hj)]
  refine ⟨h.nodef, h.size, fun t av ht => ?_, fun k cs' hk => ?_, fun k k' c1 c2 hk hk' e => ?_, h.below.then ((Below.refl _ _).alloc (Nat.le_refl _) _), h.up, fun k b hk => ?_⟩
  · obtain ⟨v, h1, h2⟩ := h.tm t av ht
    exact ⟨v, h1, h2.map hU fun j hj => hown j (ok.tm t av j ht hj)⟩
  · simp only [AS.setm] at hk
    by_cases e : k = d
    · subst e
      rw [upd_same] at hk
      cases hk
      refine ⟨vs, ty, ?_, hv.map hU fun j x hx hj => hown j (hcs x hx j hj), ?_⟩
      · show (w.heap.push _)[if k = k then w.heap.size else ρ k]? = _; simp
      · simp only [if_true]; exact fun hf => by have := B.lt _ hf; have := h.below.size; omega
    · rw [upd_ne _ _ e] at hk
      obtain ⟨us, t, h1, h2, h3⟩ := h.mm k cs' hk
      refine ⟨us, t, ?_, h2.map hU fun j x hx hj => hown j (ok.mm k cs' x j hk hx hj), ?_⟩
      · simp only [e, if_false]; rw [Below.heap_alloc _ _ _ (h.lt hk)]; exact h1
      · simp only [e, if_false]; exact h3
  · simp only [AS.setm] at hk hk'
    by_cases e1 : k = d <;> by_cases e2 : k' = d
    · rw [e1, e2]
    · rw [upd_ne _ _ e2] at hk'
      have := h.lt hk'
      simp [e1, e2] at e
      omega
    · rw [upd_ne _ _ e1] at hk
      have := h.lt hk
      simp [e1, e2] at e
      omega
    · rw [upd_ne _ _ e1] at hk
      rw [upd_ne _ _ e2] at hk'
      simp [e1, e2] at e
      exact h.inj k k' _ _ hk hk' e
  · obtain ⟨h1, h2⟩ := h.anch k b hk
    refine ⟨h1, ?_⟩
    rw [if_neg (fun e => by subst e; exact absurd hdn (Nat.not_lt.2 h1))]
    exact h2
theorem Rel.set {k : Nat} {cs ds : List AC} {us : List Value} (h : Rel B A s ρ a w) (hk : s.mem k = some cs) (hv : RpL (s.free A ρ) ρ w ds us) : Rel B A (s.setm k ds) ρ a (w.setRow (ρ k) us.toArray) := by
  have hfree : (s.setm k ds).free A ρ = s.free A ρ := by
    funext b
    apply propext
    constructor
    · rintro ⟨hA, hb⟩
      refine ⟨hA, fun j cs' hj => ?_⟩
      by_cases e : j = k
      · subst e; exact hb j ds (by simp [AS.setm, upd_same])
      · exact hb j cs' (by simp only [AS.setm]; rw [upd_ne _ _ e]; exact hj)
    · rintro ⟨hA, hb⟩
      refine ⟨hA, fun j cs' hj => ?_⟩
      simp only [AS.setm] at hj
      by_cases e : j = k
      · subst e; exact hb j cs hk
      · rw [upd_ne _ _ e] at hj; exact hb j cs' hj
  obtain ⟨vs, ty, g1, g2, g3⟩ := h.mm k cs hk
  have hrow : (w.setRow (ρ k) us.toArray).heap[ρ k]? = some (.cells us.toArray ty (0, 0)) := setRow_heap w (ρ k) vs.toArray us.toArray ty (0, 0) g1
  have hoth : ∀ b, b ≠ ρ k → (w.setRow (ρ k) us.toArray).heap[b]? = w.heap[b]? := fun b hb => by
    simp only [World.setRow, Array.getElem?_modify]; rw [if_neg (Ne.symm hb)]
  have hU : ∀ b, s.free A ρ b → b < w.heap.size → s.free A ρ b ∧ (w.setRow (ρ k) us.toArray).heap[b]? = w.heap[b]? := fun b hb _ => ⟨hb, hoth b (Ne.symm (hb.2 k cs hk))⟩
  refine ⟨h.nodef, h.size, fun t av ht => ?_, fun j cs' hj => ?_, fun j j' c1 c2 hj hj' e => ?_, ?_, h.up, h.anch⟩
  · obtain ⟨v, h1, h2⟩ := h.tm t av ht
    exact ⟨v, h1, by rw [hfree]; exact h2.map hU fun _ _ => rfl⟩
  · simp only [AS.setm] at hj
    rw [hfree]
    by_cases e : j = k
    · subst e
      rw [upd_same] at hj
      cases hj
      exact ⟨us, ty, hrow, hv.map hU fun _ _ _ _ => rfl, g3⟩
    · rw [upd_ne _ _ e] at hj
      obtain ⟨vs', ty', h1, h2, h3⟩ := h.mm j cs' hj
      exact ⟨vs', ty', by rw [hoth _ (fun e' => e (h.inj j k _ _ hj hk e'))]; exact h1, h2.map hU fun _ _ _ _ => rfl, h3⟩
  · have hold : ∀ i c, (s.setm k ds).mem i = some c → ∃ c', s.mem i = some c' := fun i c hi => by
      simp only [AS.setm] at hi
      by_cases e : i = k
      · exact ⟨cs, by rw [e]; exact hk⟩
      · rw [upd_ne _ _ e] at hi; exact ⟨c, hi⟩
    obtain ⟨d1, q1⟩ := hold j c1 hj
    obtain ⟨d2, q2⟩ := hold j' c2 hj'
    exact h.inj j j' _ _ q1 q2 e
  · exact ⟨h.below.os, h.below.tape, h.below.output, by have := h.below.size; simpa [World.setRow] using this, fun b hb => (hoth b (fun e => by subst e; exact g3 hb)).trans (h.below.block b hb)⟩
theorem RpC.const (U : Nat → Prop) (ρ : Nat → Nat) (W : World) {v : Value} (h : v.oneCell' = true) : RpC U ρ W (.c v) v := ⟨rfl, h⟩
end
def AV.closed (x : AV) : Prop := ∀ j, ¬ x.owns j
def RpVs (U : Nat → Prop) (ρ : Nat → Nat) (W : World) (xs : List AV) (vs : List Value) : Prop :=
  xs.length = vs.length ∧ ∀ (i : Nat) (x : AV) (v : Value), xs[i]? = some x → vs[i]? = some v → RpV U ρ W x v
/-- f, called with what these values tell, hands back what r tells; elder memory stays as it was. -/
structure PCall (P : Program) (f : FuncId) (args : List AV) (r : AV) : Prop where
  ca : ∀ x ∈ args, x.closed
  cr : r.closed
  call : ∀ (U : Nat → Prop) (W : World) (vs : List Value), RpVs U id W args vs →
    Calls P f vs.toArray W fun e W' => ∃ v, e = .returned v ∧ RpV (fun b => U b ∨ W.heap.size ≤ b) id W' r v ∧ Below W.heap.size W W'
/-- an operation that leaves the world alone, and whose value hangs on its operands alone. -/
structure QuietOK (P : Program) (look : Operand → Option AV) (o : Oper) (av : AV) : Prop where
  sel : ∀ cs b, o.op ≠ .select cs b
  ops : ∀ x ∈ o.op.operands, ∃ a, look x = some a
  run : ∀ (U : Nat → Prop) (ρ : Nat → Nat) (W : World) (env : Operand → Value), (∀ x ∈ o.op.operands, ∀ a, look x = some a → RpV U ρ W a (env x)) →
    ∃ v, (execOp env o).run P W = .ok (.value v) W ∧ RpV U ρ W av v
  own : ∀ j, av.owns j → ∃ x ∈ o.op.operands, ∃ a, look x = some a ∧ a.owns j
def pick (P : Program) (ty : TypeId) (cs : List AC) (off : Nat) : Option AW :=
  match P.underlying ty with
  | some (.struct _) | some (.array _ _) => (P.info? ty).bind fun i => if off + i.size ≤ cs.length then some (.agg ((cs.drop off).take i.size)) else none
  | some _ => (cs[off]?).map .one
  | none => none
def splice (cs : List AC) (off : Nat) (ds : List AC) : List AC := cs.take off ++ ds ++ cs.drop (off + ds.length)
inductive NewOK (P : Program) (look : Operand → Option AV) (o : Oper) : List AC → Prop
  | alloc (ty : TypeId) (i : TypeInfo) (z : Value) (cs : List AC) (ho : o.op = .alloc ty) (hi : P.info? ty = some i) (hz : i.zero = some z) (hc : cs = z.cells.toList.map .c) (h1 : (z.cells.toList.all fun v => v.oneCell') = true) : NewOK P look o cs
  | box (ty : TypeId) (x : Operand) (z : AW) (ho : o.op = .box ty x) (hx : look x = some (.w z)) : NewOK P look o z.cells
def enters (P : Program) (f : FuncId) : Bool := match P.funcs[f]? with
  | some fn => fn.body.isSome && fn.name != "runtime.NumGoroutine"
  | none => false
/-- a value that a function has been bound to. -/
def bndB : Value → Bool
  | .agg cs => cs.toList.all fun v => v.oneCell'
  | .tuple _ => false
  | _ => true
def capF (w : World) : AC → Value → Nat → Prop
  | .p R, x, b => R.foot w x b
  | _, _, _ => False
/-- a function that has taken hold of what cs tells. -/
def FunP (fn : Fn) (cs : List AC) : SP where
  holds w v := ∃ vs : List Value, v = .func fn #[] vs.toArray ∧ RpL (fun _ => True) id w cs vs ∧ ∀ x ∈ cs, ∀ j, ¬ x.owns j
  foot w v b := ∃ vs : List Value, v = .func fn #[] vs.toArray ∧ ∃ (i : Nat) (x : AC) (u : Value), cs[i]? = some x ∧ vs[i]? = some u ∧ capF w x u b
  frame w w' v := by
    rintro ⟨vs, rfl, hl, hc⟩ hf
    have key : ∀ (i : Nat) (x : AC) (u : Value), cs[i]? = some x → vs[i]? = some u → RpC (fun _ => True) id w' x u ∧ ∀ b, capF w' x u b → capF w x u b := by
      intro i x u hx hu
      have h := hl.2 i x u hx hu
      cases x with
      | c y => exact ⟨h, fun b hb => hb⟩
      | own k o => exact ⟨h, fun b hb => hb⟩
      | p R =>
        have := R.frame w w' u h.1 fun b hb => hf b ⟨vs, rfl, i, _, u, hx, hu, hb⟩
        exact ⟨⟨this.1, fun _ _ => trivial⟩, this.2⟩
    refine ⟨⟨vs, rfl, ⟨hl.1, fun i x u hx hu => (key i x u hx hu).1⟩, hc⟩, ?_⟩
    rintro b ⟨vs', e, i, x, u, hx, hu, hb⟩
    have e' : vs = vs' := by simpa using e
    subst e'
    exact ⟨vs, rfl, i, x, u, hx, hu, (key i x u hx hu).2 b hb⟩
  old w v b := by
    rintro ⟨vs, rfl, hl, hc⟩ ⟨vs', e, i, x, u, hx, hu, hb⟩
    have e' : vs = vs' := by simpa using e
    subst e'
    have h := hl.2 i x u hx hu
    cases x with
    | p R => exact R.old _ _ _ h.1 hb
    | c y => cases hb
    | own k o => cases hb
  cell w v := by rintro ⟨vs, rfl, _⟩; rfl
theorem FunP.caps {U : Nat → Prop} {ρ : Nat → Nat} {w : World} {v : Value} {fn : Fn} {cs : List AC} (h : RpC U ρ w (.p (FunP fn cs)) v) : ∃ vs : List Value, v = .func fn #[] vs.toArray ∧ RpL U id w cs vs := by
  obtain ⟨⟨vs, rfl, hl, hc⟩, hf⟩ := h
  refine ⟨vs, rfl, hl.1, fun i x u hx hu => ?_⟩
  have h := hl.2 i x u hx hu
  cases x with
  | c y => exact h
  | own k o => exact h
  | p R => exact ⟨h.1, fun b hb => hf b ⟨vs, rfl, i, _, u, hx, hu, hb⟩⟩
structure CallOK (P : Program) (look : Operand → Option AV) (o : Oper) (f : FuncId) (args : List AV) : Prop where
  ex : ∃ c g, o.op = .call c ∧ c.callee = .value g ∧
    ((∃ bs : List Value, look g = some (.w (.one (.c (.func (.func f) bs.toArray #[])))) ∧ bs.map (fun b => some (ofV b)) ++ c.args.toList.map look = args.map some ∧ bs.all bndB = true) ∨
     ∃ cs : List AC, look g = some (.w (.one (.p (FunP (.func f) cs)))) ∧ c.args.toList.map look ++ cs.map (fun x => some (.w (.one x))) = args.map some)
  enters : enters P f = true
/-- an operation whose value hangs on its operands alone, and lies in memory of its own. -/
structure FreshOK (P : Program) (look : Operand → Option AV) (o : Oper) (av : AV) : Prop where
  ops : ∀ x ∈ o.op.operands, ∃ a, look x = some a
  cl : av.closed
  run : ∀ (U : Nat → Prop) (ρ : Nat → Nat) (W : World) (env : Operand → Value), (∀ x ∈ o.op.operands, ∀ a, look x = some a → RpV U ρ W a (env x)) →
    ∃ v W', (execOp env o).run P W = .ok (.value v) W' ∧ RpV (fun b => U b ∨ W.heap.size ≤ b) ρ W' av v ∧ Below W.heap.size W W'
inductive AStep (P : Program) (s : AS) (o : Oper) : AS → Prop
  | fresh (av : AV) (hq : FreshOK P s.look o av) (hd : ∀ d, o.dst = some d → d < s.n) : AStep P s o (s.put o.dst av)
  | quiet (av : AV) (hq : QuietOK P s.look o av) (hd : ∀ d, o.dst = some d → d < s.n) : AStep P s o (s.put o.dst av)
  | load (ty : TypeId) (x : Operand) (k off : Nat) (cs : List AC) (av : AW) (ho : o.op = .load ty x) (hx : s.look x = some (.w (.one (.own k off)))) (hm : s.mem k = some cs) (hv : pick P ty cs off = some av) (hd : ∀ d, o.dst = some d → d < s.n) : AStep P s o (s.put o.dst (.w av))
  | store (ty : TypeId) (x y : Operand) (k off : Nat) (cs : List AC) (z : AW) (i : TypeInfo) (ho : o.op = .store ty x y) (hx : s.look x = some (.w (.one (.own k off)))) (hy : s.look y = some (.w z)) (hm : s.mem k = some cs) (hi : P.info? ty = some i) (hs : i.size = z.cells.length) (hb : off + z.cells.length ≤ cs.length) (hd : ∀ d, o.dst = some d → d < s.n) : AStep P s o ((s.put o.dst (.tup [])).setm k (splice cs off z.cells))
  | new (cs : List AC) (d : Nat) (hdst : o.dst = some d) (hm : s.mem d = none) (hn : NewOK P s.look o cs) (hd : d < s.n) : AStep P s o ((s.setm d cs).put (some d) (.w (.one (.own d 0))))
  | call (f : FuncId) (args : List AV) (r : AV) (hc : CallOK P s.look o f args) (hp : PCall P f args r) (hd : ∀ d, o.dst = some d → d < s.n) : AStep P s o (s.put o.dst r)
section
variable {P : Program} {B : Base} {A : Nat → Prop} {s s' : AS} {ρ : Nat → Nat} {a : Act} {w : World} {o : Oper} {Q : Exit → Act → World → Prop}
theorem RpV.undef (U : Nat → Prop) : RpV U ρ w (.tup []) undef := ⟨[], rfl, rfl, fun i x v h => by simp at h⟩
theorem Rel.look {x : Operand} {av : AV} (h : Rel B A s ρ a w) (hx : s.look x = some av) : RpV (s.free A ρ) ρ w av (a.eval x) := by
  cases x with
  | tmp t =>
    obtain ⟨v, h1, h2⟩ := h.tm t av hx
    have : a.eval (.tmp t) = v := by simp [Act.eval, Array.getD_eq_getD_getElem?, h1]
    rw [this]; exact h2
  | const v =>
    simp only [AS.look] at hx
    split at hx
    · rename_i h1; cases hx; exact ⟨rfl, h1⟩
    · cases hx
  | global g => cases hx; exact ⟨rfl, rfl⟩
  | func f => cases hx; exact ⟨rfl, rfl⟩
theorem RpL.cellAt {U : Nat → Prop} {W : World} {xs : List AC} {vs : List Value} {g : Nat} {ty : TypeId} (h : RpL U ρ W xs vs) (hg : W.heap[g]? = some (.cells vs.toArray ty (0, 0))) {i : Nat} {x : AC} (hi : xs[i]? = some x) :
    ∃ v, vs[i]? = some v ∧ W.cell? ⟨g, i, none⟩ = some v ∧ RpC U ρ W x v := by
  have hlt : i < vs.length := by
    rw [← h.1]
    rcases Nat.lt_or_ge i xs.length with q | q
    · exact q
    · rw [List.getElem?_eq_none q] at hi; cases hi
  refine ⟨vs[i], List.getElem?_eq_getElem hlt, ?_, h.2 i x _ hi (List.getElem?_eq_getElem hlt)⟩
  simp [World.cell?, hg, hlt]
theorem RpL.sub {U : Nat → Prop} {W : World} {xs : List AC} {vs : List Value} (h : RpL U ρ W xs vs) (off n : Nat) : RpL U ρ W ((xs.drop off).take n) ((vs.drop off).take n) := by
  refine ⟨by simp [h.1], fun i x v hx hv => ?_⟩
  rw [List.getElem?_take] at hx hv
  split at hx
  · rename_i hlt
    rw [if_pos hlt] at hv
    rw [List.getElem?_drop] at hx hv
    exact h.2 _ x v hx hv
  · cases hx
theorem RpL.splice {U : Nat → Prop} {W : World} {xs ds : List AC} {vs us : List Value} (h : RpL U ρ W xs vs) (hd : RpL U ρ W ds us) (off : Nat) (hb : off + ds.length ≤ xs.length) : RpL U ρ W (splice xs off ds) (vs.take off ++ us ++ vs.drop (off + us.length)) := by
  have e1 := h.1
  have e2 := hd.1
  refine ⟨by simp [Proofs.Ytpopeipcjpfbaaa.splice, e1, e2], fun i x v hx hv => ?_⟩
  unfold Proofs.Ytpopeipcjpfbaaa.splice at hx
  have lx : (xs.take off).length = off := by simp; omega
  have lv : (vs.take off).length = off := by simp; omega
  by_cases h1 : i < off
  · rw [List.append_assoc, List.getElem?_append_left (by omega), List.getElem?_take_of_lt h1] at hx
    rw [List.append_assoc, List.getElem?_append_left (by omega), List.getElem?_take_of_lt h1] at hv
    exact h.2 i x v hx hv
  · by_cases h2 : i < off + ds.length
    · rw [List.append_assoc, List.getElem?_append_right (by omega), List.getElem?_append_left (by omega), lx] at hx
      rw [List.append_assoc, List.getElem?_append_right (by omega), List.getElem?_append_left (by omega), lv] at hv
      exact hd.2 _ x v hx hv
    · rw [List.getElem?_append_right (by simp; omega), List.getElem?_drop] at hx hv
      simp only [List.length_append, lx, lv] at hx hv
      rw [← e2] at hv
      have e : off + ds.length + (i - (off + ds.length)) = i := by omega
      rw [e] at hx hv
      exact h.2 i x v hx hv
theorem run_loadVar_one {ty : TypeId} {A : Addr} {v : Value} {d : TypeDesc} (hu : P.underlying ty = some d) (hs : ∀ fs, d ≠ .struct fs) (ha : ∀ n e, d ≠ .array n e) (hc : w.cell? A = some v) : (loadVar ty A).run P w = .ok v w := by
  have h1 : (isAgg ty).run P w = .ok false w := by
    unfold isAgg
    simp only [Sem.run_bind, run_underlying hu, Result.andThen_ok]
    cases d <;> first | rfl | (exact absurd rfl (hs _)) | (exact absurd rfl (ha _ _))
  unfold loadVar
  simp only [Sem.run_bind, h1, Result.andThen_ok, Bool.false_eq_true, if_false]
  simp [load, Sem.run, hc]
theorem run_sizeOf' {ty : TypeId} {i : TypeInfo} (hi : P.info? ty = some i) : (sizeOf ty).run P w = .ok i.size w := by
  simp [sizeOf, typeInfo, program, Sem.run_bind, Sem.run, hi, Result.andThen]
theorem run_loadVar_agg {ty : TypeId} {A : Addr} {vs : List Value} {i : TypeInfo} {d : TypeDesc} (hu : P.underlying ty = some d) (hd : (∃ fs, d = .struct fs) ∨ ∃ n e, d = .array n e) (hi : P.info? ty = some i) (hl : vs.length = i.size) (hc : ∀ j v, vs[j]? = some v → w.cell? (A.add j) = some v) :
    (loadVar ty A).run P w = .ok (.agg vs.toArray) w := by
  have h1 : (isAgg ty).run P w = .ok true w := by
    unfold isAgg
    simp only [Sem.run_bind, run_underlying hu, Result.andThen_ok]
    rcases hd with ⟨fs, rfl⟩ | ⟨n, e, rfl⟩ <;> rfl
  unfold loadVar
  simp only [Sem.run_bind, h1, Result.andThen_ok, if_true, run_sizeOf' hi, ← hl, run_loadCells_list w A vs hc]
  rfl
end
section
variable {P : Program} {B : Base} {A : Nat → Prop} {s s' : AS} {ρ : Nat → Nat} {a : Act} {w : World} {o : Oper} {Q : Exit → Act → World → Prop}
theorem pick_sound {U : Nat → Prop} {ty : TypeId} {cs : List AC} {off g : Nat} {av : AW} {vs : List Value} {t : TypeId} (hv : pick P ty cs off = some av) (hg : w.heap[g]? = some (.cells vs.toArray t (0, 0))) (hl : RpL U ρ w cs vs) :
    ∃ v, (loadVar ty ⟨g, off, none⟩).run P w = .ok v w ∧ RpW U ρ w av v := by
  unfold pick at hv
  have key : ∀ d, P.underlying ty = some d → ((∃ fs, d = .struct fs) ∨ ∃ n e, d = .array n e) → ((P.info? ty).bind fun i => if off + i.size ≤ cs.length then some (AW.agg ((cs.drop off).take i.size)) else none) = some av → ∃ v, (loadVar ty ⟨g, off, none⟩).run P w = .ok v w ∧ RpW U ρ w av v := by
    intro d hu hd h
    cases hi : P.info? ty with
    | none => rw [hi] at h; cases h
    | some i =>
      rw [hi] at h
      simp only [Option.bind_some] at h
      split at h
      · rename_i hle
        cases h
        have hs := hl.sub off i.size
        have hlen : ((vs.drop off).take i.size).length = i.size := by have := hl.1; simp; omega
        refine ⟨_, run_loadVar_agg hu hd hi hlen (fun j v hj => ?_), _, rfl, hs⟩
        have hj' : j < i.size := by rw [← hlen]; exact (List.getElem?_eq_some_iff.1 hj).1
        rw [List.getElem?_take_of_lt hj', List.getElem?_drop] at hj
        have hadd : (⟨g, off, none⟩ : Addr).add j = ⟨g, off + j, none⟩ := by unfold Addr.add; split <;> simp_all
        rw [hadd]
        simp only [World.cell?, hg]
        simpa using hj
      · cases h
  have key1 : ∀ d, P.underlying ty = some d → (∀ fs, d ≠ .struct fs) → (∀ n e, d ≠ .array n e) → (cs[off]?).map AW.one = some av → ∃ v, (loadVar ty ⟨g, off, none⟩).run P w = .ok v w ∧ RpW U ρ w av v := by
    intro d hu h1 h2 h
    cases hx : cs[off]? with
    | none => rw [hx] at h; cases h
    | some x =>
      rw [hx] at h
      cases h
      obtain ⟨v, q1, q2, q3⟩ := hl.cellAt hg hx
      exact ⟨v, run_loadVar_one hu h1 h2 q2, q3⟩
  cases hu : P.underlying ty with
  | none => rw [hu] at hv; cases hv
  | some d =>
    rw [hu] at hv
    cases d <;> first | exact key _ hu (.inl ⟨_, rfl⟩) hv | exact key _ hu (.inr ⟨_, _, rfl⟩) hv | exact key1 _ hu (fun _ h => by cases h) (fun _ _ h => by cases h) hv
theorem enters_run {f : FuncId} {args : Array Value} (h : enters P f = true) : (callFunc f args).run P w = .ok (.enter f args) w := by
  unfold enters at h
  cases hf : P.funcs[f]? with
  | none => rw [hf] at h; cases h
  | some fn =>
    rw [hf] at h
    simp only [Bool.and_eq_true, bne_iff_ne, ne_eq] at h
    obtain ⟨h1, h2⟩ := h
    simp [callFunc, program, Sem.run_bind, Sem.run, hf, Result.andThen, h2]
    intro h3
    rw [h3] at h1
    cases h1
theorem Oper.wp_value {v : Value} {w' : World} {next : Act → World → Prop} (h : (execOp a.eval o).run P w = .ok (.value v) w') (hn : next (a.put o.dst v) w') : o.wp P a w next Q := by
  unfold Oper.wp
  rw [h]
  exact hn
theorem Rel.id_of_closed {U : Nat → Prop} {x : AV} {v : Value} (hc : x.closed) (h : RpV U ρ w x v) : RpV U id w x v := h.map (fun b hb _ => ⟨hb, rfl⟩) fun j hj => absurd hj (hc j)
theorem rpV_ofV {U : Nat → Prop} {v : Value} (h : bndB v = true) : RpV U ρ w (ofV v) v := by
  cases v with
  | agg cs =>
    refine ⟨cs.toList, by simp, by simp, fun i x u hx hu => ?_⟩
    rw [List.getElem?_map, hu] at hx
    cases hx
    exact ⟨rfl, List.all_eq_true.1 h u (List.mem_of_getElem? hu)⟩
  | tuple vs => cases h
  | _ => exact ⟨rfl, rfl⟩
theorem AStep.sound (h : AStep P s o s') (hR : Rel B A s ρ a w) (ok : s.Ok) : o.wp P a w (fun a' w' => ∃ ρ', Rel B A s' ρ' a' w') Q := by
  cases h with
  | quiet av hq hd =>
    obtain ⟨v, h1, h2⟩ := hq.run (s.free A ρ) ρ w a.eval (fun x hx b hb => hR.look hb)
    exact Oper.wp_value h1 ⟨ρ, hR.put hd h2⟩
  | fresh av hq hd =>
    obtain ⟨v, W', h1, h2, hb⟩ := hq.run (s.free A ρ) ρ w a.eval (fun x hx b hb => hR.look hb)
    refine Oper.wp_value h1 ⟨ρ, (hR.call hb).put hd (h2.map (fun b hb' hl => ⟨?_, rfl⟩) fun j hj => rfl)⟩
    rcases hb' with h | h
    · exact h
    · refine ⟨hR.up b (Nat.le_trans hR.below.size h), fun k cs hk e => ?_⟩
      have := hR.lt hk
      omega
  | load ty x k off cs av ho hx hm hv hd =>
    obtain ⟨vs, t, g1, g2, g3⟩ := hR.mm k cs hm
    obtain ⟨v, h1, h2⟩ := pick_sound hv g1 g2
    have hp : a.eval x = .pointer (some ⟨ρ k, off, none⟩) := hR.look hx
    refine Oper.wp_value (v := v) (w' := w) ?_ ⟨ρ, hR.put hd h2⟩
    simp only [execOp, ho, Instr.loadAt, hp, Instr.sureAddr, Sem.run_bind, Sem.run_pure, Result.andThen_ok, h1]
  | store ty x y k off cs z i ho hx hy hm hi hs hb hd =>
    obtain ⟨vs, t, g1, g2, g3⟩ := hR.mm k cs hm
    have hp : a.eval x = .pointer (some ⟨ρ k, off, none⟩) := hR.look hx
    have hz : RpW (s.free A ρ) ρ w z (a.eval y) := hR.look hy
    have hzc := hz.cells
    have hzl : (a.eval y).cells.size = z.cells.length := by have := hzc.1; simp at this; exact this.symm
    have hst : (storeVar ty ⟨ρ k, off, none⟩ (a.eval y)).run P w = .ok () (w.setRow (ρ k) (vs.take off ++ (a.eval y).cells.toList ++ vs.drop (off + (a.eval y).cells.toList.length)).toArray) := by
      unfold storeVar
      have hne : ¬ ((a.eval y).cells.size ≠ i.size) := by rw [hzl, hs]; simp
      simp only [Sem.run_bind, run_sizeOf' hi, Result.andThen_ok, if_neg hne]
      have hall : ∀ v ∈ (a.eval y).cells.toList, v.oneCell' = true := fun v hv => by
        obtain ⟨j, hj⟩ := List.getElem?_of_mem hv
        have hlt : j < z.cells.length := by rw [hzc.1]; exact (List.getElem?_eq_some_iff.1 hj).1
        exact (hzc.2 j _ v (List.getElem?_eq_getElem hlt) hj).cell
      have := run_storeCells_at (P := P) (ρ k) off t (a.eval y).cells.toList 0 vs.toArray w g1 (by have := g2.1; simp; omega) hall
      simpa using this
    have hrel := (Rel.set (k := k) (ds := splice cs off z.cells) (hR.put (dst := o.dst) hd (RpV.undef _)) (by rw [AS.mem_put]; exact hm) (by rw [AS.free_put]; exact g2.splice hzc off hb))
    unfold Oper.wp
    have hrun : (execOp a.eval o).run P w = .ok .skip (w.setRow (ρ k) (vs.take off ++ (a.eval y).cells.toList ++ vs.drop (off + (a.eval y).cells.toList.length)).toArray) := by
      simp only [execOp, ho, Instr.storeAt, hp, Instr.sureAddr, Sem.run_bind, Sem.run_pure, Result.andThen_ok, hst]
    rw [hrun]
    exact ⟨ρ, hrel⟩
  | new cs d hdst hm hn hd =>
    have main : ∀ (vs : List Value) (ty : TypeId), RpL (s.free A ρ) ρ w cs vs → (∀ x ∈ cs, ∀ j, x.owns j → ∃ cs', s.mem j = some cs') → (execOp a.eval o).run P w = .ok (.value (.pointer (some ⟨w.heap.size, 0, none⟩))) (w.alloc (.cells vs.toArray ty)) →
        o.wp P a w (fun a' w' => ∃ ρ', Rel B A ((s.setm d cs).put (some d) (.w (.one (.own d 0)))) ρ' a' w') Q := by
      intro vs ty hl hown hrun
      refine Oper.wp_value hrun ⟨fun k => if k = d then w.heap.size else ρ k, ?_⟩
      rw [hdst]
      refine (hR.new ok hd hm hl hown).put (fun d' e => by cases e; exact hd) ?_
      show Value.pointer _ = Value.pointer _
      simp
    cases hn with
    | alloc ty i z cs ho hi hz hc h1 =>
      subst hc
      refine main z.cells.toList ty ⟨by simp, fun j x v hx hv => ?_⟩ (fun x hx j hj => ?_) ?_
      · rw [List.getElem?_map, hv] at hx
        cases hx
        exact ⟨rfl, List.all_eq_true.1 h1 v (List.mem_of_getElem? hv)⟩
      · obtain ⟨v, _, rfl⟩ := List.mem_map.1 hx
        cases hj
      · have hzv : (zeroValue ty).run P w = .ok z w := by simp [zeroValue, typeInfo, program, Sem.run_bind, Sem.run, hi, Result.andThen, hz]
        simp only [execOp, ho, Instr.alloc, Sem.run_bind, hzv, Result.andThen_ok, newVar, newRow, newObj, Sem.run]
        rfl
    | box ty x z ho hx =>
      have hz : RpW (s.free A ρ) ρ w z (a.eval x) := hR.look hx
      refine main (a.eval x).cells.toList ty hz.cells (fun y hy j hj => ?_) ?_
      · cases x with
        | tmp t => exact ok.tm t _ j hx ⟨y, hy, hj⟩
        | const v =>
          simp only [AS.look] at hx
          split at hx
          · cases hx; simp [AW.cells] at hy; subst hy; cases hj
          · cases hx
        | global g => cases hx; simp [AW.cells] at hy; subst hy; cases hj
        | func g => cases hx; simp [AW.cells] at hy; subst hy; cases hj
      · simp only [execOp, ho, Instr.box, newVar, newRow, newObj, Sem.run_bind, Sem.run, Result.andThen_ok]
        rfl
  | call f args r hc hp hd =>
    obtain ⟨⟨c, g, ho, hcal, hh⟩, hent⟩ := hc
    have hlk : ∀ {y : Operand} {x : AV}, x ∈ args → s.look y = some x → RpV (s.free A ρ) id w x (a.eval y) := fun {y x} hx hy => Rel.id_of_closed (ρ := ρ) (hp.ca x hx) (hR.look hy)
    obtain ⟨us, hvs, hrun⟩ : ∃ us : List Value, RpVs (s.free A ρ) id w args us ∧ (execOp a.eval o).run P w = .ok (.enter f us.toArray) w := by
      rcases hh with ⟨bs, hg, hargs, hfl⟩ | ⟨cs, hg, hargs⟩
      · have hgv : a.eval g = .func (.func f) bs.toArray #[] := (hR.look hg).1
        refine ⟨bs ++ c.args.toList.map a.eval, ?_, ?_⟩
        · refine ⟨by have := congrArg List.length hargs; simpa using this.symm, fun i x v hx hv => ?_⟩
          have h1 : (bs.map (fun b => some (ofV b)) ++ c.args.toList.map s.look)[i]? = some (some x) := by rw [hargs, List.getElem?_map, hx]; rfl
          rcases Nat.lt_or_ge i bs.length with hlt | hge
          · rw [List.getElem?_append_left (by simpa using hlt), List.getElem?_map] at h1
            rw [List.getElem?_append_left hlt] at hv
            rw [hv] at h1
            simp only [Option.map_some, Option.some.injEq] at h1
            subst h1
            exact rpV_ofV (List.all_eq_true.1 hfl v (List.mem_of_getElem? hv))
          · rw [List.getElem?_append_right (by simpa using hge), List.getElem?_map] at h1
            rw [List.getElem?_append_right hge, List.getElem?_map] at hv
            simp only [List.length_map] at h1
            cases hy : c.args.toList[i - bs.length]? with
            | none => rw [hy] at hv; cases hv
            | some y =>
              rw [hy] at h1 hv
              simp only [Option.map_some, Option.some.injEq] at h1 hv
              subst hv
              exact hlk (List.mem_of_getElem? hx) h1
        · have e : bs.toArray ++ c.args.map a.eval ++ #[] = (bs ++ c.args.toList.map a.eval).toArray := by
            rw [Array.append_empty]
            apply Array.ext'
            simp
          simp only [execOp, ho, resolve, hcal, Deferred.ofValue, hgv]
          simp only [Sem.run_bind, Sem.run_pure, Result.andThen_ok, invoke]
          rw [e]
          exact enters_run hent
      · obtain ⟨vs, hgv, hcl⟩ := FunP.caps (ρ := ρ) (hR.look hg)
        refine ⟨c.args.toList.map a.eval ++ vs, ?_, ?_⟩
        · refine ⟨by have := congrArg List.length hargs; have h2 := hcl.1; simp at this ⊢; omega, fun i x v hx hv => ?_⟩
          have h1 : (c.args.toList.map s.look ++ cs.map (fun x => some (.w (.one x))))[i]? = some (some x) := by rw [hargs, List.getElem?_map, hx]; rfl
          rcases Nat.lt_or_ge i c.args.toList.length with hlt | hge
          · rw [List.getElem?_append_left (by simpa using hlt), List.getElem?_map] at h1
            rw [List.getElem?_append_left (by simpa using hlt), List.getElem?_map] at hv
            cases hy : c.args.toList[i]? with
            | none => rw [hy] at hv; cases hv
            | some y =>
              rw [hy] at h1 hv
              simp only [Option.map_some, Option.some.injEq] at h1 hv
              subst hv
              exact hlk (List.mem_of_getElem? hx) h1
          · rw [List.getElem?_append_right (by simpa using hge), List.getElem?_map] at h1
            rw [List.getElem?_append_right (by simpa using hge)] at hv
            simp only [List.length_map] at h1 hv
            cases hy : cs[i - c.args.toList.length]? with
            | none => rw [hy] at h1; cases h1
            | some y =>
              rw [hy] at h1
              simp only [Option.map_some, Option.some.injEq] at h1
              subst h1
              exact hcl.2 _ y v hy hv
        · have e : (#[] : Array Value) ++ c.args.map a.eval ++ vs.toArray = (c.args.toList.map a.eval ++ vs).toArray := by
            apply Array.ext'
            simp
          simp only [execOp, ho, resolve, hcal, Deferred.ofValue, hgv]
          simp only [Sem.run_bind, Sem.run_pure, Result.andThen_ok, invoke]
          rw [e]
          exact enters_run hent
    unfold Oper.wp
    rw [hrun]
    refine (hp.call (s.free A ρ) w _ hvs).mono ?_
    rintro e w' ⟨v, rfl, hv, hb⟩
    refine ⟨ρ, (hR.call hb).put hd (hv.map (fun b hb' hl => ⟨?_, rfl⟩) fun j hj => absurd hj (hp.cr j))⟩
    rcases hb' with h | h
    · exact h
    · refine ⟨hR.up b (Nat.le_trans hR.below.size h), fun k cs hk e => ?_⟩
      have := hR.lt hk
      omega
end
def undefAV : AV := .tup []
/-- is the operation carried out? -/
def want (ops : Array Oper) (o : Oper) (s : AS) : Option Bool :=
  match o.guard with
  | none => some true
  | some (g, b) =>
    match (ops[g]?).bind (·.dst) with
    | some d => match s.tmps d with
      | some (.w (.one (.c (.bool x)))) => some (some x == some b)
      | some (.tup _) => some false
      | _ => none
    | none => none
def memKind (o : Oper) : Nat :=
  match o.op with
  | .load .. => 1
  | .store .. => 2
  | _ => 0
def memApart (x y : Oper) : Bool := !(memKind x == 2 && memKind y != 0) && !(memKind x != 0 && memKind y == 2)
def addrOf (o : Oper) : Option Operand :=
  match o.op with
  | .load _ x => some x
  | .store _ x _ => some x
  | _ => none
/-- two operations do not meet in memory. -/
def MemSep (s : AS) (x y : Oper) : Prop := memApart x y = true ∨ ∃ a b k j o p, addrOf x = some a ∧ addrOf y = some b ∧ s.look a = some (.w (.one (.own k o))) ∧ s.look b = some (.w (.one (.own j p))) ∧ k ≠ j
section
variable {P : Program} {B : Base} {A : Nat → Prop} {s s1 s2 s' : AS} {ρ : Nat → Nat} {a : Act} {w : World} {o oi oj : Oper} {ops : Array Oper}
theorem look_put {x : Operand} {dst : Option Nat} {v : AV} (h : ∀ d, dst = some d → x ≠ .tmp d) : (s.put dst v).look x = s.look x := by
  cases dst with
  | none => rfl
  | some d =>
    cases x with
    | tmp t => simp only [AS.look, AS.put]; exact upd_ne _ _ (fun e => h d rfl (by rw [e]))
    | _ => rfl
theorem look_setm {x : Operand} {k : Nat} {cs : List AC} : (s.setm k cs).look x = s.look x := by cases x <;> rfl
theorem QuietOK.congr {look look' : Operand → Option AV} {av : AV} (h : QuietOK P look o av) (e : ∀ x ∈ o.op.operands, look' x = look x) : QuietOK P look' o av :=
  ⟨h.sel, fun x hx => by rw [e x hx]; exact h.ops x hx, fun U ρ W env he => h.run U ρ W env fun x hx a ha => he x hx a (by rw [e x hx]; exact ha), fun j hj => by
    obtain ⟨x, hx, a, ha, hao⟩ := h.own j hj
    exact ⟨x, hx, a, by rw [e x hx]; exact ha, hao⟩⟩
theorem FreshOK.congr {look look' : Operand → Option AV} {av : AV} (h : FreshOK P look o av) (e : ∀ x ∈ o.op.operands, look' x = look x) : FreshOK P look' o av :=
  ⟨fun x hx => by rw [e x hx]; exact h.ops x hx, h.cl, fun U ρ W env he => h.run U ρ W env fun x hx a ha => he x hx a (by rw [e x hx]; exact ha)⟩
theorem NewOK.congr {look look' : Operand → Option AV} {cs : List AC} (h : NewOK P look o cs) (e : ∀ x ∈ o.op.operands, look' x = look x) : NewOK P look' o cs := by
  cases h with
  | alloc ty i z cs ho hi hz hc h1 => exact .alloc ty i z cs ho hi hz hc h1
  | box ty x z ho hx => exact .box ty x z ho (by rw [e x (by simp [ho, Op.operands])]; exact hx)
theorem CallOK.congr {look look' : Operand → Option AV} {f : FuncId} {args : List AV} (h : CallOK P look o f args) (e : ∀ x ∈ o.op.operands, look' x = look x) : CallOK P look' o f args := by
  obtain ⟨⟨c, g, ho, hc, hh⟩, he⟩ := h
  have eg : look' g = look g := e g (by simp [ho, Op.operands, Call.operands, hc])
  have ea : c.args.toList.map look' = c.args.toList.map look := List.map_congr_left fun x hx => e x (by simp [ho, Op.operands, Call.operands, hc]; exact .inr (by simpa using hx))
  refine ⟨⟨c, g, ho, hc, ?_⟩, he⟩
  rcases hh with ⟨bs, hg, ha, hb⟩ | ⟨cs, hg, ha⟩
  · exact .inl ⟨bs, by rw [eg]; exact hg, by rw [ea]; exact ha, hb⟩
  · exact .inr ⟨cs, by rw [eg]; exact hg, by rw [ea]; exact ha⟩
/-- a step from a state that holds, where it is looked at, the same. -/
theorem AS.put_comm (s : AS) {x y : Option Nat} (v u : AV) (h : ∀ d, x = some d → y ≠ some d) : (s.put x v).put y u = (s.put y u).put x v := by
  cases x with
  | none => rfl
  | some d =>
    cases y with
    | none => rfl
    | some e =>
      have hne : e ≠ d := fun he => h d rfl (by rw [he])
      simp only [AS.put]
      rw [upd_comm _ _ _ hne]
theorem AS.put_setm (s : AS) (x : Option Nat) (v : AV) (k : Nat) (cs : List AC) : (s.put x v).setm k cs = (s.setm k cs).put x v := by cases x <;> rfl
theorem AS.setm_comm (s : AS) {k j : Nat} (cs ds : List AC) (h : j ≠ k) : (s.setm k cs).setm j ds = (s.setm j ds).setm k cs := by
  simp only [AS.setm]
  rw [upd_comm _ _ _ h]
/-- what a step puts, and what it turns in memory. -/
structure Eff where
  v : AV
  m : Option (Nat × List AC)
def Eff.on (e : Eff) (dst : Option Nat) (s : AS) : AS :=
  match e.m with
  | some (k, cs) => (s.setm k cs).put dst e.v
  | none => s.put dst e.v
inductive AEff (P : Program) (n : Nat) (look : Operand → Option AV) (mem : Nat → Option (List AC)) (o : Oper) : Bool → Eff → Prop
  | skip : AEff P n look mem o false ⟨.tup [], none⟩
  | quiet (av : AV) (hq : QuietOK P look o av) : AEff P n look mem o true ⟨av, none⟩
  | fresh (av : AV) (hq : FreshOK P look o av) : AEff P n look mem o true ⟨av, none⟩
  | load (ty : TypeId) (x : Operand) (k off : Nat) (cs : List AC) (av : AW) (ho : o.op = .load ty x) (hx : look x = some (.w (.one (.own k off)))) (hm : mem k = some cs) (hv : pick P ty cs off = some av) : AEff P n look mem o true ⟨.w av, none⟩
  | store (ty : TypeId) (x y : Operand) (k off : Nat) (cs : List AC) (z : AW) (i : TypeInfo) (ho : o.op = .store ty x y) (hx : look x = some (.w (.one (.own k off)))) (hy : look y = some (.w z)) (hm : mem k = some cs) (hi : P.info? ty = some i) (hs : i.size = z.cells.length) (hb : off + z.cells.length ≤ cs.length) : AEff P n look mem o true ⟨.tup [], some (k, splice cs off z.cells)⟩
  | new (cs : List AC) (d : Nat) (hdst : o.dst = some d) (hm : mem d = none) (hn : NewOK P look o cs) : AEff P n look mem o true ⟨.w (.one (.own d 0)), some (d, cs)⟩
  | call (f : FuncId) (args : List AV) (r : AV) (hc : CallOK P look o f args) (hp : PCall P f args r) : AEff P n look mem o true ⟨r, none⟩
theorem AStep.eff (h : AStep P s o s') : ∃ e, AEff P s.n s.look s.mem o true e ∧ s' = e.on o.dst s ∧ ∀ d, o.dst = some d → d < s.n := by
  cases h with
  | quiet av hq hd => exact ⟨_, .quiet av hq, rfl, hd⟩
  | fresh av hq hd => exact ⟨_, .fresh av hq, rfl, hd⟩
  | load ty x k off cs av ho hx hm hv hd => exact ⟨_, .load ty x k off cs av ho hx hm hv, rfl, hd⟩
  | store ty x y k off cs z i ho hx hy hm hi hs hb hd => exact ⟨_, .store ty x y k off cs z i ho hx hy hm hi hs hb, by rw [AS.put_setm]; rfl, hd⟩
  | new cs d hdst hm hn hd => exact ⟨_, .new cs d hdst hm hn, by rw [hdst]; rfl, fun d' e => by rw [hdst] at e; cases e; exact hd⟩
  | call f args r hc hp hd => exact ⟨_, .call f args r hc hp, rfl, hd⟩
theorem AEff.step {e : Eff} (h : AEff P s.n s.look s.mem o true e) (hd : ∀ d, o.dst = some d → d < s.n) : AStep P s o (e.on o.dst s) := by
  cases h with
  | quiet av hq => exact .quiet av hq hd
  | fresh av hq => exact .fresh av hq hd
  | load ty x k off cs av ho hx hm hv => exact .load ty x k off cs av ho hx hm hv hd
  | store ty x y k off cs z i ho hx hy hm hi hs hb =>
    have := AStep.store (P := P) (s := s) ty x y k off cs z i ho hx hy hm hi hs hb hd
    rw [AS.put_setm] at this
    exact this
  | new cs d hdst hm hn =>
    have := AStep.new (P := P) (s := s) cs d hdst hm hn (hd d hdst)
    rw [← hdst] at this
    exact this
  | call f args r hc hp => exact .call f args r hc hp hd
theorem Eff.on_mem (e : Eff) (dst : Option Nat) (s : AS) : (e.on dst s).mem = match e.m with | some (k, cs) => upd s.mem k cs | none => s.mem := by
  unfold Eff.on
  split
  · rename_i h; rw [AS.mem_put]; simp [AS.setm]
  · rename_i h; rw [AS.mem_put]
theorem Eff.on_look (e : Eff) (dst : Option Nat) (s : AS) {x : Operand} (h : ∀ d, dst = some d → x ≠ .tmp d) : (e.on dst s).look x = s.look x := by
  unfold Eff.on
  split
  · rw [look_put h, look_setm]
  · rw [look_put h]
theorem Eff.on_n (e : Eff) (dst : Option Nat) (s : AS) : (e.on dst s).n = s.n := by
  unfold Eff.on
  split
  · rw [AS.n_put]; rfl
  · rw [AS.n_put]
theorem Eff.on_comm (e f : Eff) (x y : Option Nat) (s : AS) (h : ∀ d, x = some d → y ≠ some d) (hk : ∀ k cs j ds, e.m = some (k, cs) → f.m = some (j, ds) → j ≠ k) : f.on y (e.on x s) = e.on x (f.on y s) := by
  unfold Eff.on
  cases he : e.m with
  | none =>
    cases hf : f.m with
    | none => simp only [he, hf]; exact AS.put_comm s _ _ h
    | some q => obtain ⟨j, ds⟩ := q; simp only [he, hf]; rw [AS.put_setm]; exact AS.put_comm _ _ _ h
  | some p =>
    obtain ⟨k, cs⟩ := p
    cases hf : f.m with
    | none => simp only [he, hf]; rw [AS.put_setm]; exact AS.put_comm _ _ _ h
    | some q =>
      obtain ⟨j, ds⟩ := q
      simp only [he, hf]
      rw [AS.put_setm, AS.put_setm, AS.setm_comm s _ _ (hk k cs j ds he hf)]
      exact AS.put_comm _ _ _ h
theorem looks_op {x : Operand} {d : Nat} {y : Oper} (h : d ∉ y.looksAt ops) (hx : x ∈ y.op.operands) : x ≠ .tmp d := fun e => h (by
  subst e
  exact List.mem_append_left _ (List.mem_filterMap.2 ⟨.tmp d, by simpa using hx, rfl⟩))
/-- the diamond. -/
theorem AEff.swap {b c : Bool} {e f : Eff} (ok : s.Ok) (he : AEff P s.n s.look s.mem oi b e) (hf : AEff P (e.on oi.dst s).n (e.on oi.dst s).look (e.on oi.dst s).mem oj c f) (hap : oi.apart ops oj = true) (hma : MemSep s oi oj) :
    AEff P s.n s.look s.mem oj c f ∧ AEff P (f.on oj.dst s).n (f.on oj.dst s).look (f.on oj.dst s).mem oi b e ∧ f.on oj.dst (e.on oi.dst s) = e.on oi.dst (f.on oj.dst s) := by
  obtain ⟨a1, a2, a3⟩ := Oper.apart_spec hap
  have lj : ∀ x ∈ oj.op.operands, (e.on oi.dst s).look x = s.look x := fun x hx => Eff.on_look _ _ _ fun d hd => looks_op (a1 d hd) hx
  have mem1 := Eff.on_mem e oi.dst s
  -- a block that is pointed to by an operand of s is none that oi makes
  have hkeep : ∀ k cs, e.m = some (k, cs) → (∃ cs', s.mem k = some cs') ∨ s.mem k = none := fun k cs _ => by
    cases h : s.mem k with
    | none => exact .inr rfl
    | some c => exact .inl ⟨c, rfl⟩
  have own_mem : ∀ x k off, s.look x = some (.w (.one (.own k off))) → ∃ cs, s.mem k = some cs := fun x k off hx => by
    cases x with
    | tmp t => exact ok.tm t _ k hx ⟨.own k off, by simp [AW.cells], rfl⟩
    | const v => simp only [AS.look] at hx; split at hx <;> cases hx
    | global g => cases hx
    | func g => cases hx
  -- where oi is neither a store nor (oj a store and oi a load): memory that oj reads is the same
  have mj : ∀ x k off, addrOf oj = some x → memKind oj ≠ 0 → s.look x = some (.w (.one (.own k off))) → (e.on oi.dst s).mem k = s.mem k := by
    intro x k off hadr hkind hx
    rw [mem1]
    cases he with
    | skip => rfl
    | quiet av hq => rfl
    | fresh av hq => rfl
    | load => rfl
    | call => rfl
    | store ty x' y' k' off' cs z i ho hx' hy hm hi hs hb =>
      rcases hma with hma | ⟨a, b, q, j, o, p, ha, hb', ea, eb, hne⟩
      · exfalso
        have : memKind oi = 2 := by simp [memKind, ho]
        simp [memApart, this, hkind] at hma
      · simp only [addrOf, ho, Option.some.injEq] at ha
        subst ha
        rw [hx'] at ea
        cases ea
        rw [hadr] at hb'
        cases hb'
        rw [hx] at eb
        cases eb
        show upd s.mem k' _ k = s.mem k
        exact upd_ne _ _ (Ne.symm hne)
    | new cs d hdst hm hn =>
      obtain ⟨c, hc⟩ := own_mem x k off hx
      show upd s.mem d cs k = s.mem k
      exact upd_ne _ _ (fun e => by subst e; rw [hm] at hc; cases hc)
  have hf' : AEff P s.n s.look s.mem oj c f := by
    cases hf with
    | skip => exact .skip
    | quiet av hq => exact .quiet av (hq.congr fun x hx => (lj x hx).symm)
    | fresh av hq => exact .fresh av (hq.congr fun x hx => (lj x hx).symm)
    | load ty x k off cs av ho hx hm hv =>
      have hx' : s.look x = some (.w (.one (.own k off))) := by rw [← lj x (by simp [ho, Op.operands])]; exact hx
      exact .load ty x k off cs av ho hx' (by rw [← mj x k off (by simp [addrOf, ho]) (by simp [memKind, ho]) hx']; exact hm) hv
    | store ty x y k off cs z i ho hx hy hm hi hs hb =>
      have hx' : s.look x = some (.w (.one (.own k off))) := by rw [← lj x (by simp [ho, Op.operands])]; exact hx
      exact .store ty x y k off cs z i ho hx' (by rw [← lj y (by simp [ho, Op.operands])]; exact hy) (by rw [← mj x k off (by simp [addrOf, ho]) (by simp [memKind, ho]) hx']; exact hm) hi hs hb
    | new cs d hdst hm hn =>
      refine .new cs d hdst ?_ (hn.congr fun x hx => (lj x hx).symm)
      rw [mem1] at hm
      cases hem : e.m with
      | none => rw [hem] at hm; exact hm
      | some p =>
        obtain ⟨k, c⟩ := p
        rw [hem] at hm
        by_cases ek : d = k
        · subst ek
          change upd s.mem d c d = none at hm
          rw [upd_same] at hm
          cases hm
        · change upd s.mem k c d = none at hm
          rwa [upd_ne _ _ ek] at hm
    | call g args r hc hp => exact .call g args r (hc.congr fun x hx => (lj x hx).symm) hp
  have li : ∀ x ∈ oi.op.operands, (f.on oj.dst s).look x = s.look x := fun x hx => Eff.on_look _ _ _ fun d hd => looks_op (a3 d hd) hx
  have mem2 := Eff.on_mem f oj.dst s
  have he' : AEff P (f.on oj.dst s).n (f.on oj.dst s).look (f.on oj.dst s).mem oi b e := by
    have mi : ∀ x k off, addrOf oi = some x → memKind oi ≠ 0 → s.look x = some (.w (.one (.own k off))) → (f.on oj.dst s).mem k = s.mem k := by
      intro x k off hadr hkind hx
      rw [mem2]
      cases hf' with
      | skip => rfl
      | quiet av hq => rfl
      | fresh av hq => rfl
      | load => rfl
      | call => rfl
      | store ty x' y' k' off' cs z i ho hx' hy hm hi hs hb =>
        rcases hma with hma | ⟨a, b, q, j, o, p, ha, hb', ea, eb, hne⟩
        · exfalso
          have : memKind oj = 2 := by simp [memKind, ho]
          simp [memApart, this, hkind] at hma
        · simp only [addrOf, ho, Option.some.injEq] at hb'
          subst hb'
          rw [hx'] at eb
          cases eb
          rw [hadr] at ha
          cases ha
          rw [hx] at ea
          cases ea
          show upd s.mem k' _ k = s.mem k
          exact upd_ne _ _ hne
      | new cs d hdst hm hn =>
        obtain ⟨c, hc⟩ := own_mem x k off hx
        show upd s.mem d cs k = s.mem k
        exact upd_ne _ _ (fun e => by subst e; rw [hm] at hc; cases hc)
    cases he with
    | skip => exact .skip
    | quiet av hq => exact .quiet av (hq.congr fun x hx => li x hx)
    | fresh av hq => exact .fresh av (hq.congr fun x hx => li x hx)
    | load ty x k off cs av ho hx hm hv => exact .load ty x k off cs av ho (by rw [li x (by simp [ho, Op.operands])]; exact hx) (by rw [mi x k off (by simp [addrOf, ho]) (by simp [memKind, ho]) hx]; exact hm) hv
    | store ty x y k off cs z i ho hx hy hm hi hs hb => exact .store ty x y k off cs z i ho (by rw [li x (by simp [ho, Op.operands])]; exact hx) (by rw [li y (by simp [ho, Op.operands])]; exact hy) (by rw [mi x k off (by simp [addrOf, ho]) (by simp [memKind, ho]) hx]; exact hm) hi hs hb
    | new cs d hdst hm hn =>
      refine .new cs d hdst ?_ (hn.congr fun x hx => li x hx)
      rw [mem2]
      cases hf' with
      | skip => exact hm
      | quiet av hq => exact hm
      | fresh av hq => exact hm
      | load => exact hm
      | call => exact hm
      | store ty x' y' k' off' cs' z i ho hx' hy hm' hi hs hb =>
        show upd s.mem k' _ d = none
        rw [upd_ne _ _ (fun e => by subst e; rw [hm] at hm'; cases hm')]
        exact hm
      | new cs' d' hdst' hm' hn' =>
        show upd s.mem d' _ d = none
        rw [upd_ne _ _ (fun e => a2 d hdst (by rw [hdst', e]))]
        exact hm
    | call g args r hc hp => exact .call g args r (hc.congr fun x hx => li x hx) hp
  refine ⟨hf', he', Eff.on_comm e f oi.dst oj.dst s a2 ?_⟩
  intro k cs j ds h1 h2 ejk
  subst ejk
  cases he with
  | skip => cases h1
  | quiet => cases h1
  | fresh => cases h1
  | load => cases h1
  | call => cases h1
  | store ty x y k' off cs' z i ho hx hy hm hi hs hb =>
    cases h1
    cases hf' with
    | skip => cases h2
    | quiet => cases h2
    | fresh => cases h2
    | load => cases h2
    | call => cases h2
    | store ty2 x2 y2 k2 off2 cs2 z2 i2 ho2 hx2 =>
      cases h2
      rcases hma with hma | ⟨a, b, q, j, o, p, ha, hb', ea, eb, hne⟩
      · simp [memApart, memKind, ho, ho2] at hma
      · simp only [addrOf, ho, ho2, Option.some.injEq] at ha hb'
        subst ha
        subst hb'
        rw [hx] at ea
        rw [hx2] at eb
        cases ea
        cases eb
        exact hne rfl
    | new cs2 d2 hdst2 hm2 hn2 => cases h2; rw [hm2] at hm; cases hm
  | new cs' d hdst hm hn =>
    cases h1
    cases hf' with
    | skip => cases h2
    | quiet => cases h2
    | fresh => cases h2
    | load => cases h2
    | call => cases h2
    | store ty2 x2 y2 k2 off2 cs2 z2 i2 ho2 hx2 hy2 hm2 => cases h2; rw [hm2] at hm; cases hm
    | new cs2 d2 hdst2 hm2 hn2 => cases h2; exact a2 _ hdst hdst2
end
section
variable {P : Program} {B : Base} {A : Nat → Prop} {s s1 s2 s' : AS} {ρ : Nat → Nat} {a : Act} {w : World} {o oi oj : Oper} {ops : Array Oper} {md : Region.Mode}
theorem look_ok {x : Operand} {av : AV} {j : Nat} (ok : s.Ok) (hx : s.look x = some av) (hj : av.owns j) : ∃ cs, s.mem j = some cs := by
  have none : ∀ v, ¬ (AV.w (.one (.c v))).owns j := fun v ⟨y, hy, h⟩ => by simp [AW.cells] at hy; subst hy; cases h
  cases x with
  | tmp t => exact ok.tm t av j hx hj
  | const v =>
    simp only [AS.look] at hx
    split at hx
    · cases hx; exact absurd hj (none _)
    · cases hx
  | global g => cases hx; exact absurd hj (none _)
  | func g => cases hx; exact absurd hj (none _)
theorem AS.Ok.put {dst : Option Nat} {av : AV} (ok : s.Ok) (h : ∀ j, av.owns j → ∃ cs, s.mem j = some cs) : (s.put dst av).Ok := by
  cases dst with
  | none => exact ok
  | some d =>
    refine ⟨fun t bv j ht hj => ?_, ok.mm⟩
    simp only [AS.put] at ht ⊢
    by_cases e : t = d
    · subst e; rw [upd_same] at ht; cases ht; exact h j hj
    · rw [upd_ne _ _ e] at ht; exact ok.tm t bv j ht hj
theorem AS.Ok.setm {k : Nat} {cs : List AC} (ok : s.Ok) (h : ∀ x ∈ cs, ∀ j, x.owns j → ∃ cs', s.mem j = some cs') : (s.setm k cs).Ok := by
  have up : ∀ j, (∃ c, s.mem j = some c) → ∃ c, (s.setm k cs).mem j = some c := fun j ⟨c, hc⟩ => by
    by_cases e : j = k
    · exact ⟨cs, by rw [e]; exact upd_same _ _ _⟩
    · exact ⟨c, by simp only [AS.setm]; rw [upd_ne _ _ e]; exact hc⟩
  refine ⟨fun t bv j ht hj => up j (ok.tm t bv j ht hj), fun k' c x j hk hx hj => up j ?_⟩
  simp only [AS.setm] at hk
  by_cases e : k' = k
  · subst e; rw [upd_same] at hk; cases hk; exact h x hx j hj
  · rw [upd_ne _ _ e] at hk; exact ok.mm k' c x j hk hx hj
theorem pick_mem {ty : TypeId} {cs : List AC} {off : Nat} {av : AW} (h : pick P ty cs off = some av) : ∀ x ∈ av.cells, x ∈ cs := by
  unfold pick at h
  split at h
  · cases hi : P.info? ty with
    | none => rw [hi] at h; cases h
    | some i =>
      rw [hi] at h
      simp only [Option.bind_some] at h
      split at h
      · cases h; exact fun x hx => List.mem_of_mem_drop (List.mem_of_mem_take hx)
      · cases h
  · cases hi : P.info? ty with
    | none => rw [hi] at h; cases h
    | some i =>
      rw [hi] at h
      simp only [Option.bind_some] at h
      split at h
      · cases h; exact fun x hx => List.mem_of_mem_drop (List.mem_of_mem_take hx)
      · cases h
  · cases hx : cs[off]? with
    | none => rw [hx] at h; cases h
    | some y => rw [hx] at h; cases h; intro x hx'; simp [AW.cells] at hx'; subst hx'; exact List.mem_of_getElem? hx
  · cases h
theorem AStep.ok (h : AStep P s o s') (ok : s.Ok) : s'.Ok := by
  cases h with
  | quiet av hq hd =>
    refine ok.put fun j hj => ?_
    obtain ⟨x, hx, b, hb, hbj⟩ := hq.own j hj
    exact look_ok ok hb hbj
  | fresh av hq hd => exact ok.put fun j hj => absurd hj (hq.cl j)
  | load ty x k off cs av ho hx hm hv hd =>
    refine ok.put fun j hj => ?_
    obtain ⟨y, hy, hyj⟩ := hj
    exact ok.mm k cs y j hm (pick_mem hv y hy) hyj
  | store ty x y k off cs z i ho hx hy hm hi hs hb hd =>
    rw [AS.put_setm]
    refine AS.Ok.put (ok.setm fun x hx j hj => ?_) fun j hj => (by obtain ⟨y, hy, _⟩ := hj; cases hy)
    unfold splice at hx
    simp only [List.mem_append] at hx
    rcases hx with (h1 | h1) | h1
    · exact ok.mm k cs x j hm (List.mem_of_mem_take h1) hj
    · exact look_ok ok hy ⟨x, h1, hj⟩
    · exact ok.mm k cs x j hm (List.mem_of_mem_drop h1) hj
  | new cs d hdst hm hn hd =>
    refine AS.Ok.put (ok.setm fun x hx j hj => ?_) fun j hj => ?_
    · cases hn with
      | alloc ty i z cs ho hi hz hc h1 => subst hc; obtain ⟨v, _, rfl⟩ := List.mem_map.1 hx; cases hj
      | box ty y z ho hy => exact look_ok ok hy ⟨x, hx, hj⟩
    · obtain ⟨y, hy, hyj⟩ := hj
      simp [AW.cells] at hy
      subst hy
      cases hyj
      exact ⟨cs, upd_same _ _ _⟩
  | call f args r hc hp hd => exact ok.put fun j hj => absurd hj (hp.cr j)
/-- one operation comes up, or is passed by. -/
def aOp (P : Program) (ops : Array Oper) (o : Oper) (K : AS → Prop) (s : AS) : Prop :=
  ∃ b, want ops o s = some b ∧ ∃ e, AEff P s.n s.look s.mem o b e ∧ (∀ d, o.dst = some d → d < s.n) ∧ K (e.on o.dst s)
def aAny (P : Program) (md : Region.Mode) (ops : Array Oper) (K : AS → Prop) : Nat → Array Bool → AS → Prop
  | 0, listed, s => Region.ready md ops listed = [] ∧ K s
  | fuel + 1, listed, s => (Region.ready md ops listed = [] → K s) ∧
    ∀ i ∈ Region.ready md ops listed, ∀ o, ops[i]? = some o → aOp P ops o (aAny P md ops K fuel (listed.setIfInBounds i true)) s
theorem want_sound {b : Bool} (h : want ops o s = some b) (hR : Rel B A s ρ a w) : Region.wanted o (yielded ops a.tmps) = b := by
  unfold want at h
  unfold Region.wanted
  split at h
  · rename_i hg; rw [hg]; cases h; rfl
  · rename_i g b' hg
    rw [hg]
    split at h
    · rename_i d hd
      split at h
      · rename_i x hx
        cases h
        obtain ⟨v, h1, h2⟩ := hR.tm d _ hx
        obtain ⟨rfl, _⟩ := h2
        simp [yielded, hd, h1]
      · rename_i xs hx
        cases h
        obtain ⟨v, h1, h2⟩ := hR.tm d _ hx
        obtain ⟨vs, rfl, _⟩ := h2
        simp [yielded, hd, h1]
      · cases h
    · cases h
theorem aOp_ok {K : AS → Prop} (ok : s.Ok) (h : aOp P ops o K s) : ∃ s', s'.Ok ∧ K s' := by
  obtain ⟨b, _, e, he, hd, hk⟩ := h
  cases b with
  | true => exact ⟨_, (he.step hd).ok ok, hk⟩
  | false => cases he; exact ⟨_, ok.put fun j hj => (by obtain ⟨y, hy, _⟩ := hj; cases hy), hk⟩
theorem eff_ok {b : Bool} {e : Eff} (ok : s.Ok) (he : AEff P s.n s.look s.mem o b e) (hd : ∀ d, o.dst = some d → d < s.n) : (e.on o.dst s).Ok := by
  cases b with
  | true => exact (he.step hd).ok ok
  | false => cases he; exact ok.put fun j hj => (by obtain ⟨y, hy, _⟩ := hj; cases hy)
theorem aOp_sound {K : AS → Prop} {K' : Act → World → Prop} {Q : Exit → Act → World → Prop} {i : Nat} (hi : ops[i]? = some o) (ok : s.Ok) (hR : Rel B A s ρ a w) (h : aOp P ops o K s)
    (hK : ∀ s' ρ' a' w', s'.Ok → Rel B A s' ρ' a' w' → K s' → K' a' w') : wpOp P ops Q i K' a w := by
  obtain ⟨b, hw, e, he, hd, hk⟩ := h
  have hw' := want_sound hw hR
  unfold wpOp
  simp only [hi]
  cases b with
  | true =>
    rw [hw']
    simp only [if_true]
    have ok' := (he.step hd).ok ok
    exact .inl (Oper.wp_mono (fun a' w' ⟨ρ', hr⟩ => hK _ ρ' a' w' ok' hr hk) (AStep.sound (he.step hd) hR ok))
  | false =>
    rw [hw']
    simp only [Bool.false_eq_true, if_false]
    cases he
    exact hK _ ρ _ _ (ok.put fun j hj => (by obtain ⟨y, hy, _⟩ := hj; cases hy)) (hR.put hd (RpV.undef _)) hk
theorem aAny_sound {K : AS → Prop} {Q : Exit → Act → World → Prop} (hQ : ∀ s' ρ' a' w', s'.Ok → Rel B A s' ρ' a' w' → K s' → Q .normal a' w') : ∀ (fuel : Nat) (listed : Array Bool) (s : AS) (ρ : Nat → Nat) (a : Act) (w : World), s.Ok → Rel B A s ρ a w →
    aAny P md ops K fuel listed s → wpAny P md ops Q fuel listed a w
  | 0, _, _, _, _, _, ok, hR, h => ⟨h.1, hQ _ _ _ _ ok hR h.2⟩
  | fuel + 1, listed, s, ρ, a, w, ok, hR, h => ⟨fun h0 => hQ _ _ _ _ ok hR (h.1 h0), fun i hi => by
      obtain ⟨h0, o, ho, _⟩ := mem_ready.1 hi
      exact aOp_sound ho ok hR (h.2 i hi o ho) fun s' ρ' a' w' ok' hR' hk => aAny_sound hQ fuel _ s' ρ' a' w' ok' hR' hk⟩
theorem want_put {b : Option Bool} {e : Eff} {dst : Option Nat} (hl : ∀ d, dst = some d → d ∉ o.looksAt ops) : want ops o (e.on dst s) = want ops o s := by
  have ht : ∀ d, (∀ d', dst = some d' → d ≠ d') → (e.on dst s).tmps d = s.tmps d := fun d h => by
    have := Eff.on_look e dst s (x := .tmp d) (fun d' hd' e' => h d' hd' (by cases e'; rfl))
    exact this
  unfold want
  cases hg : o.guard with
  | none => rfl
  | some p =>
    obtain ⟨g, b'⟩ := p
    simp only
    cases hd : (ops[g]?).bind (·.dst) with
    | none => rfl
    | some d =>
      simp only
      rw [ht d (fun d' hd' e' => hl d' hd' (by
        subst e'
        unfold Oper.looksAt
        rw [hg]
        exact List.mem_append_right _ (by simp [hd])))]
theorem aOp_swap {b : Bool} {e : Eff} {K : AS → Prop} (ok : s.Ok) (hw : want ops oi s = some b) (he : AEff P s.n s.look s.mem oi b e) (hdi : ∀ d, oi.dst = some d → d < s.n) (hap : oi.apart ops oj = true) (hma : MemSep s oi oj) (h : aOp P ops oj K (e.on oi.dst s)) :
    aOp P ops oj (fun t => (want ops oi t = some b ∧ AEff P t.n t.look t.mem oi b e ∧ (∀ d, oi.dst = some d → d < t.n) ∧ t.Ok) ∧ K (e.on oi.dst t)) s := by
  obtain ⟨a1, a2, a3⟩ := Oper.apart_spec hap
  obtain ⟨c, hwj, f, hf, hdj, hk⟩ := h
  obtain ⟨h1, h2, h3⟩ := AEff.swap ok he hf hap hma
  rw [want_put (b := none) a1] at hwj
  have hdj' : ∀ d, oj.dst = some d → d < s.n := fun d hd => by have := hdj d hd; rwa [Eff.on_n] at this
  refine ⟨c, hwj, f, h1, hdj', ⟨?_, h2, fun d hd => by rw [Eff.on_n]; exact hdi d hd, eff_ok ok h1 hdj'⟩, by rw [← h3]; exact hk⟩
  rw [want_put (b := none) a3]
  exact hw
theorem aOp_mono {K K' : AS → Prop} (h : ∀ s, K s → K' s) (hh : aOp P ops o K s) : aOp P ops o K' s :=
  let ⟨b, h1, e, h2, h3, h4⟩ := hh
  ⟨b, h1, e, h2, h3, h _ h4⟩
/-- what stays so while other operations of the region come up. -/
def SepT (ops : Array Oper) (listed : Array Bool) (x y : Oper) (s : AS) : Prop :=
  memApart x y = true ∨ ∃ t u k j o p, addrOf x = some (.tmp t) ∧ addrOf y = some (.tmp u) ∧ s.tmps t = some (.w (.one (.own k o))) ∧ s.tmps u = some (.w (.one (.own j p))) ∧ k ≠ j ∧
    ∀ i oi, ops[i]? = some oi → listed.getD i true = false → oi.dst ≠ some t ∧ oi.dst ≠ some u
theorem SepT.sep {listed : Array Bool} (h : SepT ops listed oi oj s) : MemSep s oi oj := by
  rcases h with h | ⟨t, u, k, j, o, p, h1, h2, h3, h4, h5, _⟩
  · exact .inl h
  · exact .inr ⟨_, _, k, j, o, p, h1, h2, h3, h4, h5⟩
theorem Eff.on_tmps {e : Eff} {dst : Option Nat} {t : Nat} (h : dst ≠ some t) : (e.on dst s).tmps t = s.tmps t := by
  have := Eff.on_look e dst s (x := .tmp t) (fun d hd e' => by cases e'; exact h hd)
  exact this
theorem SepT.on {listed : Array Bool} {f : Eff} {o : Oper} {i : Nat} (h : SepT ops listed oi oj s) (ho : ops[i]? = some o) (hun : listed.getD i true = false) : SepT ops (listed.setIfInBounds i true) oi oj (f.on o.dst s) := by
  rcases h with h | ⟨t, u, k, j, q, p, h1, h2, h3, h4, h5, h6⟩
  · exact .inl h
  · obtain ⟨n1, n2⟩ := h6 i o ho hun
    refine .inr ⟨t, u, k, j, q, p, h1, h2, by rw [Eff.on_tmps n1]; exact h3, by rw [Eff.on_tmps n2]; exact h4, h5, fun i' o' ho' hun' => h6 i' o' ho' ?_⟩
    by_cases e : i = i'
    · subst e; exact hun
    · rwa [getD_set_ne true e] at hun'
theorem aOp_swap2 {b : Bool} {e : Eff} {K : AS → Prop} (ok : s.Ok) (hw : want ops oi s = some b) (he : AEff P s.n s.look s.mem oi b e) (hdi : ∀ d, oi.dst = some d → d < s.n) (hap : oi.apart ops oj = true) (hma : MemSep s oi oj) (h : aOp P ops oj K (e.on oi.dst s)) :
    aOp P ops oj (fun t => (∃ f : Eff, t = f.on oj.dst s) ∧ (want ops oi t = some b ∧ AEff P t.n t.look t.mem oi b e ∧ (∀ d, oi.dst = some d → d < t.n) ∧ t.Ok) ∧ K (e.on oi.dst t)) s := by
  obtain ⟨c, h1, f, h2, h3, h4⟩ := aOp_swap ok hw he hdi hap hma h
  exact ⟨c, h1, f, h2, h3, ⟨f, rfl⟩, h4⟩
/-- j waits for i, in a few steps. -/
def waits (md : Region.Mode) (ops : Array Oper) : Nat → Nat → Nat → Bool
  | 0, _, _ => false
  | f + 1, j, i => match ops[j]? with
    | some o => o.after.any fun e => Region.binds md e && (e.on == i || waits md ops f e.on i)
    | none => false
def Down (md : Region.Mode) (ops : Array Oper) (listed : Array Bool) : Prop := ∀ k o, listed.getD k false = true → ops[k]? = some o → ∀ e ∈ o.after, Region.binds md e = true → listed.getD e.on false = true
theorem waits_listed {listed : Array Bool} (hd : Down md ops listed) : ∀ (f j i : Nat) (o : Oper), ops[j]? = some o → (∀ e ∈ o.after, Region.binds md e = true → listed.getD e.on false = true) → waits md ops f j i = true → listed.getD i false = true
  | 0, _, _, _, _, _, h => by cases h
  | f + 1, j, i, o, ho, hall, h => by
    simp only [waits, ho] at h
    obtain ⟨e, he, hb⟩ := Array.any_eq_true'.1 h
    simp only [Bool.and_eq_true, Bool.or_eq_true, beq_iff_eq] at hb
    obtain ⟨h1, h2⟩ := hb
    have hl := hall e he h1
    rcases h2 with h2 | h2
    · rw [← h2]; exact hl
    · cases ho' : ops[e.on]? with
      | none => cases f <;> simp [waits, ho'] at h2
      | some o' => exact waits_listed hd f e.on i o' ho' (fun e' he' hb' => hd e.on o' hl ho' e' he' hb') h2
theorem Down.set {listed : Array Bool} (hd : Down md ops listed) {j : Nat} (hj : j ∈ Region.ready md ops listed) : Down md ops (listed.setIfInBounds j true) := by
  intro k o hk ho e he hb
  obtain ⟨_, oj, hoj, hall⟩ := mem_ready.1 hj
  by_cases e' : j = k
  · subst e'
    rw [hoj] at ho
    cases ho
    exact getD_set_true (hall e he hb)
  · refine getD_set_true (hd k o ?_ ho e he hb)
    have : (listed.setIfInBounds j true).getD k false = listed.getD k false := by simp [Array.getElem?_setIfInBounds_ne e']
    rwa [this] at hk
theorem aAny_first {K : AS → Prop} {i : Nat} {b : Bool} {e : Eff} (hi : ops[i]? = some oi) : ∀ (fuel : Nat) (listed : Array Bool) (s : AS),
      (∀ j oj, ops[j]? = some oj → j ≠ i → listed.getD j true = false → (∀ e ∈ oj.after, Region.binds md e = true → e.on ≠ i) → waits md ops 4 j i = false → oi.apart ops oj = true ∧ SepT ops listed oi oj s) →
      Down md ops listed → i ∈ Region.ready md ops listed → s.Ok → want ops oi s = some b → AEff P s.n s.look s.mem oi b e → (∀ d, oi.dst = some d → d < s.n) →
      aAny P md ops K fuel (listed.setIfInBounds i true) (e.on oi.dst s) → aAny P md ops K (fuel + 1) listed s := by
  intro fuel
  induction fuel with
  | zero =>
    intro listed s _ hdn hr ok hw he hd H
    refine ⟨fun h => (by rw [h] at hr; cases hr), fun j hj oj hoj => ?_⟩
    by_cases hji : j = i
    · subst hji; rw [hi] at hoj; cases hoj; exact ⟨b, hw, e, he, hd, H⟩
    · have := ready_mono hj hji
      rw [H.1] at this
      cases this
  | succ fuel ih =>
    intro listed s hfree hdn hr ok hw he hd H
    refine ⟨fun h => (by rw [h] at hr; cases hr), fun j hj oj hoj => ?_⟩
    by_cases hji : j = i
    · subst hji; rw [hi] at hoj; cases hoj; exact ⟨b, hw, e, he, hd, H⟩
    · have h1 := H.2 j (ready_mono hj hji) oj hoj
      obtain ⟨hjun, oj', hoj', hall⟩ := mem_ready.1 hj
      rw [hoj] at hoj'
      cases hoj'
      have hnot : ∀ e ∈ oj.after, Region.binds md e = true → e.on ≠ i := fun e he hb heq => by
        have h1 := hall e he hb
        have h0 := (mem_ready.1 hr).1
        rw [heq] at h1
        rcases Nat.lt_or_ge i listed.size with h' | h'
        · simp [h'] at h0 h1; rw [h0] at h1; cases h1
        · simp [Array.getElem?_eq_none h'] at h1
      have hwt : waits md ops 4 j i = false := by
        cases hwj : waits md ops 4 j i with
        | false => rfl
        | true =>
          have h1 := waits_listed hdn 4 j i oj hoj hall hwj
          have h0 := (mem_ready.1 hr).1
          rcases Nat.lt_or_ge i listed.size with h' | h'
          · simp [h'] at h0 h1; rw [h0] at h1; cases h1
          · simp [Array.getElem?_eq_none h'] at h1
      obtain ⟨g1, g2⟩ := hfree j oj hoj hji hjun hnot hwt
      have h2 := aOp_swap2 ok hw he hd g1 g2.sep h1
      refine aOp_mono (fun t h3 => ?_) h2
      obtain ⟨⟨f, rfl⟩, h3⟩ := h3
      have hfree' : ∀ k ok, ops[k]? = some ok → k ≠ i → (listed.setIfInBounds j true).getD k true = false →
          (∀ e ∈ ok.after, Region.binds md e = true → e.on ≠ i) → waits md ops 4 k i = false → oi.apart ops ok = true ∧ SepT ops (listed.setIfInBounds j true) oi ok (f.on oj.dst s) := fun k ok hk hki hun hno hwk => by
        have hun' : listed.getD k true = false := by
          by_cases hjk : j = k
          · subst hjk; exact hjun
          · rwa [getD_set_ne true hjk] at hun
        obtain ⟨q1, q2⟩ := hfree k ok hk hki hun' hno hwk
        exact ⟨q1, q2.on hoj hjun⟩
      refine ih (listed.setIfInBounds j true) _ hfree' (hdn.set hj) (ready_mono hr (Ne.symm hji)) h3.1.2.2.2 h3.1.1 h3.1.2.1 h3.1.2.2.1 ?_
      rw [Array.setIfInBounds_comm _ _ hji]
      exact h3.2
/-- the walk in the order of the text. -/
def aList (P : Program) (ops : Array Oper) (K : AS → Prop) : List Oper → AS → Prop
  | [], s => K s
  | o :: rest, s => aOp P ops o (aList P ops K rest) s
/-- the pairs of slots that must point to blocks of their own. -/
def pairOf (x y : Oper) : Option (Nat × Nat) :=
  match addrOf x, addrOf y with
  | some (.tmp t), some (.tmp u) => some (t, u)
  | _, _ => none
def noWrite (ops : Array Oper) (listed : Array Bool) (t : Nat) : Bool := (List.range ops.size).all fun j => listed.getD j true || match ops[j]? with
  | some o => o.dst != some t
  | none => true
def sepB (s : AS) (p : Nat × Nat) : Bool :=
  match s.tmps p.1, s.tmps p.2 with
  | some (.w (.one (.own k _))), some (.w (.one (.own j _))) => !Nat.beq k j
  | _, _ => false
def memFree (md : Region.Mode) (ops : Array Oper) (prs : List (Nat × Nat)) (listed : Array Bool) (i : Nat) : Bool :=
  match ops[i]? with
  | none => false
  | some oi => (List.range ops.size).all fun j => j == i || listed.getD j true || match ops[j]? with
      | some oj => memApart oi oj || waits md ops 4 j i || match pairOf oi oj with
        | some (t, u) => prs.contains (t, u) && noWrite ops listed t && noWrite ops listed u
        | none => false
      | none => true
theorem noWrite_spec {listed : Array Bool} {t : Nat} (h : noWrite ops listed t = true) (j : Nat) (o : Oper) (ho : ops[j]? = some o) (hun : listed.getD j true = false) : o.dst ≠ some t := by
  unfold noWrite at h
  simp only [List.all_eq_true, List.mem_range] at h
  have := h j (Array.getElem?_eq_some_iff.1 ho).1
  simp only [ho, hun, Bool.false_or, bne_iff_ne, ne_eq] at this
  exact this
theorem memFree_spec {i : Nat} {prs : List (Nat × Nat)} {listed : Array Bool} (hi : ops[i]? = some oi) (h : memFree md ops prs listed i = true) (hs : ∀ p ∈ prs, noWrite ops listed p.1 = true → noWrite ops listed p.2 = true → sepB s p = true) (j : Nat) (oj : Oper)
    (hj : ops[j]? = some oj) (hne : j ≠ i) (hun : listed.getD j true = false) (hno : waits md ops 4 j i = false) : SepT ops listed oi oj s := by
  simp only [memFree, hi, List.all_eq_true, List.mem_range] at h
  have h1 := h j (Array.getElem?_eq_some_iff.1 hj).1
  simp only [hj, Bool.or_eq_true, beq_iff_eq, hne, false_or, hun, Bool.false_eq_true] at h1
  rcases h1 with (h1 | h1) | h1
  · exact .inl h1
  · rw [hno] at h1; cases h1
  · split at h1
    · rename_i t u hp
      simp only [Bool.and_eq_true] at h1
      obtain ⟨⟨c1, c2⟩, c3⟩ := h1
      have hsp := hs (t, u) (by simpa using c1) c2 c3
      unfold pairOf at hp
      split at hp
      · rename_i t' u' e1 e2
        cases hp
        unfold sepB at hsp
        split at hsp
        · rename_i k o j' p' q1 q2
          refine .inr ⟨t, u, k, j', o, p', e1, e2, q1, q2, fun e => ?_, fun i' o' ho' hun' => ⟨noWrite_spec c2 i' o' ho' hun', noWrite_spec c3 i' o' ho' hun'⟩⟩
          subst e
          simp [Nat.beq_refl] at hsp
        · cases hsp
      · cases hp
    · cases h1
def lexM (md : Region.Mode) (ops : Array Oper) (prs : List (Nat × Nat)) : List Nat → Array Bool → Bool
  | [], listed => (Region.ready md ops listed).isEmpty
  | k :: ord, listed => (Region.ready md ops listed).contains k && Region.free md ops listed k && memFree md ops prs listed k && lexM md ops prs ord (listed.setIfInBounds k true)
def getAll (l : List Oper) : List Nat → Option (List Oper)
  | [] => some []
  | i :: ord => match l[i]?, getAll l ord with
    | some o, some r => some (o :: r)
    | _, _ => none
theorem getAll_spec {l : List Oper} : ∀ (ord : List Nat) (r : List Oper), getAll l ord = some r → r.length = ord.length ∧ ∀ (j : Nat), r[j]? = (ord[j]?).bind (l[·]?)
  | [], r, h => by cases h; exact ⟨rfl, fun j => by simp⟩
  | i :: ord, r, h => by
    simp only [getAll] at h
    split at h
    · rename_i o r' ho hr
      cases h
      obtain ⟨h1, h2⟩ := getAll_spec ord r' hr
      refine ⟨by simp [h1], fun j => ?_⟩
      cases j with
      | zero => simp [ho]
      | succ j => simpa using h2 j
    · cases h
/-- the slots that no operation of the list writes hold in the end what they held. -/
theorem aList_end {K : AS → Prop} : ∀ (l : List Oper) (s : AS), aList P ops K l s → ∃ s', K s' ∧ ∀ t, (∀ o ∈ l, o.dst ≠ some t) → s'.tmps t = s.tmps t
  | [], s, h => ⟨s, h, fun _ _ => rfl⟩
  | o :: l, s, ⟨b, hw, e, he, hd, hK⟩ => by
    obtain ⟨s', h1, h2⟩ := aList_end l _ hK
    exact ⟨s', h1, fun t ht => (h2 t fun o' ho' => ht o' (by simp [ho'])).trans (Eff.on_tmps (ht o (by simp)))⟩
theorem aAny_lex {K : AS → Prop} {prs : List (Nat × Nat)} : ∀ (ord : List Nat) (l : List Oper) (listed : Array Bool) (s : AS), l.length = ord.length → (∀ (j : Nat), l[j]? = (ord[j]?).bind (ops[·]?)) → (∀ k ∈ ord, listed.getD k true = false) → (∀ k, k < ops.size → listed.getD k true = false → k ∈ ord) → ord.Nodup → Down md ops listed → s.Ok →
    lexM md ops prs ord listed = true → aList P ops (fun s => prs.all (sepB s) = true ∧ K s) l s → aAny P md ops K l.length listed s
  | [], [], _, _, _, _, _, _, _, _, _, hB, h => ⟨by simpa [lexM] using hB, h.2⟩
  | [], _ :: _, _, _, hlen, _, _, _, _, _, _, _, _ => by cases hlen
  | _ :: _, [], _, _, hlen, _, _, _, _, _, _, _, _ => by cases hlen
  | k :: ord, o :: l, listed, s, hlen, hl, hun, hcov, hnd, hdn, ok, hB, h => by
    have h0 : ops[k]? = some o := by simpa using (hl 0).symm
    have hend := aList_end _ _ h
    simp only [lexM, Bool.and_eq_true] at hB
    obtain ⟨⟨⟨hr, hf⟩, hm⟩, hB'⟩ := hB
    obtain ⟨b, hw, e, he, hd, hK⟩ := h
    have hs : ∀ p ∈ prs, noWrite ops listed p.1 = true → noWrite ops listed p.2 = true → sepB s p = true := fun p hp n1 n2 => by
      obtain ⟨s', ⟨h1, _⟩, h2⟩ := hend
      have nw : ∀ t, noWrite ops listed t = true → ∀ o' ∈ o :: l, o'.dst ≠ some t := fun t ht o' ho' => by
        obtain ⟨j, hj⟩ := List.getElem?_of_mem ho'
        rw [hl j] at hj
        cases hq : (k :: ord)[j]? with
        | none => rw [hq] at hj; cases hj
        | some q => rw [hq] at hj; exact noWrite_spec ht q o' hj (hun _ (List.mem_of_getElem? hq))
      have := List.all_eq_true.1 h1 p hp
      unfold sepB at this ⊢
      rw [h2 p.1 (nw _ n1), h2 p.2 (nw _ n2)] at this
      exact this
    rw [List.nodup_cons] at hnd
    have hne : ∀ q ∈ ord, k ≠ q := fun q hq e => hnd.1 (by rw [e]; exact hq)
    refine aAny_first h0 l.length listed s (fun j oj h1 h2 h3 h4 h5 => ⟨Region.free_spec h0 hf j oj h1 h2 h3 h4, memFree_spec h0 hm hs j oj h1 h2 h3 h5⟩) hdn (by simpa using hr) ok hw he hd ?_
    refine aAny_lex ord l _ _ (by simpa using hlen) (fun j => by simpa using hl (j + 1)) (fun q hq => by rw [getD_set_ne true (hne q hq)]; exact hun q (by simp [hq])) (fun q hq hlq => ?_) hnd.2 (hdn.set (by simpa using hr)) (eff_ok ok he hd) hB' hK
    by_cases e' : k = q
    · subst e'
      have : k < listed.size := by
        have := hun k (by simp)
        rcases Nat.lt_or_ge k listed.size with h' | h'
        · exact h'
        · simp [Array.getElem?_eq_none h'] at this
      simp [this] at hlq
    · rw [getD_set_ne true e'] at hlq
      rcases List.mem_cons.1 (hcov q hq hlq) with h' | h'
      · exact absurd h'.symm e'
      · exact h'
/-- the pairs that are needed. -/
def needPrs (ops : Array Oper) (ord : List Nat) : List (Nat × Nat) :=
  match ord with
  | [] => []
  | i :: rest => (match ops[i]? with
    | some oi => bif memKind oi != 0 then rest.filterMap fun j => match ops[j]? with
        | some oj => bif memApart oi oj || waits .any ops 4 j i then none else pairOf oi oj
        | none => none
      else []
    | none => []) ++ needPrs ops rest
/-- what makes blocks comes first. -/
def early (o : Oper) : Bool := (match o.op with | .alloc _ => true | _ => false) && o.after.isEmpty && o.guard.isNone
def ordOf (l : List Oper) : List Nat := ((List.range l.length).filter fun i => match l[i]? with | some o => early o | none => false) ++ (List.range l.length).filter fun i => match l[i]? with | some o => !early o | none => false
/-- what holds of a piece of code, over states. -/
def AWp (P : Program) (c : Code) (Q : Exit → AS → Prop) (s : AS) : Prop :=
  s.Ok → ∀ B A ρ a w, Rel B A s ρ a w → c.wp P (fun e a' w' => ∃ s' ρ', s'.Ok ∧ Rel B A s' ρ' a' w' ∧ Q e s') a w
def ndB : List Nat → Bool
  | [] => true
  | x :: xs => !xs.contains x && ndB xs
theorem ndB_spec : ∀ (l : List Nat), ndB l = true → l.Nodup
  | [], _ => List.nodup_nil
  | x :: xs, h => by
    simp only [ndB, Bool.and_eq_true, Bool.not_eq_true', List.contains_eq_mem, decide_eq_false_iff_not] at h
    exact List.nodup_cons.2 ⟨h.1, ndB_spec xs h.2⟩
def drawB (l : List Oper) : Bool := Nat.beq (ordOf l).length l.length && ndB (ordOf l) && (List.range l.length).all (fun i => (ordOf l).contains i) && (ordOf l).all (fun i => Nat.blt i l.length) && lexM .any l.toArray (needPrs l.toArray (ordOf l)) (ordOf l) (Array.replicate l.length false)
theorem awp_region_draw {id : Nat} {l l' : List Oper} {Q : Exit → AS → Prop} (hm : P.follows .mixedOrders = true) (hB : drawB l = true) (hl : getAll l (ordOf l) = some l')
    (h : aList P l.toArray (fun s => (needPrs l.toArray (ordOf l)).all (sepB s) = true ∧ Q .normal s) l' s) : AWp P (.region id l.toArray true) Q s := by
  intro ok B A ρ a w hR
  refine wp_region_any hm ?_
  unfold drawB at hB
  simp only [Bool.and_eq_true, List.all_eq_true, List.mem_range, List.contains_eq_mem, decide_eq_true_eq] at hB
  obtain ⟨⟨⟨⟨b0, b1⟩, b2⟩, b3⟩, b4⟩ := hB
  obtain ⟨g1, g2⟩ := getAll_spec _ _ hl
  have hd : Rel B A s ρ a { w with drawn := w.drawn + 1 } := hR.call ((Below.refl _ w).drew)
  refine aAny_sound (K := Q .normal) (fun s' ρ' a' w' ok' hR' hk => ⟨s', ρ', ok', hR', hk⟩) _ _ s ρ a _ ok hd ?_
  have nd := ndB_spec _ b1
  have hlen : (ordOf l).length = l.length := Nat.eq_of_beq_eq_true b0
  have := aAny_lex (md := .any) (ops := l.toArray) (ordOf l) l' (Array.replicate l.length false) s g1 (by simpa using g2) (fun q hq => by have := b3 q hq; simp [Nat.blt_eq] at this; simp [this]) (fun q hq _ => b2 q (by simpa using hq)) nd (fun k o hk => by exfalso; rcases Nat.lt_or_ge k l.length with q | q <;> simp [Array.getElem?_replicate, q] at hk) ok b4 h
  rw [g1, hlen] at this
  simpa using this
theorem aList_sound {K : AS → Prop} {Q : Exit → Act → World → Prop} (hQ : ∀ s' ρ' a' w', s'.Ok → Rel B A s' ρ' a' w' → K s' → Q .normal a' w') : ∀ (l : List Oper) (k : Nat) (s : AS) (ρ : Nat → Nat) (a : Act) (w : World), (∀ (j : Nat), l[j]? = ops[k + j]?) → s.Ok → Rel B A s ρ a w →
    aList P ops K l s → wpOps P ops Q ((List.range l.length).map (k + ·)) a w
  | [], _, _, _, _, _, _, ok, hR, h => hQ _ _ _ _ ok hR h
  | o :: l, k, s, ρ, a, w, hl, ok, hR, h => by
    have h0 : ops[k]? = some o := by simpa using (hl 0).symm
    have e : (List.range (o :: l).length).map (k + ·) = k :: (List.range l.length).map (k + 1 + ·) := by
      rw [List.length_cons, List.range_succ_eq_map, List.map_cons, List.map_map]
      congr 1
      apply List.map_congr_left
      intro j _
      simp [Nat.add_assoc, Nat.add_comm 1 j]
    rw [e, wpOps_cons]
    refine aOp_sound h0 ok hR h fun s' ρ' a' w' ok' hR' hk => aList_sound hQ l (k + 1) s' ρ' a' w' (fun j => by have := hl (j + 1); simpa [Nat.add_assoc, Nat.add_comm 1 j] using this) ok' hR' hk
theorem awp_region {id : Nat} {l : List Oper} {Q : Exit → AS → Prop} (h : aList P l.toArray (Q .normal) l s) : AWp P (.region id l.toArray false) Q s := by
  intro ok B A ρ a w hR
  refine wp_region ?_
  have := aList_sound (ops := l.toArray) (K := Q .normal) (Q := fun e a' w' => ∃ s' ρ', s'.Ok ∧ Rel B A s' ρ' a' w' ∧ Q e s') (fun s' ρ' a' w' ok' hR' hk => ⟨s', ρ', ok', hR', hk⟩) l 0 s ρ a w (by simp) ok hR h
  simpa using this
end
section
variable {P : Program} {B : Base} {A : Nat → Prop} {s s1 s2 s' : AS} {ρ : Nat → Nat} {a : Act} {w : World} {Q : Exit → AS → Prop} {x y : Code}
def athen (next : AS → Prop) (Q : Exit → AS → Prop) : Exit → AS → Prop
  | .normal, s => next s
  | e, s => Q e s
theorem awp_seq (h : AWp P x (athen (fun s' => AWp P y Q s') Q) s) : AWp P (.seq x y) Q s := by
  intro ok B A ρ a w hR
  refine wp_seq (wp_mono (h ok B A ρ a w hR) ?_)
  rintro e a' w' ⟨s', ρ', ok', hR', hq⟩
  cases e <;> first | exact hq ok' B A ρ' a' w' hR' | exact ⟨s', ρ', ok', hR', hq⟩
theorem awp_skip (h : Q .normal s) : AWp P .skip Q s := fun ok B A ρ a w hR => wp_skip ⟨s, ρ, ok, hR, h⟩
theorem awp_label {l : Nat} (h : Q .normal s) : AWp P (.label l) Q s := fun ok B A ρ a w hR => wp_label ⟨s, ρ, ok, hR, h⟩
theorem awp_exit {id : Nat} (h : Q (.exit id) s) : AWp P (.exit id) Q s := fun ok B A ρ a w hR => wp_exit ⟨s, ρ, ok, hR, h⟩
theorem awp_ret (h : Q .ret s) : AWp P .ret Q s := fun ok B A ρ a w hR => wp_ret ⟨s, ρ, ok, hR, h⟩
theorem awp_cond {c : Operand} {t : Bool} (hc : s.look c = some (.w (.one (.c (.bool t))))) (h1 : t = true → AWp P x Q s) (h0 : t = false → AWp P y Q s) : AWp P (.cond c x y) Q s := by
  intro ok B A ρ a w hR
  have hv : a.eval c = .bool t := (hR.look hc).1
  refine wp_cond hv ?_
  cases t with
  | true => exact h1 rfl ok B A ρ a w hR
  | false => exact h0 rfl ok B A ρ a w hR
theorem awp_cond_t {c : Operand} (hc : s.look c = some (.w (.one (.c (.bool true))))) (h1 : AWp P x Q s) : AWp P (.cond c x y) Q s := awp_cond hc (fun _ => h1) (fun e => by cases e)
theorem awp_cond_f {c : Operand} (hc : s.look c = some (.w (.one (.c (.bool false))))) (h0 : AWp P y Q s) : AWp P (.cond c x y) Q s := awp_cond hc (fun e => by cases e) (fun _ => h0)
def ablock (id : Nat) (Q : Exit → AS → Prop) : Exit → AS → Prop
  | .exit id', s => bif Nat.beq id' id then Q .normal s else Q (.exit id') s
  | e, s => Q e s
theorem awp_block {id : Nat} (h : AWp P x (ablock id Q) s) : AWp P (.block id x) Q s := by
  intro ok B A ρ a w hR
  refine wp_block (wp_mono (h ok B A ρ a w hR) ?_)
  rintro e a' w' ⟨s', ρ', ok', hR', hq⟩
  cases e with
  | exit id' =>
    simp only [Exit.inBlock]
    simp only [ablock] at hq
    cases hb : Nat.beq id' id with
    | true => rw [hb] at hq; rw [if_pos (Nat.eq_of_beq_eq_true hb)]; exact ⟨s', ρ', ok', hR', hq⟩
    | false =>
      rw [hb] at hq
      have : id' ≠ id := fun e => by subst e; rw [Nat.beq_refl] at hb; cases hb
      rw [if_neg this]; exact ⟨s', ρ', ok', hR', hq⟩
  | _ => exact ⟨s', ρ', ok', hR', hq⟩
/-- less is known. -/
structure AS.Le (s s' : AS) : Prop where
  n : s'.n = s.n
  tm : ∀ t av, s'.tmps t = some av → s.tmps t = some av
  mm : ∀ k cs, s'.mem k = some cs → s.mem k = some cs
theorem Rel.le (h : Rel B A s ρ a w) (l : s.Le s') : Rel B A s' ρ a w := by
  have hf : ∀ b, s.free A ρ b → b < w.heap.size → s'.free A ρ b ∧ w.heap[b]? = w.heap[b]? := fun b hb _ => ⟨⟨hb.1, fun k cs hk => hb.2 k cs (l.mm k cs hk)⟩, rfl⟩
  refine ⟨h.nodef, by rw [l.n]; exact h.size, fun t av ht => ?_, fun k cs hk => ?_, fun k k' c c' hk hk' e => h.inj k k' c c' (l.mm _ _ hk) (l.mm _ _ hk') e, h.below, h.up, fun k b hk => by rw [l.n]; exact h.anch k b hk⟩
  · obtain ⟨v, h1, h2⟩ := h.tm t av (l.tm t av ht)
    exact ⟨v, h1, h2.map hf fun _ _ => rfl⟩
  · obtain ⟨vs, ty, h1, h2, h3⟩ := h.mm k cs (l.mm k cs hk)
    exact ⟨vs, ty, h1, h2.map hf fun _ _ _ _ => rfl, h3⟩
theorem awp_less (s' : AS) (l : s.Le s') (ok' : s'.Ok) (h : AWp P x Q s') : AWp P x Q s := fun _ B A ρ a w hR => h ok' B A ρ a w (hR.le l)
theorem wp_loop_n {c : Code} {Q : Exit → Act → World → Prop} (I : Nat → Act → World → Prop) {n : Nat} (h₀ : I n a w)
    (round : ∀ n a w, I n a w → c.wp P (Exit.then (fun a' w' => ∃ m, m < n ∧ I m a' w') Q) a w) : (Code.loop c).wp P Q a w := by
  intro b k cs
  have key : ∀ n a w, I n a w →
      ∃ e a' w', Q e a' w' ∧ Arrives P (lone (b.at a (.code c :: .inLoop c :: k)) cs w) b k cs e a' w' := by
    intro n
    induction n using Nat.strongRecOn with
    | _ n ih =>
      intro a w hI
      obtain ⟨e, a₁, w₁, hq, harr⟩ := round n a w hI b (.inLoop c :: k) cs
      cases e with
      | normal =>
        obtain ⟨m, hlt, hI₁⟩ := hq
        obtain ⟨e₂, a₂, w₂, hq₂, harr₂⟩ := ih m hlt a₁ w₁ hI₁
        exact ⟨e₂, a₂, w₂, hq₂, .of_steps (Steps.trans harr (.one step_inLoop)) harr₂⟩
      | exit id => exact ⟨_, a₁, w₁, hq, .pass (x := .inLoop c) rfl (fun _ _ => .inl (by simp)) harr⟩
      | goto l => exact ⟨_, a₁, w₁, hq, .pass (x := .inLoop c) rfl (fun _ _ => .inl (by simp)) harr⟩
      | ret => exact ⟨_, a₁, w₁, hq, .pass (x := .inLoop c) rfl (fun _ _ => .inl (by simp)) harr⟩
      | panic ch => exact ⟨_, a₁, w₁, hq, .pass (x := .inLoop c) rfl (fun _ _ => .inl (by simp)) harr⟩
      | outgrown => exact ⟨_, a₁, w₁, hq, .pass (x := .inLoop c) rfl (fun _ _ => .inl (by simp)) harr⟩
  obtain ⟨e, a', w', hq, harr⟩ := key _ a w h₀
  exact ⟨e, a', w', hq, .of_steps (.one step_loop) harr⟩
/-- a loop: I n holds ahead of each round, n falling. -/
theorem awp_loop (I : Nat → AS → Prop) (n : Nat) (s0 : AS) (l0 : s.Le s0) (ok0 : s0.Ok) (h0 : I n s0)
    (round : ∀ n s, I n s → AWp P x (athen (fun s' => ∃ m, m < n ∧ ∃ s'', s'.Le s'' ∧ s''.Ok ∧ I m s'') Q) s) : AWp P (.loop x) Q s := by
  intro ok B A ρ a w hR
  refine wp_loop_n (fun n a w => ∃ s ρ, s.Ok ∧ Rel B A s ρ a w ∧ I n s) ⟨s0, ρ, ok0, hR.le l0, h0⟩ ?_
  rintro n a w ⟨s, ρ, ok, hR, hI⟩
  refine wp_mono (round n s hI ok B A ρ a w hR) ?_
  rintro e a' w' ⟨s', ρ', ok', hR', hq⟩
  cases e with
  | normal =>
    obtain ⟨m, hm, s'', hl, ok'', hI'⟩ := hq
    exact ⟨m, hm, s'', ρ', ok'', hR'.le hl, hI'⟩
  | _ => exact ⟨s', ρ', ok', hR', hq⟩
def AV.Le (x y : AV) : Prop := ∀ U ρ W v, RpV U ρ W x v → RpV U ρ W y v
theorem AV.Le.refl (x : AV) : x.Le x := fun _ _ _ _ h => h
theorem AV.Le.of_eq {x y : AV} (h : x = y) : x.Le y := by subst h; exact .refl x
def resOf (P : Program) (s : AS) : ResultVar → Option AW
  | .tmp t => match s.tmps t with
    | some (.w x) => some x
    | _ => none
  | .cell a ty => match s.tmps a with
    | some (.w (.one (.own k off))) => (s.mem k).bind (pick P ty · off)
    | _ => none
def packed : List AW → AV
  | [x] => .w x
  | xs => .tup xs
/-- what is asked where a function ends. -/
def apost (P : Program) (fn : Func) (r : AV) : Exit → AS → Prop
  | .normal, s | .ret, s => ∃ xs, fn.results.toList.map (resOf P s) = xs.map some ∧ (packed xs).Le r
  | _, _ => False
theorem run_mapM {α : Type} {f : α → Sem Value} : ∀ (l : List α) (vs : List Value), l.length = vs.length → (∀ (i : Nat) x v, l[i]? = some x → vs[i]? = some v → (f x).run P w = .ok v w) → (l.mapM f).run P w = .ok vs w
  | [], [], _, _ => rfl
  | [], _ :: _, h, _ => by cases h
  | _ :: _, [], h, _ => by cases h
  | x :: l, v :: vs, hl, h => by
    have h0 := h 0 x v rfl rfl
    have ih := run_mapM l vs (by simpa using hl) (fun i x v hx hv => h (i + 1) x v (by simpa using hx) (by simpa using hv))
    rw [List.mapM_cons]
    simp only [Sem.run_bind, h0, Result.andThen_ok, ih]
    rfl
def resSem (a : Act) : ResultVar → Sem Value
  | .tmp t => pure (a.tmps.getD t undef)
  | .cell b t => do loadVar t (← asAddr (a.tmps.getD b undef))
theorem results_eq (fn : Func) (a : Act) : results fn a.tmps = (do let vs ← fn.results.mapM (resSem a); pure (if h : vs.size = 1 then vs[0] else .tuple vs)) := rfl
theorem res_sound {v : ResultVar} {z : AW} (hR : Rel B A s ρ a w) (h : resOf P s v = some z) : ∃ u, (resSem a v).run P w = .ok u w ∧ RpW (s.free A ρ) ρ w z u := by
  cases v with
  | tmp t =>
    simp only [resOf] at h
    split at h
    · rename_i x hx
      cases h
      obtain ⟨v, h1, h2⟩ := hR.tm t _ hx
      refine ⟨v, ?_, h2⟩
      simp [resSem, Array.getD_eq_getD_getElem?, h1]
    · cases h
  | cell b ty =>
    simp only [resOf] at h
    split at h
    · rename_i k off hx
      cases hm : s.mem k with
      | none => rw [hm] at h; cases h
      | some cs =>
        rw [hm] at h
        obtain ⟨vs, t, g1, g2, g3⟩ := hR.mm k cs hm
        obtain ⟨u, h1, h2⟩ := pick_sound h g1 g2
        obtain ⟨p, q1, q2⟩ := hR.tm b _ hx
        cases q2
        refine ⟨u, ?_, h2⟩
        simp only [resSem, Array.getD_eq_getD_getElem?, q1, Option.getD_some, asAddr, Sem.run_bind, Sem.run_pure, Result.andThen_ok, h1]
    · cases h
theorem results_sound {fn : Func} {xs : List AW} (hR : Rel B A s ρ a w) (h : fn.results.toList.map (resOf P s) = xs.map some) : ∃ v, (results fn a.tmps).run P w = .ok v w ∧ RpV (s.free A ρ) ρ w (packed xs) v := by
  have key : ∀ (l : List ResultVar) (xs : List AW), l.map (resOf P s) = xs.map some → ∃ vs : List Value, vs.length = xs.length ∧ l.length = vs.length ∧ (∀ (i : Nat) r u, l[i]? = some r → vs[i]? = some u → (resSem a r).run P w = .ok u w) ∧ ∀ (i : Nat) x u, xs[i]? = some x → vs[i]? = some u → RpW (s.free A ρ) ρ w x u := by
    intro l
    induction l with
    | nil => intro xs h; cases xs with
      | nil => exact ⟨[], rfl, rfl, fun i r u h => by simp at h, fun i x u h => by simp at h⟩
      | cons => cases h
    | cons r l ih =>
      intro xs h
      cases xs with
      | nil => cases h
      | cons x xs =>
        simp only [List.map_cons, List.cons.injEq] at h
        obtain ⟨vs, e1, e2, e3, e4⟩ := ih xs h.2
        obtain ⟨u, q1, q2⟩ := res_sound hR h.1
        refine ⟨u :: vs, by simp [e1], by simp [e2], fun i r' u' h1 h2 => ?_, fun i x' u' h1 h2 => ?_⟩
        · cases i with
          | zero => simp at h1 h2; subst h1; subst h2; exact q1
          | succ i => exact e3 i r' u' (by simpa using h1) (by simpa using h2)
        · cases i with
          | zero => simp at h1 h2; subst h1; subst h2; exact q2
          | succ i => exact e4 i x' u' (by simpa using h1) (by simpa using h2)
  obtain ⟨vs, e1, e2, e3, e4⟩ := key _ _ h
  have hm := run_mapM (P := P) (w := w) _ vs e2 e3
  have hrun : (results fn a.tmps).run P w = .ok (if h : vs.toArray.size = 1 then vs.toArray[0] else .tuple vs.toArray) w := by
    rw [results_eq, Array.mapM_eq_mapM_toList]
    simp only [map_eq_pure_bind, bind_assoc, Sem.run_bind]
    rw [hm]
    simp only [Result.andThen_ok, Sem.run_bind, Sem.run_pure]
  refine ⟨_, hrun, ?_⟩
  match vs, xs, e1, e4 with
  | [], [], _, _ => exact ⟨[], rfl, rfl, fun i x v h => by simp at h⟩
  | [v], [x], _, e4 => exact e4 0 x v rfl rfl
  | v1 :: v2 :: vs, x1 :: x2 :: xs, e1, e4 =>
    rw [dif_neg (by simp)]
    exact ⟨v1 :: v2 :: vs, rfl, e1.symm, e4⟩
/-- the state in which a function begins. -/
def start (n : Nat) (args : List AV) : AS := ⟨n, fun t => args[t]?, fun _ => none⟩
/-- code of a function's own level: no block that the function has made is older than its call. -/
def AWt (P : Program) (c : Code) (Q : Exit → AS → Prop) (s : AS) : Prop :=
  s.Ok → ∀ W A ρ a w, Rel (Base.all W) A s ρ a w → c.wp P (fun e a' w' => ∃ s' ρ', s'.Ok ∧ Rel (Base.all W) A s' ρ' a' w' ∧ Q e s') a w
theorem pcall_of_bodyT {f : FuncId} {fn : Func} {c : Code} {args : List AV} {r : AV} (hf : P.funcs[f]? = some fn) (hb : fn.body = some c) (hn : args.length ≤ fn.ntmps) (ca : ∀ x ∈ args, x.closed) (cr : r.closed)
    (h : AWt P c (apost P fn r) (start fn.ntmps args)) : PCall P f args r := by
  refine ⟨ca, cr, fun U W vs hvs => ?_⟩
  have hl := hvs.1
  -- what the arguments' facts hang on is kept apart from all blocks that the call makes
  refine calls_of_wp hf hb ?_
  have ok : (start fn.ntmps args).Ok := ⟨fun t av j ht hj => absurd hj (ca av (List.mem_of_getElem? ht) j), fun k cs x j hk => by cases hk⟩
  have hR : Rel (Base.all W) (fun b => U b ∨ W.heap.size ≤ b) (start fn.ntmps args) id { tmps := vs.toArray ++ Array.replicate (fn.ntmps - vs.toArray.size) undef, defers := [] } W := by
    refine ⟨rfl, by simp [start]; omega, fun t av ht => ?_, (fun k cs hk => by cases hk), (fun k k' cs cs' hk => by cases hk), BelowB.refl (Base.all W), fun b hb => .inr hb, fun k b hk => (by cases hk)⟩
    have hlt : t < vs.length := by rw [← hl]; exact (List.getElem?_eq_some_iff.1 ht).1
    refine ⟨vs[t], by simp [Array.getElem?_append, hlt], ?_⟩
    exact (hvs.2 t av _ ht (List.getElem?_eq_getElem hlt)).map (fun b hb _ => ⟨⟨.inl hb, fun k cs hk => by cases hk⟩, rfl⟩) fun _ _ => rfl
  refine wp_mono (h ok W _ id _ W hR) ?_
  rintro e a' w' ⟨s', ρ', ok', hR', hq⟩
  have fin : (∃ xs, fn.results.toList.map (resOf P s') = xs.map some ∧ (packed xs).Le r) → a'.defers = [] ∧ ∃ v, (results fn a'.tmps).run P w' = .ok v w' ∧ ∃ u, Ending.returned v = .returned u ∧ RpV (fun b => U b ∨ W.heap.size ≤ b) id w' r u ∧ Below W.heap.size W w' := by
    rintro ⟨xs, h1, h2⟩
    obtain ⟨v, q1, q2⟩ := results_sound hR' h1
    exact ⟨hR'.nodef, v, q1, v, rfl, (h2 _ _ _ _ q2).map (fun b hb _ => ⟨hb.1, rfl⟩) fun j hj => absurd hj (cr j), hR'.below.all⟩
  cases e with
  | normal => exact fin hq
  | ret => exact fin hq
  | _ => exact hq.elim
theorem pcall_of_body {f : FuncId} {fn : Func} {c : Code} {args : List AV} {r : AV} (hf : P.funcs[f]? = some fn) (hb : fn.body = some c) (hn : args.length ≤ fn.ntmps) (ca : ∀ x ∈ args, x.closed) (cr : r.closed)
    (h : AWp P c (apost P fn r) (start fn.ntmps args)) : PCall P f args r :=
  pcall_of_bodyT hf hb hn ca cr fun ok W => h ok (Base.all W)
end
end Go.Proofs.Ytpopeipcjpfbaaa
