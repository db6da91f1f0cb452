/-
  States without addresses: what a frame and its own blocks hold, told by abstract values; how a state stands to a frame and a world. My own text.
-/
import Derived.Below
import Derived.Still
import Derived.Laws.CopyRow
import Derived.Laws.Cells
namespace Go.Proofs.Ytinjgiigmlikpaa
open Go.RowKit
set_option linter.unusedVariables false

/-- a fact of one value that hangs on the blocks of its footprint alone. -/
structure SP where
  holds : World → Value → Prop
  foot : World → Value → Nat → Prop
  frame : ∀ w w' v, holds w v → (∀ b, foot w v b → w'.heap[b]? = w.heap[b]?) → holds w' v ∧ ∀ b, foot w' v b → foot w v b
  old : ∀ w v b, holds w v → foot w v b → b < w.heap.size
  cell : ∀ w v, holds w v → v.oneCell' = true
/-- one cell: a value; a pointer into a block of the frame's own; a value of which a fact is known. -/
inductive AC where
  | c (v : Value)
  | own (k off : Nat)
  | p (R : SP)
inductive AW where
  | one (x : AC)
  | agg (xs : List AC)
inductive AV where
  | w (x : AW)
  | tup (xs : List AW)
def AW.cells : AW → List AC
  | .one x => [x]
  | .agg xs => xs
def RpC (U : Nat → Prop) (ρ : Nat → Nat) (W : World) : AC → Value → Prop
  | .c v, x => x = v ∧ v.oneCell' = true
  | .own k off, x => x = .pointer (some ⟨ρ k, off, none⟩)
  | .p R, x => R.holds W x ∧ ∀ b, R.foot W x b → U b
def RpL (U : Nat → Prop) (ρ : Nat → Nat) (W : World) (xs : List AC) (vs : List Value) : Prop :=
  xs.length = vs.length ∧ ∀ (i : Nat) (x : AC) (v : Value), xs[i]? = some x → vs[i]? = some v → RpC U ρ W x v
def RpW (U : Nat → Prop) (ρ : Nat → Nat) (W : World) : AW → Value → Prop
  | .one x, v => RpC U ρ W x v
  | .agg xs, v => ∃ vs : List Value, v = .agg vs.toArray ∧ RpL U ρ W xs vs
def RpV (U : Nat → Prop) (ρ : Nat → Nat) (W : World) : AV → Value → Prop
  | .w x, v => RpW U ρ W x v
  | .tup xs, v => ∃ vs : List Value, v = .tuple vs.toArray ∧ xs.length = vs.length ∧ ∀ (i : Nat) (x : AW) (v : Value), xs[i]? = some x → vs[i]? = some v → RpW U ρ W x v
def AC.owns : AC → Nat → Prop
  | .own k _, j => j = k
  | _, _ => False
def AW.owns (x : AW) (j : Nat) : Prop := ∃ y ∈ x.cells, y.owns j
def AV.owns : AV → Nat → Prop
  | .w x, j => x.owns j
  | .tup xs, j => ∃ x ∈ xs, x.owns j
section
variable {U U' : Nat → Prop} {ρ ρ' : Nat → Nat} {W W' : World}
theorem RpC.cell {x : AC} {v : Value} (h : RpC U ρ W x v) : v.oneCell' = true := by
  cases x with
  | c u => obtain ⟨rfl, h⟩ := h; exact h
  | own k off => cases h; rfl
  | p R => exact R.cell _ _ h.1
theorem RpC.map {x : AC} {v : Value} (h : RpC U ρ W x v) (hU : ∀ b, U b → b < W.heap.size → U' b ∧ W'.heap[b]? = W.heap[b]?) (hρ : ∀ j, x.owns j → ρ' j = ρ j) : RpC U' ρ' W' x v := by
  cases x with
  | c u => exact h
  | own k off => simp only [RpC] at h ⊢; rw [h, hρ k rfl]
  | p R =>
    obtain ⟨h1, h2⟩ := h
    have h3 := R.frame W W' v h1 (fun b hb => (hU b (h2 b hb) (R.old _ _ _ h1 hb)).2)
    exact ⟨h3.1, fun b hb => (hU b (h2 b (h3.2 b hb)) (R.old _ _ _ h1 (h3.2 b hb))).1⟩
theorem RpL.map {xs : List AC} {vs : List Value} (h : RpL U ρ W xs vs) (hU : ∀ b, U b → b < W.heap.size → U' b ∧ W'.heap[b]? = W.heap[b]?) (hρ : ∀ j x, x ∈ xs → x.owns j → ρ' j = ρ j) : RpL U' ρ' W' xs vs :=
  ⟨h.1, fun i x v hx hv => (h.2 i x v hx hv).map hU fun j hj => hρ j x (List.mem_of_getElem? hx) hj⟩
theorem RpW.map {x : AW} {v : Value} (h : RpW U ρ W x v) (hU : ∀ b, U b → b < W.heap.size → U' b ∧ W'.heap[b]? = W.heap[b]?) (hρ : ∀ j, x.owns j → ρ' j = ρ j) : RpW U' ρ' W' x v := by
  cases x with
  | one x => exact RpC.map h hU fun j hj => hρ j ⟨x, by simp [AW.cells], hj⟩
  | agg xs =>
    obtain ⟨vs, e, h⟩ := h
    exact ⟨vs, e, h.map hU fun j x hx hj => hρ j ⟨x, hx, hj⟩⟩
theorem RpV.map {x : AV} {v : Value} (h : RpV U ρ W x v) (hU : ∀ b, U b → b < W.heap.size → U' b ∧ W'.heap[b]? = W.heap[b]?) (hρ : ∀ j, x.owns j → ρ' j = ρ j) : RpV U' ρ' W' x v := by
  cases x with
  | w x => exact RpW.map h hU hρ
  | tup xs =>
    obtain ⟨vs, e, hl, h⟩ := h
    exact ⟨vs, e, hl, fun i x v hx hv => (h i x v hx hv).map hU fun j hj => hρ j ⟨x, List.mem_of_getElem? hx, hj⟩⟩
theorem RpW.cells {x : AW} {v : Value} (h : RpW U ρ W x v) : RpL U ρ W x.cells v.cells.toList := by
  cases x with
  | one x =>
    have hc : v.cells = #[v] := by
      have := RpC.cell h
      cases v <;> simp_all [Value.cells, Value.oneCell']
    rw [hc]
    refine ⟨rfl, fun i y u hy hu => ?_⟩
    simp only [AW.cells] at hy
    cases i with
    | zero => simp at hy hu; subst hy; subst hu; exact h
    | succ i => simp at hy
  | agg xs =>
    obtain ⟨vs, rfl, h⟩ := h
    exact h
end
/-- a map at one place turned. -/
def upd {α : Type} (f : Nat → Option α) (k : Nat) (v : α) : Nat → Option α := fun j => bif Nat.beq j k then some v else f j
theorem upd_same {α : Type} (f : Nat → Option α) (k : Nat) (v : α) : upd f k v k = some v := by simp [upd]
theorem upd_ne {α : Type} (f : Nat → Option α) {k j : Nat} (v : α) (h : j ≠ k) : upd f k v j = f j := by
  have : Nat.beq j k = false := by
    cases hb : Nat.beq j k with
    | false => rfl
    | true => exact absurd (Nat.eq_of_beq_eq_true hb) h
  simp [upd, this]
theorem upd_comm {α : Type} (f : Nat → Option α) {k j : Nat} (v u : α) (h : j ≠ k) : upd (upd f k v) j u = upd (upd f j u) k v := by
  funext i
  by_cases h1 : i = j
  · subst h1; rw [upd_same, upd_ne _ _ h, upd_same]
  · by_cases h2 : i = k
    · subst h2; rw [upd_ne _ _ h1, upd_same, upd_same]
    · rw [upd_ne _ _ h1, upd_ne _ _ h2, upd_ne _ _ h2, upd_ne _ _ h1]
/-- what the frame's slots hold, and what its own blocks hold. A block is named by the slot that its making has written. -/
structure AS where
  n : Nat
  tmps : Nat → Option AV
  mem : Nat → Option (List AC)
def AS.put (s : AS) (dst : Option Nat) (v : AV) : AS :=
  match dst with
  | some d => { s with tmps := upd s.tmps d v }
  | none => s
def AS.setm (s : AS) (k : Nat) (cs : List AC) : AS := { s with mem := upd s.mem k cs }
/-- a value of the program's text. -/
def ofW : Value → AW
  | .agg cs => .agg (cs.toList.map .c)
  | v => .one (.c v)
def ofV : Value → AV
  | .tuple vs => .tup (vs.toList.map ofW)
  | v => .w (ofW v)
def AS.look (s : AS) : Operand → Option AV
  | .tmp t => s.tmps t
  | .const v => if v.oneCell' then some (.w (.one (.c v))) else none
  | .global g => some (.w (.one (.c (.pointer (some ⟨g, 0, none⟩)))))
  | .func f => some (.w (.one (.c (.func (.func f) #[] #[]))))
def AS.free (s : AS) (A : Nat → Prop) (ρ : Nat → Nat) (b : Nat) : Prop := A b ∧ ∀ k cs, s.mem k = some cs → ρ k ≠ b
/-- every own block that is pointed to is there. -/
structure AS.Ok (s : AS) : Prop where
  tm : ∀ t av j, s.tmps t = some av → av.owns j → ∃ cs, s.mem j = some cs
  mm : ∀ k cs x j, s.mem k = some cs → x ∈ cs → x.owns j → ∃ cs', s.mem j = some cs'
structure Rel (B : World) (A : Nat → Prop) (s : AS) (ρ : Nat → Nat) (a : Act) (w : World) : Prop where
  nodef : a.defers = []
  size : a.tmps.size = s.n
  tm : ∀ t av, s.tmps t = some av → ∃ v, a.tmps[t]? = some v ∧ RpV (s.free A ρ) ρ w av v
  mm : ∀ k cs, s.mem k = some cs → ∃ (vs : List Value) (ty : TypeId), w.heap[ρ k]? = some (.cells vs.toArray ty (0, 0)) ∧ RpL (s.free A ρ) ρ w cs vs ∧ B.heap.size ≤ ρ k
  inj : ∀ k k' cs cs', s.mem k = some cs → s.mem k' = some cs' → ρ k = ρ k' → k = k'
  below : Below B.heap.size B w
  up : ∀ b, B.heap.size ≤ b → A b
section
variable {B : World} {A : Nat → Prop} {s : AS} {ρ : Nat → Nat} {a : Act} {w w' : World}
theorem AS.free_put (s : AS) (dst : Option Nat) (v : AV) (A : Nat → Prop) (ρ : Nat → Nat) : (s.put dst v).free A ρ = s.free A ρ := by cases dst <;> rfl
theorem AS.mem_put (s : AS) (dst : Option Nat) (v : AV) : (s.put dst v).mem = s.mem := by cases dst <;> rfl
theorem AS.n_put (s : AS) (dst : Option Nat) (v : AV) : (s.put dst v).n = s.n := by cases dst <;> rfl
theorem Rel.put {dst : Option Nat} {av : AV} {v : Value} (h : Rel B A s ρ a w) (hd : ∀ d, dst = some d → d < s.n) (hv : RpV (s.free A ρ) ρ w av v) : Rel B A (s.put dst av) ρ (a.put dst v) w := by
  cases dst with
  | none => exact h
  | some d =>
    have hlt := hd d rfl
    refine ⟨h.nodef, by simp [AS.put, Act.put, h.size], fun t bv ht => ?_, h.mm, h.inj, h.below, h.up⟩
    simp only [AS.put] at ht
    by_cases e : t = d
    · subst e
      rw [upd_same] at ht
      cases ht
      exact ⟨v, by simp [Act.put, h.size, hlt], hv⟩
    · rw [upd_ne _ _ e] at ht
      obtain ⟨u, h1, h2⟩ := h.tm t bv ht
      exact ⟨u, by simp only [Act.put]; rw [Array.getElem?_setIfInBounds_ne (Ne.symm e)]; exact h1, h2⟩
theorem Rel.lt {k : Nat} {cs : List AC} (h : Rel B A s ρ a w) (hk : s.mem k = some cs) : ρ k < w.heap.size := by
  obtain ⟨vs, ty, h1, _⟩ := h.mm k cs hk
  exact (Array.getElem?_eq_some_iff.1 h1).1
theorem Rel.call (h : Rel B A s ρ a w) (hb : Below w.heap.size w w') : Rel B A s ρ a w' := by
  have hU : ∀ b, s.free A ρ b → b < w.heap.size → s.free A ρ b ∧ w'.heap[b]? = w.heap[b]? := fun b hb' hl => ⟨hb', hb.block b hl⟩
  refine ⟨h.nodef, h.size, fun t av ht => ?_, fun k cs hk => ?_, h.inj, h.below.trans (hb.mono h.below.size), h.up⟩
  · obtain ⟨v, h1, h2⟩ := h.tm t av ht
    exact ⟨v, h1, h2.map hU fun _ _ => rfl⟩
  · obtain ⟨vs, ty, h1, h2, h3⟩ := h.mm k cs hk
    exact ⟨vs, ty, by rw [hb.block _ (h.lt hk)]; exact h1, h2.map hU fun _ _ _ _ => rfl, h3⟩
theorem Rel.new {d : Nat} {cs : List AC} {vs : List Value} {ty : TypeId} (h : Rel B A s ρ a w) (ok : s.Ok) (hm : s.mem d = none) (hv : RpL (s.free A ρ) ρ w cs vs) (hcs : ∀ x ∈ cs, ∀ j, x.owns j → ∃ cs', s.mem j = some cs') :
    Rel B A (s.setm d cs) (fun k => if k = d then w.heap.size else ρ k) a (w.alloc (.cells vs.toArray ty)) := by
  have hne : ∀ k cs', s.mem k = some cs' → k ≠ d := fun k cs' hk e => by subst e; rw [hm] at hk; cases hk
  have hU : ∀ b, s.free A ρ b → b < w.heap.size → (s.setm d cs).free A (fun k => if k = d then w.heap.size else ρ k) b ∧ (w.alloc (.cells vs.toArray ty)).heap[b]? = w.heap[b]? := by
    intro b hb hl
    refine ⟨⟨hb.1, fun k cs' hk => ?_⟩, Below.heap_alloc _ _ _ hl⟩
    simp only [AS.setm] at hk
    by_cases e : k = d
    · subst e; simp; omega
    · rw [upd_ne _ _ e] at hk
      simp only [e, if_false]
      exact hb.2 k cs' hk
  have hown : ∀ j, (∃ cs', s.mem j = some cs') → (if j = d then w.heap.size else ρ j) = ρ j := fun j ⟨cs', hj⟩ => by rw [if_neg (hne j cs' hj)]
  refine ⟨h.nodef, h.size, fun t av ht => ?_, fun k cs' hk => ?_, fun k k' c1 c2 hk hk' e => ?_, h.below.alloc h.below.size _, h.up⟩
  · obtain ⟨v, h1, h2⟩ := h.tm t av ht
    exact ⟨v, h1, h2.map hU fun j hj => hown j (ok.tm t av j ht hj)⟩
  · simp only [AS.setm] at hk
    by_cases e : k = d
    · subst e
      rw [upd_same] at hk
      cases hk
      refine ⟨vs, ty, ?_, hv.map hU fun j x hx hj => hown j (hcs x hx j hj), ?_⟩
      · show (w.heap.push _)[if k = k then w.heap.size else ρ k]? = _; simp
      · simp; exact h.below.size
    · rw [upd_ne _ _ e] at hk
      obtain ⟨us, t, h1, h2, h3⟩ := h.mm k cs' hk
      refine ⟨us, t, ?_, h2.map hU fun j x hx hj => hown j (ok.mm k cs' x j hk hx hj), ?_⟩
      · simp only [e, if_false]; rw [Below.heap_alloc _ _ _ (h.lt hk)]; exact h1
      · simp only [e, if_false]; exact h3
  · simp only [AS.setm] at hk hk'
    by_cases e1 : k = d <;> by_cases e2 : k' = d
    · rw [e1, e2]
    · rw [upd_ne _ _ e2] at hk'
      have := h.lt hk'
      simp [e1, e2] at e
      omega
    · rw [upd_ne _ _ e1] at hk
      have := h.lt hk
      simp [e1, e2] at e
      omega
    · rw [upd_ne _ _ e1] at hk
      rw [upd_ne _ _ e2] at hk'
      simp [e1, e2] at e
      exact h.inj k k' _ _ hk hk' e
theorem Rel.set {k : Nat} {cs ds : List AC} {us : List Value} (h : Rel B A s ρ a w) (hk : s.mem k = some cs) (hv : RpL (s.free A ρ) ρ w ds us) : Rel B A (s.setm k ds) ρ a (w.setRow (ρ k) us.toArray) := by
  have hfree : (s.setm k ds).free A ρ = s.free A ρ := by
    funext b
    apply propext
    constructor
    · rintro ⟨hA, hb⟩
      refine ⟨hA, fun j cs' hj => ?_⟩
      by_cases e : j = k
      · subst e; exact hb j ds (by simp [AS.setm, upd_same])
      · exact hb j cs' (by simp only [AS.setm]; rw [upd_ne _ _ e]; exact hj)
    · rintro ⟨hA, hb⟩
      refine ⟨hA, fun j cs' hj => ?_⟩
      simp only [AS.setm] at hj
      by_cases e : j = k
      · subst e; exact hb j cs hk
      · rw [upd_ne _ _ e] at hj; exact hb j cs' hj
  obtain ⟨vs, ty, g1, g2, g3⟩ := h.mm k cs hk
  have hrow : (w.setRow (ρ k) us.toArray).heap[ρ k]? = some (.cells us.toArray ty (0, 0)) := setRow_heap w (ρ k) vs.toArray us.toArray ty (0, 0) g1
  have hoth : ∀ b, b ≠ ρ k → (w.setRow (ρ k) us.toArray).heap[b]? = w.heap[b]? := fun b hb => by
    simp only [World.setRow, Array.getElem?_modify]; rw [if_neg (Ne.symm hb)]
  have hU : ∀ b, s.free A ρ b → b < w.heap.size → s.free A ρ b ∧ (w.setRow (ρ k) us.toArray).heap[b]? = w.heap[b]? := fun b hb _ => ⟨hb, hoth b (Ne.symm (hb.2 k cs hk))⟩
  refine ⟨h.nodef, h.size, fun t av ht => ?_, fun j cs' hj => ?_, fun j j' c1 c2 hj hj' e => ?_, ?_, h.up⟩
  · obtain ⟨v, h1, h2⟩ := h.tm t av ht
    exact ⟨v, h1, by rw [hfree]; exact h2.map hU fun _ _ => rfl⟩
  · simp only [AS.setm] at hj
    rw [hfree]
    by_cases e : j = k
    · subst e
      rw [upd_same] at hj
      cases hj
      exact ⟨us, ty, hrow, hv.map hU fun _ _ _ _ => rfl, g3⟩
    · rw [upd_ne _ _ e] at hj
      obtain ⟨vs', ty', h1, h2, h3⟩ := h.mm j cs' hj
      exact ⟨vs', ty', by rw [hoth _ (fun e' => e (h.inj j k _ _ hj hk e'))]; exact h1, h2.map hU fun _ _ _ _ => rfl, h3⟩
  · have hold : ∀ i c, (s.setm k ds).mem i = some c → ∃ c', s.mem i = some c' := fun i c hi => by
      simp only [AS.setm] at hi
      by_cases e : i = k
      · exact ⟨cs, by rw [e]; exact hk⟩
      · rw [upd_ne _ _ e] at hi; exact ⟨c, hi⟩
    obtain ⟨d1, q1⟩ := hold j c1 hj
    obtain ⟨d2, q2⟩ := hold j' c2 hj'
    exact h.inj j j' _ _ q1 q2 e
  · refine h.below.trans ⟨rfl, rfl, rfl, by simp [World.setRow], fun b hb => hoth b (by omega)⟩
theorem RpC.const (U : Nat → Prop) (ρ : Nat → Nat) (W : World) {v : Value} (h : v.oneCell' = true) : RpC U ρ W (.c v) v := ⟨rfl, h⟩
end
end Go.Proofs.Ytinjgiigmlikpaa
