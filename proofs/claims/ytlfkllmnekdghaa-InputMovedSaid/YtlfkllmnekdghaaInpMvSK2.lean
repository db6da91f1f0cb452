/-
  My own texts, without what this claim does not need. My own text.
-/
import Derived.Laws.MakeOwn
import Derived.Laws.Slices
import Derived.RangeFuncRecord
import Derived.RangeFuncSeq
import Derived.Test.YtlfkllmnekdghaaInpMvSK1
namespace Go.Proofs.Ytlfkllmnekdghaa
open Go.RowKit
set_option linter.unusedVariables false
set_option linter.unusedSimpArgs false
/-- a row that grows: its things' type and size, its slice, how many things, their cells. -/
structure HRow where
  e : Nat
  sz : Nat
  v : Value
  n : Nat
  ys : List AC
abbrev Rws := Nat → Option HRow
def noRows : Rws := fun _ => none
def row1 (i : Nat) (r : HRow) : Rws := upd noRows i r
def RLe (R R' : Rws) : Prop := ∀ i r, R i = some r → R' i = some r
theorem RLe.refl (R : Rws) : RLe R R := fun _ _ h => h
theorem row1_le (f : Rws) (i : Nat) (r : HRow) : RLe (row1 i r) (upd f i r) := by
  intro j q h
  by_cases e : j = i
  · subst e; rw [row1, upd_same] at h; rw [upd_same]; exact h
  · rw [row1, upd_ne _ _ e] at h; cases h
/-- the address of a row's cell. -/
def rowPtr (v : Value) (off : Nat) : Value := match v with
  | .slice (some a) _ _ => .pointer (some (a.add off))
  | _ => .pointer none
/-- a slice of a row, from its thing lo on, to its thing hi. -/
def rowSl (v : Value) (z lo hi : Nat) : Value := match v with
  | .slice A _ c => sliced A lo hi c z
  | _ => v
/-- the blocks of a row; of a thing that is held by a pointer (of size 0: its only cell tells what it is) those that hang on it. -/
def HRow.own (r : HRow) (b : Nat) : Prop := r.v.ownBlock = some b ∨ (r.sz = 0 ∧ ∃ S w, r.ys = [.p S] ∧ S.holds w r.v ∧ S.foot w r.v b)
def HRow.ok (U : Nat → Prop) (ρ : Nat → Nat) (w : World) (r : HRow) : Prop :=
  (0 < r.sz ∧ ∃ xs, w.ownsRow 0 r.e r.sz r.v r.n xs ∧ RpL U ρ w r.ys xs) ∨ (r.sz = 0 ∧ r.n = 0 ∧ r.v.ownBlock = none ∧ (∃ S, r.ys = [.p S] ∧ S.holds w r.v) ∧ ∀ b, r.own b → b < w.heap.size)
theorem HRow.own_row {r : HRow} {b : Nat} (h : r.own b) (hs : 0 < r.sz) : r.v.ownBlock = some b := by
  rcases h with h | ⟨h, _⟩
  · exact h
  · omega
theorem HRow.ok.row {U : Nat → Prop} {ρ : Nat → Nat} {w : World} {r : HRow} (h : r.ok U ρ w) (hs : 0 < r.sz) : ∃ xs, w.ownsRow 0 r.e r.sz r.v r.n xs ∧ RpL U ρ w r.ys xs := by
  rcases h with ⟨_, h⟩ | ⟨h, _⟩
  · exact h
  · omega
theorem HRow.ok.pos {U : Nat → Prop} {ρ : Nat → Nat} {w : World} {r : HRow} (h : r.ok U ρ w) (hn : 0 < r.n) : 0 < r.sz := by
  rcases h with ⟨h, _⟩ | ⟨_, h, _⟩
  · exact h
  · omega
theorem HRow.ok.lt {U : Nat → Prop} {ρ : Nat → Nat} {w : World} {r : HRow} (h : r.ok U ρ w) {g : Nat} (hg : r.own g) : g < w.heap.size := by
  rcases h with ⟨hs, xs, ho, _⟩ | ⟨_, _, _, _, h⟩
  · exact (ho.lt g (hg.elim id fun h => by omega)).2
  · exact h g hg
theorem HRow.ok.kept {U U' : Nat → Prop} {ρ ρ' : Nat → Nat} {w w' : World} {r : HRow} (h : r.ok U ρ w) (hc : ∀ y ∈ r.ys, y.closedB = true) (hk : ∀ g, r.own g → w'.heap[g]? = w.heap[g]?) (hsz : w.heap.size ≤ w'.heap.size) (hU : ∀ b, U b → b < w.heap.size → U' b ∧ w'.heap[b]? = w.heap[b]?) : r.ok U' ρ' w' := by
  rcases h with ⟨hs, xs, ho, hl⟩ | ⟨hs, hn, hv, ⟨S, hS, hh⟩, hlt⟩
  · exact .inl ⟨hs, xs, ownsRow_kept ho fun g q => hk g (.inl q), hl.map hU fun j x hx hj => absurd hj (AC.closed_of (hc x hx) j)⟩
  · exact .inr ⟨hs, hn, hv, ⟨S, hS, (S.frame w w' r.v hh fun b hb => hk b (.inr ⟨hs, S, w, hS, hh, hb⟩)).1⟩, fun b hb => Nat.lt_of_lt_of_le (hlt b hb) hsz⟩
structure RowOK (B0 : Base) (A : Nat → Prop) (s : AS) (ρ : Nat → Nat) (w : World) (r : HRow) : Prop where
  ok : r.ok (s.free A ρ) ρ w
  cl : ∀ y ∈ r.ys, y.closedB = true
  own : ∀ g, r.own g → ¬ A g ∧ ∀ k cs, s.mem k = some cs → ρ k ≠ g
theorem RowOK.cells {B0 : Base} {A : Nat → Prop} {s : AS} {ρ : Nat → Nat} {w : World} {r : HRow} (h : RowOK B0 A s ρ w r) (hs : 0 < r.sz) : ∃ xs, w.ownsRow 0 r.e r.sz r.v r.n xs ∧ RpL (s.free A ρ) ρ w r.ys xs := h.ok.row hs
structure RR (B0 : Base) (A0 : Nat → Prop) (R : Rws) (s : AS) (a : Act) (w : World) (A : Nat → Prop) (ρ : Nat → Nat) : Prop where
  up : ∀ b, B0.W.heap.size ≤ b → A0 b
  sub : ∀ b, A b → A0 b
  rel : Rel (hbase B0 s ρ w) A s ρ a w
  mine : ∀ k cs, s.mem k = some cs → ¬ B0.F (ρ k)
  below : BelowB B0 w
  rows : ∀ i r, R i = some r → RowOK B0 A s ρ w r
  apart : ∀ i j r q, R i = some r → R j = some q → i ≠ j → ∀ g, r.own g → ¬ q.own g
  hot : ∀ i r g, R i = some r → r.own g → ¬ B0.F g ∧ A0 g
  anch : Anch B0 s ρ
def RRel (B0 : Base) (A0 : Nat → Prop) (R : Rws) (s : AS) (a : Act) (w : World) : Prop := ∃ A ρ, RR B0 A0 R s a w A ρ
section
variable {P : Program} {B0 : Base} {A0 A : Nat → Prop} {R : Rws} {s s' : AS} {a a' : Act} {w w' : World} {ρ ρ' : Nat → Nat} {o oi oj : Oper} {ops : Array Oper}
theorem RpL.closed_map {U U' : Nat → Prop} {xs : List AC} {vs : List Value} (h : RpL U ρ w xs vs) (hc : ∀ y ∈ xs, y.closedB = true) (hU : ∀ b, U b → b < w.heap.size → U' b ∧ w'.heap[b]? = w.heap[b]?) : RpL U' ρ' w' xs vs :=
  h.map hU fun j x hx hj => absurd hj (AC.closed_of (hc x hx) j)
theorem RR.next (h : RR B0 A0 R s a w A ρ) (hR' : Rel (hbase B0 s ρ w) A s' ρ' a' w') : RR B0 A0 R s' a' w' A ρ' := by
  have hcase : ∀ k cs, s'.mem k = some cs → w.heap.size ≤ ρ' k ∨ ∃ j cs, s.mem j = some cs ∧ ρ j = ρ' k := by
    intro k cs hk
    obtain ⟨_, _, _, _, hF⟩ := hR'.mm k cs hk
    rcases Nat.lt_or_ge (ρ' k) w.heap.size with hl | hl
    · exact .inr (Classical.byContradiction fun hn => hF ⟨hl, fun j cs hj e => hn ⟨j, cs, hj, e⟩⟩)
    · exact .inl hl
  have hfree : ∀ b, s.free A ρ b → b < w.heap.size → s'.free A ρ' b ∧ w'.heap[b]? = w.heap[b]? := fun b hb hl => by
    refine ⟨⟨hb.1, fun k cs hk e => ?_⟩, hR'.below.block b ⟨hl, fun k cs hk => hb.2 k cs hk⟩⟩
    rcases hcase k cs hk with h1 | ⟨j, cs', hj, e'⟩
    · omega
    · exact hb.2 j cs' hj (e'.trans e)
  refine ⟨h.up, h.sub, hR'.hot fun b hb => hR'.up b (Nat.le_trans hR'.below.size hb), fun k cs hk hf => ?_, ⟨hR'.below.os.trans h.below.os, hR'.below.tape.trans h.below.tape, hR'.below.output.trans h.below.output, Nat.le_trans h.below.size hR'.below.size, fun b hf => ?_⟩, fun i r hi => ?_, h.apart, h.hot, anch_next h.anch hR'⟩
  · rcases hcase k cs hk with h1 | ⟨j, cs', hj, e⟩
    · have := B0.lt _ hf; have := h.below.size; omega
    · rw [← e] at hf; exact h.mine j cs' hj hf
  · exact (hR'.below.block b ⟨Nat.lt_of_lt_of_le (B0.lt b hf) h.below.size, fun k cs hk e => h.mine k cs hk (by rw [e]; exact hf)⟩).trans (h.below.block b hf)
  · obtain ⟨hk0, hc, hg⟩ := h.rows i r hi
    refine ⟨hk0.kept hc (fun g q => hR'.below.block g ⟨hk0.lt q, (hg g q).2⟩) hR'.below.size hfree, hc, fun g q => ⟨(hg g q).1, fun k cs hk he => ?_⟩⟩
    rcases hcase k cs hk with h1 | ⟨j, cs', hj, e⟩
    · have := hk0.lt q; omega
    · exact (hg g q).2 j cs' hj (e.trans he)
theorem RR.put {d : Option Nat} {av : AV} {v : Value} (h : RR B0 A0 R s a w A ρ) (hd : ∀ d', d = some d' → d' < s.n) (hv : RpV (s.free A ρ) ρ w av v) : RR B0 A0 R (s.put d av) (a.put d v) w A ρ := h.next (h.rel.put hd hv)
theorem RR.le {R' : Rws} (h : RR B0 A0 R s a w A ρ) (l : RLe R' R) : RR B0 A0 R' s a w A ρ :=
  ⟨h.up, h.sub, h.rel, h.mine, h.below, fun i r hi => h.rows i r (l i r hi), fun i j r q hi hj => h.apart i j r q (l i r hi) (l j q hj), fun i r g hi => h.hot i r g (l i r hi), h.anch⟩
theorem RR.les (h : RR B0 A0 R s a w A ρ) (l : s.Le s') : RR B0 A0 R s' a w A ρ := h.next (h.rel.le l)
/-- what is read off a row. -/
inductive HRead (P : Program) (R : Rws) (look : Operand → Option AV) (o : Oper) : AV → Prop
  | len (i : Nat) (r : HRow) (t z : Nat) (x : Operand) (hi : R i = some r) (hsz : 0 < r.sz) (ho : o.op = .call ⟨.builtin .len, #[x], #[t]⟩) (hx : look x = some (vC r.v)) (ht : sliOf P t = some z) : HRead P R look o (vI r.n)
  | idx (i : Nat) (r : HRow) (t : Nat) (x y : Operand) (ik : IntKind) (j : Int) (hi : R i = some r) (ho : o.op = .indexAddr t x y) (hx : look x = some (vC r.v)) (hy : look y = some (vC (.int ik j))) (h0 : 0 ≤ j) (h1 : j < r.n) (ht : sliOf P t = some r.sz) : HRead P R look o (vC (rowPtr r.v (j.toNat * r.sz)))
  | fld (i : Nat) (r : HRow) (off t f fo : Nat) (x : Operand) (hi : R i = some r) (hn : 0 < r.n) (ho : o.op = .fieldAddr t x f) (hx : look x = some (vC (rowPtr r.v off))) (ht : fldOf P t f = some fo) : HRead P R look o (vC (rowPtr r.v (off + fo)))
  | load (i : Nat) (r : HRow) (off lt : Nat) (x : Operand) (av : AW) (hi : R i = some r) (hn : 0 < r.n) (ho : o.op = .load lt x) (hx : look x = some (vC (rowPtr r.v off))) (hv : pick P lt r.ys off = some av) : HRead P R look o (.w av)
  | sl (i : Nat) (r : HRow) (t lo hi : Nat) (x : Operand) (yl yh : Option Operand) (hi' : R i = some r) (hsz : 0 < r.sz) (ho : o.op = .slice t x yl yh none) (hx : look x = some (vC r.v)) (hl : (yl = none ∧ lo = 0 ∧ yh ≠ none) ∨ ∃ y, yl = some y ∧ look y = some (vC (.int .i64 lo))) (hh : (yh = none ∧ hi = r.n) ∨ ∃ y, yh = some y ∧ look y = some (vC (.int .i64 hi))) (h1 : lo ≤ hi) (h2 : hi ≤ r.n) (ht : sliOf P t = some r.sz) : HRead P R look o (vC (rowSl r.v r.sz lo hi))
  | lenS (i : Nat) (r : HRow) (t z lo hi : Nat) (x : Operand) (hi' : R i = some r) (hsz : 0 < r.sz) (ho : o.op = .call ⟨.builtin .len, #[x], #[t]⟩) (hx : look x = some (vC (rowSl r.v r.sz lo hi))) (ht : sliOf P t = some z) : HRead P R look o (vI ((hi - lo : Nat) : Int))
  | idxS (i : Nat) (r : HRow) (t lo hi : Nat) (x y : Operand) (ik : IntKind) (j : Int) (hi' : R i = some r) (ho : o.op = .indexAddr t x y) (hx : look x = some (vC (rowSl r.v r.sz lo hi))) (hy : look y = some (vC (.int ik j))) (h0 : 0 ≤ j) (h1 : j < ((hi - lo : Nat) : Int)) (h2 : hi ≤ r.n) (ht : sliOf P t = some r.sz) : HRead P R look o (vC (rowPtr r.v ((lo + j.toNat) * r.sz)))
theorem HRead.congr {look look' : Operand → Option AV} {av : AV} (h : HRead P R look o av) (e : ∀ x ∈ o.op.operands, look' x = look x) : HRead P R look' o av := by
  cases h with
  | len i r t z x hi hsz ho hx ht => exact .len i r t z x hi hsz ho (by rw [e x (by simp [ho, Op.operands, Call.operands])]; exact hx) ht
  | idx i r t x y ik j hi ho hx hy h0 h1 ht => exact .idx i r t x y ik j hi ho (by rw [e x (by simp [ho, Op.operands])]; exact hx) (by rw [e y (by simp [ho, Op.operands])]; exact hy) h0 h1 ht
  | fld i r off t f fo x hi hn ho hx ht => exact .fld i r off t f fo x hi hn ho (by rw [e x (by simp [ho, Op.operands])]; exact hx) ht
  | load i r off lt x av hi hn ho hx hv => exact .load i r off lt x av hi hn ho (by rw [e x (by simp [ho, Op.operands])]; exact hx) hv
  | sl i r t lo hi x yl yh hi' hsz ho hx hl hh h1 h2 ht =>
    refine .sl i r t lo hi x yl yh hi' hsz ho (by rw [e x (by simp [ho, Op.operands])]; exact hx) ?_ ?_ h1 h2 ht
    · rcases hl with h | ⟨y, rfl, h⟩
      · exact .inl h
      · exact .inr ⟨y, rfl, by rw [e y (by simp [ho, Op.operands])]; exact h⟩
    · rcases hh with h | ⟨y, rfl, h⟩
      · exact .inl h
      · exact .inr ⟨y, rfl, by rw [e y (by simp [ho, Op.operands])]; exact h⟩
  | lenS i r t z lo hi x hi' hsz ho hx ht => exact .lenS i r t z lo hi x hi' hsz ho (by rw [e x (by simp [ho, Op.operands, Call.operands])]; exact hx) ht
  | idxS i r t lo hi x y ik j hi' ho hx hy h0 h1 h2 ht => exact .idxS i r t lo hi x y ik j hi' ho (by rw [e x (by simp [ho, Op.operands])]; exact hx) (by rw [e y (by simp [ho, Op.operands])]; exact hy) h0 h1 h2 ht
theorem HRead.rows {R' : Rws} {look : Operand → Option AV} {av : AV} (h : HRead P R look o av) (l : RLe R R') : HRead P R' look o av := by
  cases h with
  | len i r t z x hi hsz ho hx ht => exact .len i r t z x (l _ _ hi) hsz ho hx ht
  | idx i r t x y ik j hi ho hx hy h0 h1 ht => exact .idx i r t x y ik j (l _ _ hi) ho hx hy h0 h1 ht
  | fld i r off t f fo x hi hn ho hx ht => exact .fld i r off t f fo x (l _ _ hi) hn ho hx ht
  | load i r off lt x av hi hn ho hx hv => exact .load i r off lt x av (l _ _ hi) hn ho hx hv
  | sl i r t lo hi x yl yh hi' hsz ho hx hl hh h1 h2 ht => exact .sl i r t lo hi x yl yh (l _ _ hi') hsz ho hx hl hh h1 h2 ht
  | lenS i r t z lo hi x hi' hsz ho hx ht => exact .lenS i r t z lo hi x (l _ _ hi') hsz ho hx ht
  | idxS i r t lo hi x y ik j hi' ho hx hy h0 h1 h2 ht => exact .idxS i r t lo hi x y ik j (l _ _ hi') ho hx hy h0 h1 h2 ht
theorem pick_cells {U : Nat → Prop} {ty : TypeId} {ys : List AC} {off : Nat} {av : AW} {xs : List Value} {b : Addr} (hv : pick P ty ys off = some av) (hl : RpL U ρ w ys xs) (hc : ∀ j u, xs[j]? = some u → w.cell? (b.add j) = some u) :
    ∃ v, (loadVar ty (b.add off)).run P w = .ok v w ∧ RpW U ρ w av v := by
  unfold pick at hv
  have key : ∀ d, P.underlying ty = some d → ((∃ fs, d = .struct fs) ∨ ∃ n e, d = .array n e) → ((P.info? ty).bind fun i => if off + i.size ≤ ys.length then some (AW.agg ((ys.drop off).take i.size)) else none) = some av → ∃ v, (loadVar ty (b.add off)).run P w = .ok v w ∧ RpW U ρ w av v := by
    intro d hu hd h
    cases hi : P.info? ty with
    | none => rw [hi] at h; cases h
    | some i =>
      rw [hi] at h
      simp only [Option.bind_some] at h
      split at h
      · rename_i hle
        cases h
        have hs := hl.sub off i.size
        have hlen : ((xs.drop off).take i.size).length = i.size := by have := hl.1; simp; omega
        refine ⟨_, run_loadVar_agg hu hd hi hlen (fun j v hj => ?_), _, rfl, hs⟩
        have hj' : j < i.size := by rw [← hlen]; exact (List.getElem?_eq_some_iff.1 hj).1
        rw [List.getElem?_take_of_lt hj', List.getElem?_drop] at hj
        rw [add_add']
        exact hc _ v hj
      · cases h
  have key1 : ∀ d, P.underlying ty = some d → (∀ fs, d ≠ .struct fs) → (∀ n e, d ≠ .array n e) → (ys[off]?).map AW.one = some av → ∃ v, (loadVar ty (b.add off)).run P w = .ok v w ∧ RpW U ρ w av v := by
    intro d hu h1 h2 h
    cases hx : ys[off]? with
    | none => rw [hx] at h; cases h
    | some x =>
      rw [hx] at h
      cases h
      have hlt : off < xs.length := by rw [← hl.1]; exact (List.getElem?_eq_some_iff.1 hx).1
      have hv := List.getElem?_eq_getElem hlt
      exact ⟨_, run_loadVar_one hu h1 h2 (hc off _ hv), hl.2 off x _ hx hv⟩
  cases hu : P.underlying ty with
  | none => rw [hu] at hv; cases hv
  | some d =>
    rw [hu] at hv
    cases d <;> first | exact key _ hu (.inl ⟨_, rfl⟩) hv | exact key _ hu (.inr ⟨_, _, rfl⟩) hv | exact key1 _ hu (fun _ h => by cases h) (fun _ _ h => by cases h) hv
theorem RowOK.slice {r : HRow} (h : RowOK B0 A s ρ w r) (hsz : 0 < r.sz) : ∃ Ad c, r.v = .slice Ad r.n c ∧ (0 < r.n → ∃ g, Ad = some ⟨g, 0, none⟩) := by
  obtain ⟨xs, ho, _⟩ := h.cells hsz
  rcases ho.2 with ⟨e, e0⟩ | ⟨g, cap, cur, e, _⟩
  · exact ⟨none, 0, by rw [e, e0], fun h => by omega⟩
  · exact ⟨_, _, e, fun _ => ⟨g, rfl⟩⟩
theorem RowOK.slice2 {r : HRow} (h : RowOK B0 A s ρ w r) (hsz : 0 < r.sz) : ∃ Ad c, r.v = .slice Ad r.n c ∧ r.n ≤ c ∧ (0 < r.n → ∃ g, Ad = some ⟨g, 0, none⟩) := by
  obtain ⟨xs, ho, _⟩ := h.cells hsz
  rcases ho.2 with ⟨e, e0⟩ | ⟨g, cap, cur, e, _, _, hnc, _⟩
  · exact ⟨none, 0, by rw [e, e0], by omega, fun h => by omega⟩
  · exact ⟨_, _, e, hnc, fun _ => ⟨g, rfl⟩⟩
theorem rowSl_at {g n c z lo hi : Nat} (h1 : lo < hi) (h2 : hi ≤ c) : rowSl (.slice (some ⟨g, 0, none⟩) n c) z lo hi = .slice (some ((⟨g, 0, none⟩ : Addr).add (lo * z))) (hi - lo) (c - lo) := by
  unfold rowSl sliced
  simp only
  rw [if_neg (by omega)]; rfl
theorem HRead.closed {av : AV} (h : HRead P R s.look o av) (hR : ∀ i r, R i = some r → ∀ y ∈ r.ys, y.closedB = true) : av.closed := by
  cases h with
  | len => exact fun j => noown _ j
  | idx => exact fun j => noown _ j
  | fld => exact fun j => noown _ j
  | sl => exact fun j => noown _ j
  | lenS => exact fun j => noown _ j
  | idxS => exact fun j => noown _ j
  | load i r off lt x av hi hn ho hx hv =>
    rintro j ⟨y, hy, hj⟩
    exact AC.closed_of (hR i r hi y (pick_mem hv y hy)) j hj
theorem HRead.sound {av : AV} (h : HRead P R s.look o av) (hR : RR B0 A0 R s a w A ρ) : ∃ v, (execOp a.eval o).run P w = .ok (.value v) w ∧ RpV (s.free A ρ) ρ w av v := by
  cases h with
  | len i r t z x hi hsz ho hx ht =>
    obtain ⟨Ad, c, e, _⟩ := (hR.rows i r hi).slice hsz
    have hv : a.eval x = r.v := (hR.rel.look hx).1
    obtain ⟨el, ti, hu, _, _⟩ := sliOf_spec ht
    have hu' : P.underlying t = some (.slice (P.elem t)) := by rw [elem_slice hu]; exact hu
    refine ⟨.int .i64 r.n, ?_, rfl, rfl⟩
    have em : (#[x] : Array Operand).map a.eval = #[.slice Ad r.n c] := by simp [hv, e]
    simp only [execOp, ho, resolve, em, Sem.run_bind, Sem.run_pure, Result.andThen_ok, invoke, builtin]
    rw [run_len_slice w t _ Ad r.n c hu']
    rfl
  | idx i r t x y ik j hi ho hx hy h0 h1 ht =>
    obtain ⟨Ad, c, e, hA⟩ := (hR.rows i r hi).slice ((hR.rows i r hi).ok.pos (by omega))
    obtain ⟨g, rfl⟩ := hA (by omega)
    have hv : a.eval x = r.v := (hR.rel.look hx).1
    have hj : a.eval y = .int ik j := (hR.rel.look hy).1
    obtain ⟨el, ti, hu, hi', hs⟩ := sliOf_spec ht
    refine ⟨rowPtr r.v (j.toNat * r.sz), ?_, rfl, by rw [e]; rfl⟩
    rw [e] at hv ⊢
    simp only [execOp, ho, Instr.indexAt, hv, hj, asIntOf, Sem.run_bind, Sem.run_pure, Result.andThen_ok, run_underlying hu, run_sizeOf' hi', if_pos (And.intro h0 h1), hs, rowPtr]
  | fld i r off t f fo x hi hn ho hx ht =>
    obtain ⟨Ad, c, e, hA⟩ := (hR.rows i r hi).slice ((hR.rows i r hi).ok.pos (by omega))
    obtain ⟨g, rfl⟩ := hA hn
    have hv : a.eval x = rowPtr r.v off := (hR.rel.look hx).1
    rw [e] at hv ⊢
    unfold fldOf at ht
    split at ht
    · rename_i fs hu
      cases hf : fs[f]? with
      | none => rw [hf] at ht; cases ht
      | some fd =>
        rw [hf] at ht
        simp only [Option.bind_some] at ht
        cases hi : P.info? fd.type with
        | none => rw [hi] at ht; cases ht
        | some ti =>
          rw [hi] at ht
          simp only [Option.bind_some] at ht
          split at ht
          · cases ht
          · rename_i hne
            cases ht
            refine ⟨_, ?_, rfl, rfl⟩
            simp only [execOp, ho, Instr.fieldAt, hv, rowPtr, Instr.sureAddr, Sem.run_bind, Sem.run_pure, Result.andThen_ok, run_underlying hu, hf, fieldPlace, run_sizeOf' hi, if_neg hne, add_add']
    · cases ht
  | load i r off lt x av hi hn ho hx hv =>
    have hok := hR.rows i r hi
    obtain ⟨Ad, c, e, hA⟩ := hok.slice (hok.ok.pos hn)
    obtain ⟨g, rfl⟩ := hA hn
    have hvx : a.eval x = rowPtr r.v off := (hR.rel.look hx).1
    obtain ⟨xs, ho', hl⟩ := hok.cells (hok.ok.pos hn)
    obtain ⟨v, h1, h2⟩ := pick_cells hv hl (ho'.cells (g := g) (by rw [e]; rfl))
    rw [e] at hvx
    refine ⟨v, ?_, h2⟩
    simp only [execOp, ho, Instr.loadAt, hvx, rowPtr, Instr.sureAddr, Sem.run_bind, Sem.run_pure, Result.andThen_ok, h1]
  | sl i r t lo hi x yl yh hi' hsz ho hx hl hh h1 h2 ht =>
    obtain ⟨Ad, c, e, hnc, _⟩ := (hR.rows i r hi').slice2 hsz
    have hv : a.eval x = r.v := (hR.rel.look hx).1
    rw [e] at hv
    obtain ⟨el, ti, hu, hti, hs⟩ := sliOf_spec ht
    have hu' : P.underlying t = some (.slice (P.elem t)) := by rw [elem_slice hu]; exact hu
    have hone : (rowSl r.v r.sz lo hi).oneCell' = true := by rw [e]; rfl
    refine ⟨_, ?_, rfl, hone⟩
    rw [e]
    rcases hl with ⟨rfl, rfl, hne⟩ | ⟨y, rfl, hy⟩
    · rcases hh with ⟨rfl, _⟩ | ⟨y, rfl, hy⟩
      · exact absurd rfl hne
      · have ey : a.eval y = .int .i64 hi := (hR.rel.look hy).1
        simp only [execOp, ho, hv, Option.map_some, Option.map_none, ey, Sem.run_bind, run_sliceAt_slice w t _ _ _ _ hu', run_slice_h w t Ad r.n c hu' .i64 hi (by omega) (by omega), elem_slice hu, run_sizeOf' hti, Result.andThen_ok, hs, Sem.run_pure, Int.toNat_natCast, rowSl]
    · have ey : a.eval y = .int .i64 lo := (hR.rel.look hy).1
      rcases hh with ⟨rfl, rfl⟩ | ⟨y', rfl, hy'⟩
      · simp only [execOp, ho, hv, Option.map_some, Option.map_none, ey, Sem.run_bind, run_sliceAt_slice w t _ _ _ _ hu', run_slice_l w t Ad r.n c hu' .i64 lo (by omega) (by omega), elem_slice hu, run_sizeOf' hti, Result.andThen_ok, hs, Sem.run_pure, Int.toNat_natCast, rowSl]
      · have ey' : a.eval y' = .int .i64 hi := (hR.rel.look hy').1
        simp only [execOp, ho, hv, Option.map_some, Option.map_none, ey, ey', Sem.run_bind, run_sliceAt_slice w t _ _ _ _ hu', run_slice_lh w t Ad r.n c hu' .i64 .i64 lo hi (by omega) (by omega) (by omega), elem_slice hu, run_sizeOf' hti, Result.andThen_ok, hs, Sem.run_pure, Int.toNat_natCast, rowSl]
  | lenS i r t z lo hi x hi' hsz ho hx ht =>
    obtain ⟨Ad, c, e, _, _⟩ := (hR.rows i r hi').slice2 hsz
    have hv : a.eval x = rowSl r.v r.sz lo hi := (hR.rel.look hx).1
    obtain ⟨el, ti, hu, _, _⟩ := sliOf_spec ht
    have hu' : P.underlying t = some (.slice (P.elem t)) := by rw [elem_slice hu]; exact hu
    refine ⟨.int .i64 ((hi - lo : Nat) : Int), ?_, rfl, rfl⟩
    rw [e] at hv
    unfold rowSl sliced at hv
    simp only at hv
    have em : (#[x] : Array Operand).map a.eval = #[.slice (if c = lo then Ad else Ad.map (·.add (lo * r.sz))) (hi - lo) (c - lo)] := by simp only [List.map_toArray, List.map_cons, List.map_nil, hv]
    simp only [execOp, ho, resolve, em, Sem.run_bind, Sem.run_pure, Result.andThen_ok, invoke, builtin]
    rw [run_len_slice w t _ _ _ _ hu']
    rfl
  | idxS i r t lo hi x y ik j hi' ho hx hy h0 h1 h2 ht =>
    obtain ⟨Ad, c, e, hnc, hA⟩ := (hR.rows i r hi').slice2 ((hR.rows i r hi').ok.pos (by omega))
    obtain ⟨g, rfl⟩ := hA (by omega)
    have hv : a.eval x = rowSl r.v r.sz lo hi := (hR.rel.look hx).1
    have hj : a.eval y = .int ik j := (hR.rel.look hy).1
    obtain ⟨el, ti, hu, hti, hs⟩ := sliOf_spec ht
    rw [e, rowSl_at (by omega) (by omega)] at hv
    refine ⟨rowPtr r.v ((lo + j.toNat) * r.sz), ?_, rfl, by rw [e]; rfl⟩
    rw [e]
    simp only [execOp, ho, Instr.indexAt, hv, hj, asIntOf, Sem.run_bind, Sem.run_pure, Result.andThen_ok, run_underlying hu, run_sizeOf' hti, if_pos (And.intro h0 h1), hs, rowPtr, add_add', Nat.add_mul]
/-- copy into a row of plain memory, of things of some cells each. -/
theorem run_copy_rz (w : World) (dT sT ty elem : TypeId) (g o dLen dCap z : Nat) (a : Addr) (sLen sCap : Nat) (cur : Array Value) (t : TypeId) (cs : List Value)
    (hu : P.underlying dT = some (.slice elem)) (hs : (P.info? elem).map (·.size) = some z)
    (hg : w.heap[g]? = some (.cells cur t (0, 0))) (hn : cs.length = Nat.min sLen dLen * z)
    (hsrc : ∀ j v, cs[j]? = some v → w.cell? (a.add j) = some v) (hfit : o + cs.length ≤ cur.size) (h1 : ∀ v ∈ cs, v.oneCell' = true) :
    (Builtin.copy_ #[dT, sT] ty #[.slice (some ⟨g, o, none⟩) dLen dCap, .slice (some a) sLen sCap]).run P w =
      .ok (goInt (Nat.min sLen dLen)) (w.setRow g (cur.toList.take o ++ cs ++ cur.toList.drop (o + cs.length)).toArray) := by
  have hl := run_loadCells_list (P := P) w a cs hsrc
  have hst := run_storeCells_at P g o t cs 0 cur w hg (by simpa using hfit) h1
  cases hq : P.info? elem with
  | none => simp [hq] at hs
  | some i =>
    have hi : i.size = z := by simpa [hq] using hs
    simp [Builtin.copy_, run_underlying hu, Builtin.lenOf, Builtin.firstCells, sizeOf, typeInfo, hq, hi, ← hn, hl, hst]
theorem run_copy_0z (w : World) (dT sT ty elem : TypeId) (d a : Option Addr) (dLen dCap sLen sCap z : Nat) (hu : P.underlying dT = some (.slice elem)) (hs : (P.info? elem).map (·.size) = some z) (hn : Nat.min sLen dLen = 0) :
    (Builtin.copy_ #[dT, sT] ty #[.slice d dLen dCap, .slice a sLen sCap]).run P w = .ok (goInt 0) w := by
  cases hq : P.info? elem with
  | none => simp [hq] at hs
  | some i =>
    have hl : ∀ (x : Addr), (loadCells x 0).run P w = .ok #[] w := fun x => by simpa using run_loadCells_list (P := P) w x [] (by simp)
    cases d <;> cases a <;> simp [Builtin.copy_, run_underlying hu, Builtin.lenOf, Builtin.firstCells, sizeOf, typeInfo, hq, hn, storeCells, hl]
theorem take_splice {cur us : List Value} {off N : Nat} (h : off + us.length ≤ N) (hN : N ≤ cur.length) : (cur.take off ++ us ++ cur.drop (off + us.length)).take N = (cur.take N).take off ++ us ++ (cur.take N).drop (off + us.length) := by
  apply List.ext_getElem?
  intro j
  have t1 : (cur.take off).length = off := by rw [List.length_take]; omega
  have t2 : ((cur.take N).take off).length = off := by rw [List.length_take, List.length_take]; omega
  by_cases hj : j < N
  · rw [List.getElem?_take_of_lt hj]
    by_cases j1 : j < off
    · rw [List.append_assoc, List.getElem?_append_left (by rw [t1]; exact j1), List.getElem?_take_of_lt j1, List.append_assoc, List.getElem?_append_left (by rw [t2]; exact j1), List.getElem?_take_of_lt j1, List.getElem?_take_of_lt hj]
    · by_cases j2 : j < off + us.length
      · rw [List.append_assoc, List.getElem?_append_right (by omega), List.getElem?_append_left (by omega), List.append_assoc, List.getElem?_append_right (by omega), List.getElem?_append_left (by omega), t1, t2]
      · rw [List.getElem?_append_right (by simp only [List.length_append, t1]; omega), List.getElem?_append_right (by simp only [List.length_append, t2]; omega), List.getElem?_drop, List.getElem?_drop]
        simp only [List.length_append, t1, t2]
        rw [List.getElem?_take_of_lt (by omega)]
  · rw [List.getElem?_eq_none (by rw [List.length_take]; omega), List.getElem?_eq_none]
    simp only [List.length_append, List.length_take, List.length_drop]
    omega
abbrev Ok1 : Value → Prop := fun v => v.oneCell' = true
/-- what is a slice of a row: of its things from lo on, to hi. -/
def RowSub (v : Value) (z lo hi : Nat) (u : Value) : Prop := (∃ Ad c, u = .slice Ad (hi - lo) c) ∧ (lo < hi → ∃ g n c, v = .slice (some ⟨g, 0, none⟩) n c ∧ hi ≤ c ∧ u = .slice (some ⟨g, lo * z, none⟩) (hi - lo) (c - lo))
theorem addr0 (g o k : Nat) : (⟨g, o, none⟩ : Addr).add k = ⟨g, o + k, none⟩ := by unfold Addr.add; split <;> simp_all
theorem RowSub.all {A : Option Addr} {n c : Nat} (z : Nat) (h1 : n ≤ c) (h2 : 0 < n → ∃ g, A = some ⟨g, 0, none⟩) : RowSub (.slice A n c) z 0 n (.slice A n c) :=
  ⟨⟨A, c, rfl⟩, fun h => by obtain ⟨g, rfl⟩ := h2 h; exact ⟨g, n, c, rfl, h1, by simp⟩⟩
theorem RowSub.sl {v u : Value} {z lo hi k m : Nat} (h : RowSub v z lo hi u) (hm : hi - lo = m) (hk : k ≤ m) (hl : lo ≤ hi) : RowSub v z (lo + k) hi (rowSl u z k m) := by
  subst hm
  obtain ⟨⟨Ad, c, e⟩, h2⟩ := h
  refine ⟨⟨_, _, by rw [e]; unfold rowSl sliced; rw [Nat.sub_sub]⟩, fun hlt => ?_⟩
  obtain ⟨g, n, c', e1, h3, e2⟩ := h2 (by omega)
  refine ⟨g, n, c', e1, h3, ?_⟩
  rw [e2]
  unfold rowSl sliced
  simp only
  rw [if_neg (by omega), Option.map_some, addr0, Nat.sub_sub, Nat.sub_sub, Nat.add_mul]
theorem RowSub.one {v u : Value} {z lo hi : Nat} (h : RowSub v z lo hi u) : u.oneCell' = true := by
  obtain ⟨⟨Ad, c, rfl⟩, _⟩ := h; rfl
/-- what is copied from: what is told, or a slice of a row. -/
def CpSrc (R : Rws) (look : Operand → Option AV) (y : Operand) (z m : Nat) (news : List AC) : Prop :=
  look y = some (vS z m news) ∨ ∃ j q lo u, R j = some q ∧ q.sz = z ∧ look y = some (vC u) ∧ RowSub q.v z lo (lo + m) u ∧ lo + m ≤ q.n ∧ news = (q.ys.drop (lo * z)).take (m * z)
/-- a row grows, or is made, or is copied into; of what comes out the second one is known. -/
inductive HWr (P : Program) (R : Rws) (look : Operand → Option AV) (o : Oper) : (Value → Rws) → (Value → Prop) → Prop
  | app (i : Nat) (r : HRow) (tt bytes m : Nat) (sx xx : Operand) (news : List AC) (hi : R i = some r) (ho : o.op = .call ⟨.builtin .append, #[sx, xx], #[tt, tt]⟩) (ht : rowTyB P tt r.e r.sz bytes = true) (hx : look sx = some (vC r.v)) (hy : look xx = some (vS r.sz m news)) (h1 : r.n + m ≤ maxLen) (h2 : (r.n + m) * bytes ≤ 140737488355328) (hc : ∀ y ∈ news, y.closedB = true) :
      HWr P R look o (fun v' => upd R i ⟨r.e, r.sz, v', r.n + m, r.ys ++ news⟩) Ok1
  | new (i t n e sz bytes : Nat) (parts : List (Nat × Operand)) (vs : List Value) (zs : List (Nat × AW)) (r : List AC) (hi : R i = none) (ho : o.op = .buildSlice t n parts.toArray) (ht : rowTyB P t e sz bytes = true) (hZ : sliZ P t = some vs) (hz : lookP look parts = some zs) (hb : buildN (plcN n sz) (zeroN n sz vs) zs = some r)
      (h1 : (vs.all fun v => v.oneCell') = true) (hs : vs.length = sz) (h2 : n * sz ≤ 16777216) (h3 : n ≤ maxLen) (hr : r.length = n * sz) (hcl : ∀ y ∈ r, y.closedB = true) : HWr P R look o (fun v' => upd R i ⟨e, sz, v', n, r⟩) Ok1
  | make (i t l c e sz bytes : Nat) (x y : Operand) (kl kc : IntKind) (vs : List Value) (hi : R i = none) (ho : o.op = .makeSlice t x y) (ht : rowTyB P t e sz bytes = true) (hZ : sliZ P t = some vs) (hx : look x = some (vC (.int kl l))) (hy : look y = some (vC (.int kc c))) (hl : l ≤ c) (h1 : (vs.all fun v => v.oneCell') = true) (hs : vs.length = sz) (h2 : bytes * c ≤ 281474976710656) (h3 : c ≤ maxLen) : HWr P R look o (fun v' => upd R i ⟨e, sz, v', l, zeroN l sz vs⟩) Ok1
  | copy (i : Nat) (r : HRow) (tt t2 m lo hi : Nat) (x y : Operand) (news : List AC) (hi' : R i = some r) (hsz : 0 < r.sz) (ho : o.op = .call ⟨.builtin .copy, #[x, y], #[tt, t2]⟩) (ht : sliOf P tt = some r.sz) (hx : (look x = some (vC r.v) ∧ lo = 0 ∧ hi = r.n) ∨ look x = some (vC (rowSl r.v r.sz lo hi)) ∨ ∃ u, look x = some (vC u) ∧ RowSub r.v r.sz lo hi u) (hy : CpSrc R look y r.sz m news) (h1 : lo ≤ hi) (h2 : hi ≤ r.n) (hc : ∀ y ∈ news, y.closedB = true) :
      HWr P R look o (fun _ => upd R i ⟨r.e, r.sz, r.v, r.n, splice r.ys (lo * r.sz) (news.take (Nat.min m (hi - lo) * r.sz))⟩) (fun v' => v' = .int .i64 ((Nat.min m (hi - lo) : Nat) : Int))
theorem lookP_congr {look look' : Operand → Option AV} : ∀ (parts : List (Nat × Operand)), (∀ p ∈ parts, look' p.2 = look p.2) → lookP look' parts = lookP look parts
  | [], _ => rfl
  | (i, x) :: parts, h => by
    simp only [lookP]
    rw [h (i, x) (by simp), lookP_congr parts fun p hp => h p (by simp [hp])]
theorem HWr.congr {look look' : Operand → Option AV} {f : Value → Rws} {okv : Value → Prop} (h : HWr P R look o f okv) (e : ∀ x ∈ o.op.operands, look' x = look x) : HWr P R look' o f okv := by
  cases h with
  | app i r tt bytes m sx xx news hi ho ht hx hy h1 h2 hc =>
    exact .app i r tt bytes m sx xx news hi ho ht (by rw [e sx (by simp [ho, Op.operands, Call.operands])]; exact hx) (by rw [e xx (by simp [ho, Op.operands, Call.operands])]; exact hy) h1 h2 hc
  | new i t n el sz bytes parts vs zs r hi ho ht hZ hz hb h1 hs h2 h3 hr hcl =>
    refine .new i t n el sz bytes parts vs zs r hi ho ht hZ ?_ hb h1 hs h2 h3 hr hcl
    rw [lookP_congr parts fun p hp => e p.2 ?_]
    · exact hz
    · simp only [ho, Op.operands, List.mem_toArray, List.mem_map]
      exact ⟨p, hp, rfl⟩
  | make i t l c el sz bytes x y kl kc vs hi ho ht hZ hx hy hl h1 hs h2 h3 =>
    exact .make i t l c el sz bytes x y kl kc vs hi ho ht hZ (by rw [e x (by simp [ho, Op.operands])]; exact hx) (by rw [e y (by simp [ho, Op.operands])]; exact hy) hl h1 hs h2 h3
  | copy i r tt t2 m lo hi x y news hi' hsz ho ht hx hy h1 h2 hc =>
    exact .copy i r tt t2 m lo hi x y news hi' hsz ho ht (by rw [e x (by simp [ho, Op.operands, Call.operands])]; exact hx) (by unfold CpSrc; rw [e y (by simp [ho, Op.operands, Call.operands])]; exact hy) h1 h2 hc
theorem RpL.append {U : Nat → Prop} {xs ys : List AC} {vs us : List Value} (h : RpL U ρ w xs vs) (k : RpL U ρ w ys us) : RpL U ρ w (xs ++ ys) (vs ++ us) := by
  refine ⟨by rw [List.length_append, List.length_append, h.1, k.1], fun i x v hx hv => ?_⟩
  rcases Nat.lt_or_ge i xs.length with hl | hl
  · rw [List.getElem?_append_left hl] at hx
    rw [List.getElem?_append_left (by rw [← h.1]; exact hl)] at hv
    exact h.2 i x v hx hv
  · rw [List.getElem?_append_right hl] at hx
    rw [List.getElem?_append_right (by rw [← h.1]; exact hl), ← h.1] at hv
    exact k.2 _ x v hx hv
/-- the world grows by a row: all else is as it was. -/
theorem RR.grown0 {i : Nat} {r : HRow} {w2 : World} {xs : List Value} (h : RR B0 A0 R s a w A ρ) (old : Option Nat) (hold : ∀ g, old = some g → ∃ q, R i = some q ∧ q.own g) (hsz : 0 < r.sz) (hgr : w.grownBy w2 old)
    (hr : w2.ownsRow 0 r.e r.sz r.v r.n xs) (hblk : ∀ g, r.v.ownBlock = some g → old = some g ∨ w.heap.size ≤ g) (hl : RpL (s.free A ρ) ρ w r.ys xs) (hc : ∀ y ∈ r.ys, y.closedB = true) :
    ∃ A', RR B0 A0 (upd R i r) s a w2 A' ρ := by
  have hnew : ∀ b, s.free A ρ b → b < w.heap.size → w2.heap[b]? = w.heap[b]? := fun b hb hl' => hgr.block b hl' fun e => by
    obtain ⟨q, hq, hg⟩ := hold b e.symm
    exact ((h.rows i q hq).own b hg).1 hb.1
  have hmem : ∀ k cs, s.mem k = some cs → w2.heap[ρ k]? = w.heap[ρ k]? := fun k cs hk => hgr.block _ (h.rel.lt hk) fun e => by
    obtain ⟨q, hq, hg⟩ := hold _ e.symm
    exact ((h.rows i q hq).own _ hg).2 k cs hk rfl
  have hA2 : Rel (hbase B0 s ρ w2) (fun b => (A b ∧ b < w.heap.size) ∨ (w2.heap.size ≤ b)) s ρ a w2 :=
    h.rel.anew (fun b hb' hl' => ⟨.inl ⟨hb', hl'⟩, hgr.block b hl' fun e => by
      obtain ⟨q, hq, hg⟩ := hold b e.symm
      exact ((h.rows i q hq).own b hg).1 hb'⟩) (fun k cs hk => ⟨hmem k cs hk, fun hf => hf.2 k cs hk rfl⟩) (BelowB.refl _) (fun b hb => .inr hb) (hbase_anch _ _ _)
  have hfree : ∀ b, s.free A ρ b → b < w.heap.size → s.free (fun b => (A b ∧ b < w.heap.size) ∨ w2.heap.size ≤ b) ρ b ∧ w2.heap[b]? = w.heap[b]? := fun b hb hl' => ⟨⟨.inl ⟨hb.1, hl'⟩, hb.2⟩, hnew b hb hl'⟩
  have main : RR B0 A0 (upd R i r) s a w2 (fun b => (A b ∧ b < w.heap.size) ∨ w2.heap.size ≤ b) ρ := by
    refine ⟨h.up, ?_, hA2, h.mine, ⟨hgr.os.trans h.below.os, hgr.tape.trans h.below.tape, hgr.output.trans h.below.output, Nat.le_trans h.below.size hgr.size, fun b hf => ?_⟩, fun j q hj => ?_, fun j k q q' hj hk hjk g hg => ?_, fun j q g hj hg => ?_, h.anch⟩
    · rintro b (hb | hb)
      · exact h.sub b hb.1
      · exact h.up b (by have := h.below.size; have := hgr.size; omega)
    · refine (hgr.block b (Nat.lt_of_lt_of_le (B0.lt b hf) h.below.size) fun e => ?_).trans (h.below.block b hf)
      obtain ⟨q, hq, hg⟩ := hold b e.symm
      exact (h.hot i q b hq hg).1 hf
    · by_cases e : j = i
      · subst e
        rw [upd_same] at hj
        cases hj
        refine ⟨.inl ⟨hsz, xs, hr, hl.closed_map hc hfree⟩, hc, fun g hg => ?_⟩
        replace hg := HRow.own_row hg hsz
        refine ⟨?_, fun k cs hk => ?_⟩
        · rintro (hb | hb)
          · rcases hblk g hg with q | q
            · obtain ⟨p, hp, hpg⟩ := hold g q
              exact ((h.rows j p hp).own g hpg).1 hb.1
            · omega
          · have := (hr.lt g hg).2; omega
        · rcases hblk g hg with q | q
          · obtain ⟨p, hp, hpg⟩ := hold g q
            exact ((h.rows j p hp).own g hpg).2 k cs hk
          · have := h.rel.lt hk; omega
      · rw [upd_ne _ _ e] at hj
        obtain ⟨hk0, huc, hug⟩ := h.rows j q hj
        refine ⟨hk0.kept huc (fun g hg => hgr.block g (hk0.lt hg) fun e' => ?_) hgr.size hfree, huc, fun g hg => ⟨?_, (hug g hg).2⟩⟩
        · obtain ⟨p, hp, hpg⟩ := hold g e'.symm
          exact h.apart j i q p hj hp e g hg hpg
        · rintro (hb | hb)
          · exact (hug g hg).1 hb.1
          · have := hk0.lt hg; have := hgr.size; omega
    · have old_lt : ∀ j q, R j = some q → ∀ g, q.own g → g < w.heap.size := fun j q hj g hg => (h.rows j q hj).ok.lt hg
      by_cases e : j = i
      · subst e
        rw [upd_same] at hj
        cases hj
        rw [upd_ne _ _ (Ne.symm hjk)] at hk
        intro hg'
        rcases hblk g (HRow.own_row hg hsz) with p | p
        · obtain ⟨p', hp, hpg⟩ := hold g p
          exact h.apart j k p' q' hp hk hjk g hpg hg'
        · have := old_lt k q' hk g hg'; omega
      · rw [upd_ne _ _ e] at hj
        by_cases e2 : k = i
        · subst e2
          rw [upd_same] at hk
          cases hk
          intro hg'
          rcases hblk g (HRow.own_row hg' hsz) with p | p
          · obtain ⟨p', hp, hpg⟩ := hold g p
            exact h.apart j k q p' hj hp hjk g hg hpg
          · have := old_lt j q hj g hg; omega
        · rw [upd_ne _ _ e2] at hk
          exact h.apart j k q q' hj hk hjk g hg
    · by_cases e : j = i
      · subst e
        rw [upd_same] at hj
        cases hj
        rcases hblk g (HRow.own_row hg hsz) with p | p
        · obtain ⟨p', hp, hpg⟩ := hold g p
          exact h.hot j p' g hp hpg
        · exact ⟨fun hf => by have := B0.lt g hf; have := h.below.size; omega, h.up g (by have := h.below.size; omega)⟩
      · rw [upd_ne _ _ e] at hj
        exact h.hot j q g hj hg
  exact ⟨_, main⟩
theorem RR.grown {i : Nat} {r : HRow} {w2 : World} {xs : List Value} (h : RR B0 A0 R s a w A ρ) (old : Option Nat) (hold : ∀ g, old = some g → ∃ q, R i = some q ∧ q.own g) (hsz : 0 < r.sz) (hgr : w.grownBy w2 old) (hone : r.v.oneCell' = true)
    (hr : w2.ownsRow 0 r.e r.sz r.v r.n xs) (hblk : ∀ g, r.v.ownBlock = some g → old = some g ∨ w.heap.size ≤ g) (hl : RpL (s.free A ρ) ρ w r.ys xs) (hc : ∀ y ∈ r.ys, y.closedB = true) {d : Nat} (hd : d < s.n) :
    ∃ A', RR B0 A0 (upd R i r) (s.put (some d) (vC r.v)) (a.put (some d) r.v) w2 A' ρ := by
  obtain ⟨A', main⟩ := h.grown0 old hold hsz hgr hr hblk hl hc
  exact ⟨A', main.put (d := some d) (fun d' e => by cases e; exact hd) ⟨rfl, hone⟩⟩
theorem SlP.cells_rp {U : Nat → Prop} {z n : Nat} {xs : List AC} {v : Value} (h : RpV U ρ w (vS z n xs) v) (hn : 0 < n) : ∃ b c vs, v = .slice (some b) n c ∧ n ≤ c ∧ xs.length = n * z ∧ (∀ (j : Nat) u, vs[j]? = some u → w.cell? (b.add j) = some u) ∧ RpL U ρ w xs vs := by
  obtain ⟨⟨Ad, c, e, hc, hl, hA⟩, hU⟩ := h
  obtain ⟨b, vs, rfl, hcs⟩ := hA hn
  exact ⟨b, c, vs, e, hc, hl, hcs.at_, hcs.rpl fun b' hb' => hU b' ⟨c, b, e, hn, hb'⟩⟩
theorem CpSrc.spec {y : Operand} {z m : Nat} {news : List AC} (h : CpSrc R s.look y z m news) (hz : 0 < z) (hR : RR B0 A0 R s a w A ρ) : (∃ Ax cx, a.eval y = .slice Ax m cx) ∧ news.length = m * z ∧
    (0 < m → ∃ b c vs, a.eval y = .slice (some b) m c ∧ (∀ (j : Nat) u, vs[j]? = some u → w.cell? (b.add j) = some u) ∧ RpL (s.free A ρ) ρ w news vs) := by
  rcases h with hy | ⟨j, q, lo, u, hj, rfl, hy, ⟨⟨Ad, c, eu⟩, hu⟩, hn, rfl⟩
  · have hyv := hR.rel.look hy
    obtain ⟨⟨Ax, cx, ex, hcx, hlx, hAx⟩, hUx⟩ := id hyv
    refine ⟨⟨Ax, cx, ex⟩, hlx, fun hm => ?_⟩
    obtain ⟨b, c, vs, ev, _, _, hat, hrp⟩ := SlP.cells_rp hyv hm
    exact ⟨b, c, vs, ev, hat, hrp⟩
  · have ev : a.eval y = u := (hR.rel.look hy).1
    obtain ⟨xs, ho, hl⟩ := (hR.rows j q hj).cells hz
    have hql : q.ys.length = q.n * q.sz := by rw [hl.1]; exact ho.1
    have hfit : lo * q.sz + m * q.sz ≤ q.n * q.sz := by rw [← Nat.add_mul]; exact Nat.mul_le_mul_right _ hn
    refine ⟨⟨Ad, c, by rw [ev, eu, Nat.add_sub_cancel_left]⟩, by rw [List.length_take, List.length_drop]; omega, fun hm => ?_⟩
    obtain ⟨g, n', c', e1, h3, e2⟩ := hu (by omega)
    refine ⟨⟨g, lo * q.sz, none⟩, _, (xs.drop (lo * q.sz)).take (m * q.sz), by rw [ev, e2, Nat.add_sub_cancel_left], fun i x hx => ?_, hl.sub _ _⟩
    have hi : i < m * q.sz := by
      have := (List.getElem?_eq_some_iff.1 hx).1
      rw [List.length_take] at this
      omega
    rw [List.getElem?_take_of_lt hi, List.getElem?_drop] at hx
    have := ho.cells (g := g) (by rw [e1]; rfl) _ x hx
    rw [addr0] at this ⊢
    simpa using this
theorem HWr.out {f : Value → Rws} {okv : Value → Prop} (h : HWr P R s.look o f okv) : ∃ v', okv v' := by
  cases h with
  | copy => exact ⟨_, rfl⟩
  | _ => exact ⟨.bool false, rfl⟩
theorem HWr.sound {f : Value → Rws} {okv : Value → Prop} {d : Nat} (h : HWr P R s.look o f okv) (hR : RR B0 A0 R s a w A ρ) (hd : d < s.n) : ∃ v' w2 A', (execOp a.eval o).run P w = .ok (.value v') w2 ∧ okv v' ∧ RR B0 A0 (f v') (s.put (some d) (vC v')) (a.put (some d) v') w2 A' ρ := by
  cases h with
  | app i r tt bytes m sx xx news hi ho ht hx hy h1 h2 hc =>
    obtain ⟨ti, z, hu, hti, hz, hsize, hby, hzs, hsz⟩ := rowTy_spec ht
    obtain ⟨hok0, hrc, hrg⟩ := hR.rows i r hi
    obtain ⟨xs, hro, hrl⟩ := hok0.row hsz
    have hv1 : a.eval sx = r.v := (hR.rel.look hx).1
    have hvo : r.v.oneCell' = true := (hR.rel.look hx).2
    have hyv := hR.rel.look hy
    rcases Nat.eq_zero_or_pos m with rfl | hmp
    · obtain ⟨⟨Ax, cx, ex, hcx, hlx, hAx⟩, hUx⟩ := hyv
      have hnews : news = [] := by simpa using hlx
      subst hnews
      refine ⟨r.v, w, A, ?_, hvo, ?_⟩
      · rw [show (execOp a.eval o) = (do pure (.value (← Builtin.append_ #[tt, tt] o.type #[a.eval sx, a.eval xx])) : Sem Next) by
          simp only [execOp, ho, resolve, invoke, builtin, List.map_toArray, List.map_cons, List.map_nil]
          rfl]
        simp only [Sem.run_bind]
        rw [hv1, ex]
        obtain ⟨Ad, cap, hv, hnc⟩ : ∃ Ad cap, r.v = .slice Ad r.n cap ∧ r.n ≤ cap := by
          rcases hro.2 with ⟨e, e0⟩ | ⟨g, cap, cur, hv, hbg, hgg, hnc, _⟩
          · exact ⟨none, 0, by rw [e, e0], by omega⟩
          · exact ⟨_, cap, hv, hnc⟩
        rw [hv]
        cases Ad with
        | none =>
          cases Ax with
          | none => simp [Builtin.append_, run_underlying hu, sizeOf, typeInfo, hti, Builtin.lenOf, Builtin.firstCells, hnc, storeCells]
          | some ax => simp [Builtin.append_, run_underlying hu, sizeOf, typeInfo, hti, Builtin.lenOf, Builtin.firstCells, hnc, storeCells, loadCells, loadCellsFrom]
        | some ad =>
          cases Ax with
          | none => simp [Builtin.append_, run_underlying hu, sizeOf, typeInfo, hti, Builtin.lenOf, Builtin.firstCells, hnc, storeCells]
          | some ax => simp [Builtin.append_, run_underlying hu, sizeOf, typeInfo, hti, Builtin.lenOf, Builtin.firstCells, hnc, storeCells, loadCells, loadCellsFrom]
      · have e : upd R i ⟨r.e, r.sz, r.v, r.n + 0, r.ys ++ []⟩ = R := by
          funext j
          by_cases e : j = i
          · subst e; rw [upd_same, hi]; simp
          · rw [upd_ne _ _ e]
        show RR B0 A0 (upd R i ⟨r.e, r.sz, r.v, r.n + 0, r.ys ++ []⟩) _ _ _ _ _
        rw [e]
        exact hR.put (d := some d) (fun d' e => by cases e; exact hd) ⟨rfl, hvo⟩
    · obtain ⟨b, c, vs, ev, hcx, hlx, hat, hrp⟩ := SlP.cells_rp hyv hmp
      have hone : ∀ u ∈ vs, u.oneCell' = true := fun u hu' => by
        obtain ⟨j, hj⟩ := List.getElem?_of_mem hu'
        have hlt : j < news.length := by rw [hrp.1]; exact (List.getElem?_eq_some_iff.1 hj).1
        exact (hrp.2 j _ u (List.getElem?_eq_getElem hlt) hj).cell
      obtain ⟨v', w2, hrun, ho2, hgr, hblk, hone'⟩ := run_append_own2 (P := P) w 0 tt o.type r.e ti z r.sz bytes hu hti hz hsize hby hzs hsz r.v r.n xs hro b m c vs (by rw [← hrp.1]; exact hlx) hat hone h1 h2 (Nat.zero_le _) hmp
      obtain ⟨A', hR'⟩ := hR.grown (i := i) (r := ⟨r.e, r.sz, v', r.n + m, r.ys ++ news⟩) r.v.ownBlock (fun g hg => ⟨r, hi, .inl hg⟩) hsz hgr hone' ho2 hblk (hrl.append hrp) (fun y hy => by
        rcases List.mem_append.1 hy with h | h
        · exact hrc y h
        · exact hc y h) hd
      refine ⟨v', w2, A', ?_, hone', hR'⟩
      have hrun' : (Builtin.append_ #[tt, tt] o.type #[a.eval sx, a.eval xx]).run P w = .ok v' w2 := by rw [hv1, ev]; exact hrun
      simp only [execOp, ho, resolve, invoke, builtin, Sem.run_bind, Sem.run_pure, Result.andThen_ok, List.map_toArray, List.map_cons, List.map_nil, hrun']
  | new i t n e sz bytes parts vs zs r hi ho ht hZ hz hb h1 hs h2 h3 hr hcl =>
    obtain ⟨ti, z, hu, hti, hzz, hsize, hby, hzs, hsz⟩ := rowTy_spec ht
    unfold sliZ at hZ
    rw [hu] at hZ
    simp only at hZ
    unfold zeroOf at hZ
    rw [hti] at hZ
    simp only [Option.bind_some] at hZ
    rw [hzz] at hZ
    cases hZ
    have hlen : z.cells.toList.length = sz := hs
    have hzv : (zeroValue e).run P w = .ok z w := by simp [zeroValue, typeInfo, program, Sem.run_bind, Sem.run, hti, Result.andThen, hzz]
    have hrl : RpL (s.free A ρ) ρ w (zeroN n sz z.cells.toList) ((List.range (n * sz)).map fun j => z.cells[j % z.cells.size]!) := by
      refine ⟨by simp [zeroN], fun j x v hx hv => ?_⟩
      have hj : j < n * sz := by have := (List.getElem?_eq_some_iff.1 hv).1; simpa using this
      simp only [zeroN, List.getElem?_map, List.getElem?_range hj, Option.map_some, Option.some.injEq] at hx hv
      subst hx; subst hv
      have hlt : j % z.cells.size < z.cells.size := Nat.mod_lt _ (by omega)
      have e2 : z.cells.toList.toArray[j % z.cells.toList.length]! = z.cells[j % z.cells.size]! := by simp
      refine ⟨e2.symm, ?_⟩
      rw [e2, getElem!_pos z.cells _ hlt]
      exact List.all_eq_true.1 h1 _ (by simp)
    obtain ⟨us, g1, g2⟩ := fill_sound (U := s.free A ρ) (ρ := ρ) (W := w) (ps := plcN n sz) (place := fun i => some (i * sz, sz)) (fun i q hq => by
        simp only [plcN, List.getElem?_map] at hq
        cases hr : (List.range n)[i]? with
        | none => rw [hr] at hq; cases hq
        | some m =>
          rw [hr] at hq
          cases hq
          have := List.getElem?_eq_some_iff.1 hr
          obtain ⟨h3, h4⟩ := this
          simp at h4
          rw [h4]) (look := s.look) (env := a.eval) parts _ _ zs r hrl hz (fun p hp av ha => hR.rel.look ha) hb
    have hul : us.length = n * sz := by rw [← g2.1]; exact hr
    have hrun : (execOp a.eval o).run P w = .ok (.value (.slice (some ⟨w.heap.size, 0, none⟩) n n)) (w.alloc (.cells us.toArray e)) := by
      have hparts : (parts.toArray.map fun (i, x) => (i, a.eval x)).toList = parts.map fun p => (p.1, a.eval p.2) := by simp
      have e3 : (Array.range (n * sz)).map (fun j => z.cells[j % z.cells.size]!) = ((List.range (n * sz)).map fun j => z.cells[j % z.cells.size]!).toArray := by simp [← List.toArray_range]
      simp only [execOp, ho, Instr.buildSlice, Sem.run_bind, run_underlying hu, Result.andThen_ok, run_sizeOf' hti, hsize]
      rw [if_neg (by omega)]
      by_cases h0 : n * sz = 0
      · rw [if_pos h0]
        have e4 : (Array.range (n * sz)).map (fun j => (#[] : Array Value)[j % (#[] : Array Value).size]!) = ((List.range (n * sz)).map fun j => z.cells[j % z.cells.size]!).toArray := by rw [h0]; simp
        simp only [Sem.run_bind, Sem.run_pure, Result.andThen_ok, e4, hparts, g1, newRow, newObj, Sem.run]
        rfl
      · rw [if_neg h0]
        simp only [Sem.run_bind, Sem.run_pure, hzv, Result.andThen_ok, e3, hparts, g1, newRow, newObj, Sem.run]
        rfl
    have hnewb : (w.alloc (.cells us.toArray e)).heap[w.heap.size]? = some (.cells us.toArray e (0, 0)) := by show (w.heap.push _)[w.heap.size]? = _; simp
    obtain ⟨A', hR'⟩ := hR.grown (i := i) (r := ⟨e, sz, .slice (some ⟨w.heap.size, 0, none⟩) n n, n, r⟩) (xs := us) none (fun g hg => by cases hg) hsz (World.grownBy_alloc w _ none) rfl ⟨hul, .inr ⟨w.heap.size, n, us.toArray, rfl, Nat.zero_le _, hnewb, Nat.le_refl _, h3, by simpa using hul, by simp [← hul]⟩⟩ (fun g hg => by simp [Value.ownBlock] at hg; exact .inr (by omega)) g2 hcl hd
    exact ⟨_, _, A', hrun, rfl, hR'⟩
  | make i t l c e sz bytes x y kl kc vs hi ho ht hZ hx hy hlc h1 hs h2 h3 =>
    obtain ⟨ti, z, hu, hti, hzz, hsize, hby, hzs, hsz⟩ := rowTy_spec ht
    unfold sliZ at hZ
    rw [hu] at hZ
    simp only at hZ
    unfold zeroOf at hZ
    rw [hti] at hZ
    simp only [Option.bind_some] at hZ
    rw [hzz] at hZ
    cases hZ
    have hlen : z.cells.toList.length = sz := hs
    have hlen' : z.cells.size = sz := by simpa using hlen
    have hvx : a.eval x = .int kl l := (hR.rel.look hx).1
    have hvy : a.eval y = .int kc c := (hR.rel.look hy).1
    have h3' : (c : Int) ≤ 9223372036854775807 := by have h := h3; simp only [maxLen] at h; omega
    have hb' : (ti.bytes : Int) * (c : Int) ≤ 281474976710656 := by
      have h : ((ti.bytes * c : Nat) : Int) ≤ 281474976710656 := by rw [hby]; omega
      rwa [Int.natCast_mul] at h
    have hr := run_make (P := P) w t e ti z hu hti hzz kl kc l c (by omega) (by omega) hb' h3'
    simp only [Int.toNat_natCast, hsize] at hr
    have hrun : (execOp a.eval o).run P w = .ok (.value (.slice (some ⟨w.heap.size, 0, none⟩) l c)) (w.alloc (.cells (madeCells z.cells (c * sz)) e)) := by
      simp only [execOp, ho, hvx, hvy, Sem.run_bind, hr, Result.andThen_ok, Sem.run_pure]
    have hnewb : (w.alloc (.cells (madeCells z.cells (c * sz)) e)).heap[w.heap.size]? = some (.cells (madeCells z.cells (c * sz)) e (0, 0)) := by show (w.heap.push _)[w.heap.size]? = _; simp
    have hmul : l * sz ≤ c * sz := Nat.mul_le_mul_right _ hlc
    have hszc : (madeCells z.cells (c * sz)).size = c * sz := size_madeCells _ _
    have htl : ((madeCells z.cells (c * sz)).toList.take (l * sz)).length = l * sz := by
      rw [List.length_take, Array.length_toList, hszc]; exact Nat.min_eq_left hmul
    have hrl : RpL (s.free A ρ) ρ w (zeroN l sz z.cells.toList) ((madeCells z.cells (c * sz)).toList.take (l * sz)) := by
      refine ⟨by rw [htl]; simp [zeroN], fun j x v hx hv => ?_⟩
      have hj : j < l * sz := by have := (List.getElem?_eq_some_iff.1 hv).1; rw [htl] at this; exact this
      rw [List.getElem?_take_of_lt hj] at hv
      simp only [zeroN, List.getElem?_map, List.getElem?_range hj, Option.map_some, Option.some.injEq] at hx
      subst hx
      have hlt : j % z.cells.size < z.cells.size := Nat.mod_lt _ (by omega)
      have e2 : z.cells.toList.toArray[j % z.cells.toList.length]! = z.cells[j % z.cells.size]! := by simp
      have hv2 : v = z.cells[j % z.cells.size]! := by
        have : (madeCells z.cells (c * sz)).toList[j]? = some z.cells[j % z.cells.size]! := by
          simp only [madeCells, Array.toList_map, List.getElem?_map]
          rw [show (Array.range (c * sz)).toList[j]? = some j by rw [Array.toList_range, List.getElem?_range (Nat.lt_of_lt_of_le hj hmul)]]
          rfl
        rw [this] at hv
        exact (Option.some.inj hv).symm
      refine ⟨by rw [e2]; exact hv2, ?_⟩
      rw [e2, getElem!_pos z.cells _ hlt]
      exact List.all_eq_true.1 h1 _ (by simp)
    obtain ⟨A', hR'⟩ := hR.grown (i := i) (r := ⟨e, sz, .slice (some ⟨w.heap.size, 0, none⟩) l c, l, zeroN l sz z.cells.toList⟩) none (fun g hg => by cases hg) hsz (World.grownBy_alloc w _ none) rfl ⟨htl, .inr ⟨w.heap.size, c, _, rfl, Nat.zero_le _, hnewb, hlc, h3, hszc, rfl⟩⟩ (fun g hg => by simp [Value.ownBlock] at hg; exact .inr (by omega)) hrl (fun y hy => by simp only [zeroN, List.mem_map] at hy; obtain ⟨j, _, rfl⟩ := hy; rfl) hd
    exact ⟨_, _, A', hrun, rfl, hR'⟩
  | copy i r tt t2 m lo hi x y news hi' hsz ho ht hx hy h1 h2 hc =>
    obtain ⟨el, ti, hu, hti, hs⟩ := sliOf_spec ht
    have hs' : (P.info? el).map (·.size) = some r.sz := by rw [hti]; simp [hs]
    obtain ⟨hok0, hrc, hrg⟩ := hR.rows i r hi'
    obtain ⟨xs, hro, hrl⟩ := hok0.row hsz
    have hex : ∀ D S v2 w2, a.eval x = D → a.eval y = S → (Builtin.copy_ #[tt, t2] o.type #[D, S]).run P w = .ok v2 w2 → (execOp a.eval o).run P w = .ok (.value v2) w2 := fun D S v2 w2 e1 e2 e3 => by
      subst e1 e2
      simp only [execOp, ho, resolve, invoke, builtin, Sem.run_bind, Sem.run_pure, Result.andThen_ok, List.map_toArray, List.map_cons, List.map_nil, e3]
    obtain ⟨⟨Ax, cx, ex⟩, hlx', hsp⟩ := hy.spec hsz hR
    have hxl : r.ys.length = r.n * r.sz := by rw [hrl.1]; exact hro.1
    rcases Nat.eq_zero_or_pos (Nat.min m (hi - lo)) with hk | hk
    · obtain ⟨Ad, dl, dc, hD, hdl⟩ : ∃ Ad dl dc, a.eval x = .slice Ad dl dc ∧ dl = hi - lo := by
        obtain ⟨Ad, c, e, _, _⟩ := (hR.rows i r hi').slice2 hsz
        rcases hx with ⟨hx, rfl, rfl⟩ | hx | ⟨u, hx, ⟨⟨Au, cu, eu⟩, _⟩⟩
        · exact ⟨Ad, r.n, c, by rw [(hR.rel.look hx).1, e], by omega⟩
        · have hq : a.eval x = rowSl r.v r.sz lo hi := (hR.rel.look hx).1
          rw [e] at hq
          unfold rowSl sliced at hq
          exact ⟨_, _, _, hq, rfl⟩
        · exact ⟨Au, _, cu, by rw [(hR.rel.look hx).1, eu], rfl⟩
      subst hdl
      refine ⟨goInt 0, w, A, hex _ _ _ _ hD ex (run_copy_0z w tt t2 o.type el _ _ _ _ _ _ r.sz hu hs' hk), by rw [hk]; rfl, ?_⟩
      have e : upd R i ⟨r.e, r.sz, r.v, r.n, splice r.ys (lo * r.sz) (news.take (Nat.min m (hi - lo) * r.sz))⟩ = R := by
        rw [hk]
        funext j
        by_cases e : j = i
        · subst e; rw [upd_same, hi']; simp [splice]
        · rw [upd_ne _ _ e]
      rw [e]
      exact hR.put (d := some d) (fun d' e => by cases e; exact hd) ⟨rfl, rfl⟩
    · have hkm : Nat.min m (hi - lo) ≤ m := Nat.min_le_left _ _
      have hkh : Nat.min m (hi - lo) ≤ hi - lo := Nat.min_le_right _ _
      obtain ⟨b, c, vs, ev, hat, hrp⟩ := hsp (by omega)
      obtain ⟨g, cap, cur, hv, hbg, hgg, hnc, hcm, hcs, htake⟩ : ∃ g cap cur, r.v = .slice (some ⟨g, 0, none⟩) r.n cap ∧ 0 ≤ g ∧ w.heap[g]? = some (.cells cur r.e (0, 0)) ∧ r.n ≤ cap ∧ cap ≤ maxLen ∧ cur.size = cap * r.sz ∧ cur.toList.take (r.n * r.sz) = xs := by
        rcases hro.2 with ⟨_, h0⟩ | h
        · omega
        · exact h
      obtain ⟨dc, hD⟩ : ∃ dc, a.eval x = .slice (some ⟨g, lo * r.sz, none⟩) (hi - lo) dc := by
        rcases hx with ⟨hx, rfl, rfl⟩ | hx | ⟨u, hx, ⟨_, hu⟩⟩
        · exact ⟨cap, by rw [(hR.rel.look hx).1, hv]; simp⟩
        · refine ⟨cap - lo, ?_⟩
          rw [(hR.rel.look hx).1, hv, rowSl_at (by omega) (by omega)]
          have hadd : (⟨g, 0, none⟩ : Addr).add (lo * r.sz) = ⟨g, lo * r.sz, none⟩ := by unfold Addr.add; split <;> simp_all
          rw [hadd]
        · obtain ⟨g', n', c', e1, _, e2⟩ := hu (by omega)
          rw [hv] at e1
          cases e1
          exact ⟨_, by rw [(hR.rel.look hx).1, e2]⟩
      generalize hkk : Nat.min m (hi - lo) = k at *
      have hkz : k * r.sz ≤ m * r.sz := Nat.mul_le_mul_right _ hkm
      have hvl : (vs.take (k * r.sz)).length = k * r.sz := by rw [List.length_take, ← hrp.1, hlx']; omega
      have hnl : (news.take (k * r.sz)).length = k * r.sz := by rw [List.length_take, hlx']; omega
      have hfit0 : lo * r.sz + k * r.sz ≤ r.n * r.sz := by rw [← Nat.add_mul]; exact Nat.mul_le_mul_right _ (by omega)
      have hmul : r.n * r.sz ≤ cap * r.sz := Nat.mul_le_mul_right _ hnc
      have hrpk : RpL (s.free A ρ) ρ w (news.take (k * r.sz)) (vs.take (k * r.sz)) := by
        have := hrp.sub 0 (k * r.sz)
        simpa using this
      have hone : ∀ u ∈ vs.take (k * r.sz), u.oneCell' = true := fun u hu' => by
        obtain ⟨j, hj⟩ := List.getElem?_of_mem hu'
        have hlt : j < (news.take (k * r.sz)).length := by rw [hnl, ← hvl]; exact (List.getElem?_eq_some_iff.1 hj).1
        exact (hrpk.2 j _ u (List.getElem?_eq_getElem hlt) hj).cell
      have hrun := run_copy_rz (P := P) w tt t2 o.type el g (lo * r.sz) (hi - lo) dc r.sz b m c cur r.e (vs.take (k * r.sz)) hu hs' hgg (by rw [hvl, hkk]) (fun j v hj => hat j v (by
        have hl : j < k * r.sz := by rw [← hvl]; exact (List.getElem?_eq_some_iff.1 hj).1
        rwa [List.getElem?_take_of_lt hl] at hj)) (by rw [hvl]; omega) hone
      rw [hkk] at hrun
      have hoth : ∀ (u : Array Value), w.grownBy (w.setRow g u) (some g) := fun u => ⟨rfl, rfl, rfl, by simp [World.setRow], fun k _ hk => by
        simp only [World.setRow, Array.getElem?_modify]
        rw [if_neg (fun e => hk (by rw [e]))]⟩
      have hrow := setRow_heap w g cur (cur.toList.take (lo * r.sz) ++ vs.take (k * r.sz) ++ cur.toList.drop (lo * r.sz + (vs.take (k * r.sz)).length)).toArray r.e (0, 0) hgg
      have hcl : cur.toList.length = cap * r.sz := by rw [Array.length_toList]; exact hcs
      have hlen : (cur.toList.take (lo * r.sz) ++ vs.take (k * r.sz) ++ cur.toList.drop (lo * r.sz + (vs.take (k * r.sz)).length)).length = cap * r.sz := by
        rw [List.length_append, List.length_append, hvl, List.length_take, List.length_drop, hcl]; omega
      have htk := take_splice (cur := cur.toList) (us := vs.take (k * r.sz)) (off := lo * r.sz) (N := r.n * r.sz) (by rw [hvl]; exact hfit0) (by rw [hcl]; exact hmul)
      rw [htake] at htk
      obtain ⟨A', hR'⟩ := hR.grown0 (i := i) (r := ⟨r.e, r.sz, r.v, r.n, splice r.ys (lo * r.sz) (news.take (k * r.sz))⟩) (w2 := w.setRow g (cur.toList.take (lo * r.sz) ++ vs.take (k * r.sz) ++ cur.toList.drop (lo * r.sz + (vs.take (k * r.sz)).length)).toArray) (xs := xs.take (lo * r.sz) ++ vs.take (k * r.sz) ++ xs.drop (lo * r.sz + (vs.take (k * r.sz)).length)) (some g) (fun g' hg' => by cases hg'; exact ⟨r, hi', .inl (by rw [hv]; rfl)⟩) hsz (hoth _)
        ⟨by rw [← htk, List.length_take, hlen]; exact Nat.min_eq_left hmul, .inr ⟨g, cap, _, hv, hbg, hrow, hnc, hcm, by simpa using hlen, by simpa using htk⟩⟩ (fun g' hg' => by rw [hv] at hg'; simp [Value.ownBlock] at hg'; exact .inl (by rw [hg'])) (hrl.splice hrpk (lo * r.sz) (by rw [hnl, hxl]; exact hfit0)) (fun q hq => by
          unfold splice at hq
          simp only [List.mem_append] at hq
          rcases hq with (h1 | h1) | h1
          · exact hrc q (List.mem_of_mem_take h1)
          · exact hc q (List.mem_of_mem_take h1)
          · exact hrc q (List.mem_of_mem_drop h1))
      exact ⟨goInt (k : Int), _, A', hex _ _ _ _ hD ev hrun, rfl, hR'.put (d := some d) (fun d' e => by cases e; exact hd) ⟨rfl, rfl⟩⟩
/-- a cell of a row is written. -/
inductive HSt (P : Program) (R : Rws) (look : Operand → Option AV) (o : Oper) : Rws → Prop
  | store (i : Nat) (r : HRow) (off ty : Nat) (x y : Operand) (z : AW) (ti : TypeInfo) (hi : R i = some r) (hn : 0 < r.n) (ho : o.op = .store ty x y) (hx : look x = some (vC (rowPtr r.v off))) (hy : look y = some (.w z)) (ht : P.info? ty = some ti) (hs : ti.size = z.cells.length) (hb : off + z.cells.length ≤ r.ys.length) (hc : ∀ q ∈ z.cells, q.closedB = true) : HSt P R look o (upd R i ⟨r.e, r.sz, r.v, r.n, splice r.ys off z.cells⟩)
theorem HSt.sound {R' : Rws} (h : HSt P R s.look o R') (hR : RR B0 A0 R s a w A ρ) : ∃ w2 A', (execOp a.eval o).run P w = .ok .skip w2 ∧ RR B0 A0 R' s a w2 A' ρ := by
  cases h with
  | store i r off ty x y z ti hi hn ho hx hy ht hs hb hc =>
    obtain ⟨hok0, hrc, hrg⟩ := hR.rows i r hi
    have hsz := hok0.pos hn
    obtain ⟨xs, hro, hrl⟩ := hok0.row hsz
    obtain ⟨g, cap, cur, hv, hbg, hgg, hnc, hcm, hcs, htake⟩ : ∃ g cap cur, r.v = .slice (some ⟨g, 0, none⟩) r.n cap ∧ 0 ≤ g ∧ w.heap[g]? = some (.cells cur r.e (0, 0)) ∧ r.n ≤ cap ∧ cap ≤ maxLen ∧ cur.size = cap * r.sz ∧ cur.toList.take (r.n * r.sz) = xs := by
      rcases hro.2 with ⟨_, h0⟩ | h
      · omega
      · exact h
    have hp : a.eval x = .pointer (some ⟨g, off, none⟩) := by
      have := (hR.rel.look hx).1
      rw [hv] at this
      have hadd : (⟨g, 0, none⟩ : Addr).add off = ⟨g, off, none⟩ := by unfold Addr.add; split <;> simp_all
      rw [this]; simp only [rowPtr, hadd]
    have hz : RpW (s.free A ρ) ρ w z (a.eval y) := hR.rel.look hy
    have hzc := hz.cells
    have hzl : (a.eval y).cells.size = z.cells.length := by have := hzc.1; simp at this; exact this.symm
    have hxl : r.ys.length = r.n * r.sz := by rw [hrl.1]; exact hro.1
    have hmul : r.n * r.sz ≤ cap * r.sz := Nat.mul_le_mul_right _ hnc
    have hst : (storeVar ty ⟨g, off, none⟩ (a.eval y)).run P w = .ok () (w.setRow g (cur.toList.take off ++ (a.eval y).cells.toList ++ cur.toList.drop (off + (a.eval y).cells.toList.length)).toArray) := by
      unfold storeVar
      have hne : ¬ ((a.eval y).cells.size ≠ ti.size) := by rw [hzl, hs]; simp
      simp only [Sem.run_bind, run_sizeOf' ht, Result.andThen_ok, if_neg hne]
      have hall : ∀ v ∈ (a.eval y).cells.toList, v.oneCell' = true := fun v hv' => by
        obtain ⟨j, hj⟩ := List.getElem?_of_mem hv'
        have hlt : j < z.cells.length := by rw [hzc.1]; exact (List.getElem?_eq_some_iff.1 hj).1
        exact (hzc.2 j _ v (List.getElem?_eq_getElem hlt) hj).cell
      have := run_storeCells_at (P := P) g off r.e (a.eval y).cells.toList 0 cur w hgg (by simp; omega) hall
      simpa using this
    have hoth : ∀ (u : Array Value), w.grownBy (w.setRow g u) (some g) := fun u => ⟨rfl, rfl, rfl, by simp [World.setRow], fun k _ hk => by
      simp only [World.setRow, Array.getElem?_modify]
      rw [if_neg (fun e => hk (by rw [e]))]⟩
    have hrow := setRow_heap w g cur (cur.toList.take off ++ (a.eval y).cells.toList ++ cur.toList.drop (off + (a.eval y).cells.toList.length)).toArray r.e (0, 0) hgg
    have hlen : (cur.toList.take off ++ (a.eval y).cells.toList ++ cur.toList.drop (off + (a.eval y).cells.toList.length)).length = cap * r.sz := by
      simp [hzl]; omega
    have htk : (cur.toList.take off ++ (a.eval y).cells.toList ++ cur.toList.drop (off + (a.eval y).cells.toList.length)).take (r.n * r.sz) = xs.take off ++ (a.eval y).cells.toList ++ xs.drop (off + (a.eval y).cells.toList.length) := by
      have hzl' : (a.eval y).cells.toList.length = z.cells.length := by simpa using hzl
      rw [← htake]
      apply List.ext_getElem?
      intro j
      by_cases hj : j < r.n * r.sz
      · rw [List.getElem?_take_of_lt hj]
        by_cases j1 : j < off
        · rw [List.append_assoc, List.getElem?_append_left (by simp; omega), List.getElem?_take_of_lt j1, List.append_assoc, List.getElem?_append_left (by simp; omega), List.getElem?_take_of_lt j1, List.getElem?_take_of_lt hj]
        · have t1 : (cur.toList.take off).length = off := by simp; omega
          have t2 : ((cur.toList.take (r.n * r.sz)).take off).length = off := by simp; omega
          by_cases j2 : j < off + z.cells.length
          · rw [List.append_assoc, List.getElem?_append_right (by omega), List.getElem?_append_left (by omega), List.append_assoc, List.getElem?_append_right (by omega), List.getElem?_append_left (by omega), t1, t2]
          · rw [List.getElem?_append_right (by simp only [List.length_append, t1]; omega), List.getElem?_append_right (by simp only [List.length_append, t2]; omega), List.getElem?_drop, List.getElem?_drop]
            simp only [List.length_append, t1, t2, hzl']
            rw [List.getElem?_take_of_lt (by omega)]
      · rw [List.getElem?_eq_none (by simp; omega), List.getElem?_eq_none]
        simp only [List.length_append, List.length_take, List.length_drop, hzl']
        have : cur.toList.length = cap * r.sz := by simpa using hcs
        omega
    obtain ⟨A', hR'⟩ := hR.grown0 (i := i) (r := ⟨r.e, r.sz, r.v, r.n, splice r.ys off z.cells⟩) (w2 := w.setRow g (cur.toList.take off ++ (a.eval y).cells.toList ++ cur.toList.drop (off + (a.eval y).cells.toList.length)).toArray) (xs := xs.take off ++ (a.eval y).cells.toList ++ xs.drop (off + (a.eval y).cells.toList.length)) (some g) (fun g' hg' => by cases hg'; exact ⟨r, hi, .inl (by rw [hv]; rfl)⟩) hsz (hoth _)
      ⟨by simp [hzl]; have := hro.1; omega, .inr ⟨g, cap, _, hv, hbg, hrow, hnc, hcm, by simpa using hlen, by simpa using htk⟩⟩ (fun g' hg' => by rw [hv] at hg'; simp [Value.ownBlock] at hg'; exact .inl (by rw [hg'])) (hrl.splice hzc off hb) (fun q hq => by
        unfold splice at hq
        simp only [List.mem_append] at hq
        rcases hq with (h1 | h1) | h1
        · exact hrc q (List.mem_of_mem_take h1)
        · exact hc q h1
        · exact hrc q (List.mem_of_mem_drop h1))
    refine ⟨_, A', ?_, hR'⟩
    simp only [execOp, ho, Instr.storeAt, hp, Instr.sureAddr, Sem.run_bind, Sem.run_pure, Result.andThen_ok, hst]
end
end Go.Proofs.Ytlfkllmnekdghaa

namespace Go.Proofs.Ytlfkllmnekdghaa
open Go.RowKit
set_option linter.unusedVariables false
set_option linter.unusedSimpArgs false
abbrev Mem := Nat → Option (List AC)
def noMem : Mem := fun _ => none
/-- the blocks that hold this memory and these rows. -/
def HotAt (ρ : Nat → Nat) (m : Mem) (R : Rws) (b : Nat) : Prop := (∃ k cs, m k = some cs ∧ ρ k = b) ∨ ∃ i r, R i = some r ∧ r.own b
structure HHeap (U : Nat → Prop) (ρ : Nat → Nat) (W : World) (m : Mem) (R : Rws) : Prop where
  mm : ∀ k cs, m k = some cs → ∃ (vs : List Value) (ty : TypeId), W.heap[ρ k]? = some (.cells vs.toArray ty (0, 0)) ∧ RpL U ρ W cs vs ∧ ¬ U (ρ k)
  mo : ∀ k cs x j, m k = some cs → x ∈ cs → x.owns j → ∃ cs', m j = some cs'
  inj : ∀ k k' cs cs', m k = some cs → m k' = some cs' → ρ k = ρ k' → k = k'
  rows : ∀ i r, R i = some r → r.ok U ρ W ∧ (∀ y ∈ r.ys, y.closedB = true) ∧ ∀ g, r.own g → ¬ U g ∧ ∀ k cs, m k = some cs → ρ k ≠ g
  apart : ∀ i j r q, R i = some r → R j = some q → i ≠ j → ∀ g, r.own g → ¬ q.own g
/-- what such a call leaves alone. -/
def hotBase (ρ : Nat → Nat) (W : World) (m : Mem) (R : Rws) : Base := ⟨W, fun b => b < W.heap.size ∧ ¬ HotAt ρ m R b, fun _ h => h.1, fun _ => none, []⟩
def ovr {α : Type} (f g : Nat → Option α) : Nat → Option α := fun j => match f j with
  | some x => some x
  | none => g j
theorem ovr_some {α : Type} {f g : Nat → Option α} {j : Nat} {x : α} (h : ovr f g j = some x) : f j = some x ∨ (f j = none ∧ g j = some x) := by
  unfold ovr at h
  cases hf : f j with
  | some y => rw [hf] at h; exact .inl h
  | none => rw [hf] at h; exact .inr ⟨rfl, h⟩
theorem ovr_l {α : Type} {f g : Nat → Option α} {j : Nat} {x : α} (h : f j = some x) : ovr f g j = some x := by unfold ovr; rw [h]
theorem ovr_r {α : Type} {f g : Nat → Option α} {j : Nat} (h : f j = none) : ovr f g j = g j := by unfold ovr; rw [h]
/-- f, called with what these values tell where m0 and R0 hold, hands back what Post tells, of what is held then; the rest of elder memory stays as it was. -/
structure HCall (P : Program) (f : FuncId) (args : List AV) (m0 : Mem) (R0 : Rws) (Post : AV → Mem → Rws → Prop) : Prop where
  call : ∀ (U : Nat → Prop) (ρ : Nat → Nat) (W : World) (vs : List Value), HHeap U ρ W m0 R0 → (∀ x ∈ args, ∀ j, x.owns j → ∃ cs, m0 j = some cs) → RpVs U ρ W args vs →
    Calls P f vs.toArray W fun e W' => ∃ v r m' R' ρ' U', e = .returned v ∧ Post r m' R' ∧ HHeap U' ρ' W' m' R' ∧ RpV U' ρ' W' r v ∧ (∀ j, r.owns j → ∃ cs, m' j = some cs) ∧
      (∀ k cs, m0 k = some cs → ρ' k = ρ k ∧ ∃ cs', m' k = some cs') ∧ (∀ i r, R0 i = some r → ∃ r', R' i = some r') ∧
      (∀ b, U' b → U b ∨ W.heap.size ≤ b ∨ HotAt ρ m0 R0 b) ∧ (∀ b, HotAt ρ' m' R' b → HotAt ρ m0 R0 b ∨ W.heap.size ≤ b) ∧ BelowB (hotBase ρ W m0 R0) W'
section
variable {P : Program} {B B0 : Base} {A A0 : Nat → Prop} {s : AS} {ρ : Nat → Nat} {a : Act} {w : World} {o : Oper} {R : Rws} {Q : Exit → Act → World → Prop}
theorem FunP.caps2 {U : Nat → Prop} {v : Value} {fn : Fn} {cs : List AC} (h : RpC U ρ w (.p (FunP fn cs)) v) : ∃ vs : List Value, v = .func fn #[] vs.toArray ∧ ∀ ρ', RpL U ρ' w cs vs := by
  obtain ⟨⟨vs, rfl, hl, hc⟩, hf⟩ := h
  refine ⟨vs, rfl, fun ρ' => ⟨hl.1, fun i x u hx hu => ?_⟩⟩
  have h := hl.2 i x u hx hu
  cases x with
  | c y => exact h
  | own k o => exact absurd rfl (hc _ (List.mem_of_getElem? hx) k)
  | p R => exact ⟨h.1, fun b hb => hf b ⟨vs, rfl, i, _, u, hx, hu, hb⟩⟩
/-- a call's operation enters the function, with what its operands tell. -/
theorem CallOK.run {f : FuncId} {args : List AV} (hc : CallOK P s.look o f args) (hR : Rel B A s ρ a w) : ∃ us : List Value, RpVs (s.free A ρ) ρ w args us ∧ (execOp a.eval o).run P w = .ok (.enter f us.toArray) w := by
  obtain ⟨⟨c, g, ho, hcal, hh⟩, hent⟩ := hc
  rcases hh with ⟨bs, hg, hargs, hfl⟩ | ⟨cs, hg, hargs⟩
  · have hgv : a.eval g = .func (.func f) bs.toArray #[] := (hR.look hg).1
    refine ⟨bs ++ c.args.toList.map a.eval, ?_, ?_⟩
    · refine ⟨by have := congrArg List.length hargs; simpa using this.symm, fun i x v hx hv => ?_⟩
      have h1 : (bs.map (fun b => some (ofV b)) ++ c.args.toList.map s.look)[i]? = some (some x) := by rw [hargs, List.getElem?_map, hx]; rfl
      rcases Nat.lt_or_ge i bs.length with hlt | hge
      · rw [List.getElem?_append_left (by simpa using hlt), List.getElem?_map] at h1
        rw [List.getElem?_append_left hlt] at hv
        rw [hv] at h1
        simp only [Option.map_some, Option.some.injEq] at h1
        subst h1
        exact rpV_ofV (List.all_eq_true.1 hfl v (List.mem_of_getElem? hv))
      · rw [List.getElem?_append_right (by simpa using hge), List.getElem?_map] at h1
        rw [List.getElem?_append_right hge, List.getElem?_map] at hv
        simp only [List.length_map] at h1
        cases hy : c.args.toList[i - bs.length]? with
        | none => rw [hy] at hv; cases hv
        | some y =>
          rw [hy] at h1 hv
          simp only [Option.map_some, Option.some.injEq] at h1 hv
          subst hv
          exact hR.look h1
    · have e : bs.toArray ++ c.args.map a.eval ++ #[] = (bs ++ c.args.toList.map a.eval).toArray := by
        rw [Array.append_empty]
        apply Array.ext'
        simp
      simp only [execOp, ho, resolve, hcal, Deferred.ofValue, hgv]
      simp only [Sem.run_bind, Sem.run_pure, Result.andThen_ok, invoke]
      rw [e]
      exact enters_run hent
  · obtain ⟨vs, hgv, hcl⟩ := FunP.caps2 (ρ := ρ) (hR.look hg)
    refine ⟨c.args.toList.map a.eval ++ vs, ?_, ?_⟩
    · refine ⟨by have := congrArg List.length hargs; have h2 := (hcl ρ).1; simp at this ⊢; omega, fun i x v hx hv => ?_⟩
      have h1 : (c.args.toList.map s.look ++ cs.map (fun x => some (.w (.one x))))[i]? = some (some x) := by rw [hargs, List.getElem?_map, hx]; rfl
      rcases Nat.lt_or_ge i c.args.toList.length with hlt | hge
      · rw [List.getElem?_append_left (by simpa using hlt), List.getElem?_map] at h1
        rw [List.getElem?_append_left (by simpa using hlt), List.getElem?_map] at hv
        cases hy : c.args.toList[i]? with
        | none => rw [hy] at hv; cases hv
        | some y =>
          rw [hy] at h1 hv
          simp only [Option.map_some, Option.some.injEq] at h1 hv
          subst hv
          exact hR.look h1
      · rw [List.getElem?_append_right (by simpa using hge), List.getElem?_map] at h1
        rw [List.getElem?_append_right (by simpa using hge)] at hv
        simp only [List.length_map] at h1 hv
        cases hy : cs[i - c.args.toList.length]? with
        | none => rw [hy] at h1; cases h1
        | some y =>
          rw [hy] at h1
          simp only [Option.map_some, Option.some.injEq] at h1
          subst h1
          exact (hcl ρ).2 _ y v hy hv
    · have e : (#[] : Array Value) ++ c.args.map a.eval ++ vs.toArray = (c.args.toList.map a.eval ++ vs).toArray := by
        apply Array.ext'
        simp
      simp only [execOp, ho, resolve, hcal, Deferred.ofValue, hgv]
      simp only [Sem.run_bind, Sem.run_pure, Result.andThen_ok, invoke]
      rw [e]
      exact enters_run hent
/-- of a state with rows, the part that a call is handed. -/
theorem RR.part (hR : RR B0 A0 R s a w A ρ) {m0 : Mem} {R0 : Rws} (hm : ∀ k cs, m0 k = some cs → s.mem k = some cs) (hr : RLe R0 R) (mo : ∀ k cs x j, m0 k = some cs → x ∈ cs → x.owns j → ∃ cs', m0 j = some cs') : HHeap (s.free A ρ) ρ w m0 R0 := by
  refine ⟨fun k cs hk => ?_, mo, fun k k' cs cs' hk hk' e => hR.rel.inj k k' cs cs' (hm k cs hk) (hm k' cs' hk') e, fun i r hi => ?_, fun i j r q hi hj => hR.apart i j r q (hr i r hi) (hr j q hj)⟩
  · obtain ⟨vs, ty, h1, h2, _⟩ := hR.rel.mm k cs (hm k cs hk)
    exact ⟨vs, ty, h1, h2, fun h => h.2 k cs (hm k cs hk) rfl⟩
  · obtain ⟨h1, h2, h3⟩ := hR.rows i r (hr i r hi)
    exact ⟨h1, h2, fun g hg => ⟨fun h => (h3 g hg).1 h.1, fun k cs hk => (h3 g hg).2 k cs (hm k cs hk)⟩⟩
theorem RR.hot_lt (hR : RR B0 A0 R s a w A ρ) {m0 : Mem} {R0 : Rws} (hm : ∀ k cs, m0 k = some cs → s.mem k = some cs) (hr : RLe R0 R) {b : Nat} (h : HotAt ρ m0 R0 b) : b < w.heap.size := by
  rcases h with ⟨k, cs, hk, rfl⟩ | ⟨i, r, hi, hg⟩
  · exact hR.rel.lt (hm k cs hk)
  · exact (hR.rows i r (hr i r hi)).ok.lt hg
/-- the state behind such a call. -/
def AS.over (s : AS) (m' : Mem) : AS := { s with mem := ovr m' s.mem }
theorem RR.called (hR : RR B0 A0 R s a w A ρ) (ok : s.Ok) {m0 m' : Mem} {R0 R' : Rws} {ρ' : Nat → Nat} {U' : Nat → Prop} {w' : World} (hm : ∀ k cs, m0 k = some cs → s.mem k = some cs) (hr : RLe R0 R)
    (hH : HHeap U' ρ' w' m' R') (k1 : ∀ k cs, m0 k = some cs → ρ' k = ρ k ∧ ∃ cs', m' k = some cs') (k2 : ∀ i r, R0 i = some r → ∃ r', R' i = some r') (f1 : ∀ k cs', m' k = some cs' → (∃ cs, m0 k = some cs) ∨ s.mem k = none) (fn : ∀ k cs', m' k = some cs' → s.mem k = none → k < s.n)
    (u1 : ∀ b, U' b → s.free A ρ b ∨ w.heap.size ≤ b ∨ HotAt ρ m0 R0 b) (u2 : ∀ b, HotAt ρ' m' R' b → HotAt ρ m0 R0 b ∨ w.heap.size ≤ b) (hb : BelowB (hotBase ρ w m0 R0) w') :
    RR B0 A0 (ovr R' R) (s.over m') a w' (fun b => (s.free A ρ b ∧ b < w.heap.size) ∨ U' b ∨ w'.heap.size ≤ b) (fun k => match m' k with | some _ => ρ' k | none => ρ k) ∧
      (∀ b, U' b → (s.over m').free (fun b => (s.free A ρ b ∧ b < w.heap.size) ∨ U' b ∨ w'.heap.size ≤ b) (fun k => match m' k with | some _ => ρ' k | none => ρ k) b) ∧ (s.over m').Ok := by
  have hlt : ∀ b, HotAt ρ m0 R0 b → b < w.heap.size := fun b h => hR.hot_lt hm hr h
  have hρ : ∀ k, (∃ cs, s.mem k = some cs) → (match m' k with | some _ => ρ' k | none => ρ k) = ρ k := by
    rintro k ⟨cs, hk⟩
    cases hm' : m' k with
    | none => rfl
    | some cs' =>
      rcases f1 k cs' hm' with ⟨cs0, h0⟩ | h0
      · exact (k1 k cs0 h0).1
      · rw [h0] at hk; cases hk
  have hρ2 : ∀ k cs', m' k = some cs' → (match m' k with | some _ => ρ' k | none => ρ k) = ρ' k := fun k cs' h => by rw [h]
  have hnot : ∀ b, s.free A ρ b → ¬ HotAt ρ m0 R0 b := by
    rintro b hf (⟨k, cs, hk, rfl⟩ | ⟨i, r, hi, hg⟩)
    · exact hf.2 k cs (hm k cs hk) rfl
    · exact ((hR.rows i r (hr i r hi)).own b hg).1 hf.1
  have hkeep : ∀ b, b < w.heap.size → ¬ HotAt ρ m0 R0 b → w'.heap[b]? = w.heap[b]? := fun b h1 h2 => hb.block b ⟨h1, h2⟩
  have hsz : w.heap.size ≤ w'.heap.size := hb.size
  have hlt' : ∀ b, HotAt ρ' m' R' b → b < w'.heap.size := by
    rintro b (⟨k, cs, hk, rfl⟩ | ⟨i, r, hi, hg⟩)
    · obtain ⟨vs, ty, h1, _⟩ := hH.mm k cs hk
      exact (Array.getElem?_eq_some_iff.1 h1).1
    · exact (hH.rows i r hi).1.lt hg
  -- what is held elsewhere
  have memo : ∀ k cs, m' k = none → s.mem k = some cs → ¬ HotAt ρ m0 R0 (ρ k) := by
    rintro k cs hn hk (⟨j, cs0, hj, e⟩ | ⟨i, r, hi, hg⟩)
    · have e' : j = k := hR.rel.inj j k _ _ (hm j cs0 hj) hk e
      subst e'
      obtain ⟨_, cs', h⟩ := k1 j cs0 hj
      rw [hn] at h; cases h
    · exact ((hR.rows i r (hr i r hi)).own _ hg).2 k cs hk rfl
  have rowo : ∀ i r, R' i = none → R i = some r → ∀ g, r.own g → ¬ HotAt ρ m0 R0 g := by
    rintro i r hn hi g hg (⟨j, cs0, hj, e⟩ | ⟨i', r', hi', hg'⟩)
    · exact ((hR.rows i r hi).own _ hg).2 j cs0 (hm j cs0 hj) e
    · by_cases e : i = i'
      · subst e
        obtain ⟨q, h⟩ := k2 i r' hi'
        rw [hn] at h; cases h
      · exact hR.apart i i' r r' hi (hr i' r' hi') e g hg hg'
  have rowlt : ∀ i r, R i = some r → ∀ g, r.own g → g < w.heap.size := fun i r hi g hg => (hR.rows i r hi).ok.lt hg
  have hUhot : ∀ b, U' b → ¬ HotAt ρ' m' R' b := by
    rintro b hu (⟨k, cs, hk, rfl⟩ | ⟨i, r, hi, hg⟩)
    · obtain ⟨_, _, _, _, h⟩ := hH.mm k cs hk; exact h hu
    · exact ((hH.rows i r hi).2.2 b hg).1 hu
  have free1 : ∀ b, s.free A ρ b → b < w.heap.size → (s.over m').free (fun b => (s.free A ρ b ∧ b < w.heap.size) ∨ U' b ∨ w'.heap.size ≤ b) (fun k => match m' k with | some _ => ρ' k | none => ρ k) b := by
    intro b hf hl
    refine ⟨.inl ⟨hf, hl⟩, fun k cs hk => ?_⟩
    rcases ovr_some (show ovr m' s.mem k = some cs from hk) with h | ⟨h, h'⟩
    · simp only [h]
      intro e
      rcases u2 b (.inl ⟨k, cs, h, e⟩) with q | q
      · exact hnot b hf q
      · omega
    · simp only [h]; exact hf.2 k cs h'
  have free2 : ∀ b, U' b → (s.over m').free (fun b => (s.free A ρ b ∧ b < w.heap.size) ∨ U' b ∨ w'.heap.size ≤ b) (fun k => match m' k with | some _ => ρ' k | none => ρ k) b := by
    intro b hu
    refine ⟨.inr (.inl hu), fun k cs hk => ?_⟩
    rcases ovr_some (show ovr m' s.mem k = some cs from hk) with h | ⟨h, h'⟩
    · simp only [h]
      intro e
      exact hUhot b hu (.inl ⟨k, cs, h, e⟩)
    · simp only [h]
      intro e
      subst e
      rcases u1 _ hu with q | q | q
      · exact q.2 k cs h' rfl
      · have := hR.rel.lt h'; omega
      · exact memo k cs h h' q
  have hok : (s.over m').Ok := by
    have keepm : ∀ j, (∃ cs, s.mem j = some cs) → ∃ cs, (s.over m').mem j = some cs := by
      rintro j ⟨cs, h⟩
      show ∃ cs, ovr m' s.mem j = some cs
      cases hm' : m' j with
      | some c => exact ⟨c, ovr_l hm'⟩
      | none => exact ⟨cs, by rw [ovr_r hm']; exact h⟩
    refine ⟨fun t av j ht hj => keepm j (ok.tm t av j ht hj), fun k cs x j hk hx hj => ?_⟩
    rcases ovr_some (show ovr m' s.mem k = some cs from hk) with h | ⟨h, h'⟩
    · obtain ⟨c, hc⟩ := hH.mo k cs x j h hx hj
      exact ⟨c, ovr_l hc⟩
    · exact keepm j (ok.mm k cs x j h' hx hj)
  have memhot : ∀ k cs, m0 k = some cs → HotAt ρ' m' R' (ρ k) := fun k cs hk => by
    obtain ⟨e, cs', h⟩ := k1 k cs hk
    exact .inl ⟨k, cs', h, e⟩
  have hotF : ∀ b, HotAt ρ m0 R0 b → ¬ B0.F b := by
    rintro b (⟨k, cs, hk, rfl⟩ | ⟨i, r, hi, hg⟩)
    · exact hR.mine k cs (hm k cs hk)
    · exact (hR.hot i r b (hr i r hi) hg).1
  have newF : ∀ b, w.heap.size ≤ b → ¬ B0.F b := fun b h hf => by have := B0.lt b hf; have := hR.below.size; omega
  refine ⟨⟨hR.up, ?_, ?_, fun k cs hk hf => ?_, ⟨hb.os.trans hR.below.os, hb.tape.trans hR.below.tape, hb.output.trans hR.below.output, Nat.le_trans hR.below.size hb.size, fun b hf => ?_⟩, fun i r hi => ?_, fun i j r q hi hj hij g hg => ?_, fun i r g hi hg => ?_, fun k b hk => ?_⟩, free2, hok⟩
  · rintro b (h | h | h)
    · exact hR.sub b h.1.1
    · rcases u1 b h with q | q | ⟨k, cs, hk, rfl⟩ | ⟨i, r, hi, hg⟩
      · exact hR.sub b q.1
      · exact hR.up b (Nat.le_trans hR.below.size q)
      · exact absurd (memhot k cs hk) (hUhot _ h)
      · exact (hR.hot i r b (hr i r hi) hg).2
    · exact hR.up b (by have := hR.below.size; omega)
  · refine ⟨hR.rel.nodef, hR.rel.size, fun t av ht => ?_, fun k cs hk => ?_, fun k k' cs cs' hk hk' e => ?_, BelowB.refl _, fun b h => .inr (.inr h), hbase_anch _ _ _⟩
    · obtain ⟨v, h1, h2⟩ := hR.rel.tm t av ht
      exact ⟨v, h1, h2.map (fun b hf hl => ⟨free1 b hf hl, hkeep b hl (hnot b hf)⟩) fun j hj => hρ j (ok.tm t av j ht hj)⟩
    · rcases ovr_some (show ovr m' s.mem k = some cs from hk) with h | ⟨h, h'⟩
      · obtain ⟨vs, ty, h1, h2, _⟩ := hH.mm k cs h
        refine ⟨vs, ty, by simp only [h]; exact h1, h2.map (fun b hu _ => ⟨free2 b hu, rfl⟩) fun j x hx hj => ?_, fun hf => hf.2 k cs hk rfl⟩
        obtain ⟨c, hc⟩ := hH.mo k cs x j h hx hj
        exact hρ2 j c hc
      · obtain ⟨vs, ty, h1, h2, _⟩ := hR.rel.mm k cs h'
        refine ⟨vs, ty, by simp only [h]; rw [hkeep _ (hR.rel.lt h') (memo k cs h h')]; exact h1, h2.map (fun b hf hl => ⟨free1 b hf hl, hkeep b hl (hnot b hf)⟩) fun j x hx hj => hρ j (ok.mm k cs x j h' hx hj), fun hf => hf.2 k cs hk rfl⟩
    · rcases ovr_some (show ovr m' s.mem k = some cs from hk) with h | ⟨h, h'⟩
      · rcases ovr_some (show ovr m' s.mem k' = some cs' from hk') with g | ⟨g, g'⟩
        · simp only [h, g] at e
          exact hH.inj k k' cs cs' h g e
        · simp only [h, g] at e
          rcases u2 _ (.inl ⟨k, cs, h, e⟩) with q | q
          · exact absurd q (memo k' cs' g g')
          · have := hR.rel.lt g'; omega
      · rcases ovr_some (show ovr m' s.mem k' = some cs' from hk') with g | ⟨g, g'⟩
        · simp only [h, g] at e
          rcases u2 _ (.inl ⟨k', cs', g, e.symm⟩) with q | q
          · exact absurd q (memo k cs h h')
          · have := hR.rel.lt h'; omega
        · simp only [h, g] at e
          exact hR.rel.inj k k' cs cs' h' g' e
  · rcases ovr_some (show ovr m' s.mem k = some cs from hk) with h | ⟨h, h'⟩
    · simp only [h] at hf
      rcases u2 _ (.inl ⟨k, cs, h, rfl⟩) with q | q
      · exact hotF _ q hf
      · exact newF _ q hf
    · simp only [h] at hf
      exact hR.mine k cs h' hf
  · exact (hkeep b (Nat.lt_of_lt_of_le (B0.lt b hf) hR.below.size) fun h => hotF b h hf).trans (hR.below.block b hf)
  · rcases ovr_some hi with h | ⟨h, h'⟩
    · obtain ⟨hk0, hc, hg⟩ := hH.rows i r h
      refine ⟨hk0.kept hc (fun _ _ => rfl) (Nat.le_refl _) (fun b hu _ => ⟨free2 b hu, rfl⟩), hc, fun g q => ?_⟩
      have hh : HotAt ρ' m' R' g := .inr ⟨i, r, h, q⟩
      refine ⟨?_, fun k cs hk => ?_⟩
      · rintro (z | z | z)
        · rcases u2 g hh with y | y
          · exact hnot g z.1 y
          · omega
        · exact hUhot g z hh
        · have := hlt' g hh; omega
      · rcases ovr_some (show ovr m' s.mem k = some cs from hk) with y | ⟨y, y'⟩
        · simp only [y]; exact (hg g q).2 k cs y
        · simp only [y]
          intro e
          subst e
          rcases u2 _ hh with z | z
          · exact memo k cs y y' z
          · have := hR.rel.lt y'; omega
    · obtain ⟨hk0, hc, hg⟩ := hR.rows i r h'
      refine ⟨hk0.kept hc (fun g q => hkeep g (rowlt i r h' g q) (rowo i r h h' g q)) hsz (fun b hf hb' => ⟨free1 b hf hb', hkeep b hb' (hnot b hf)⟩), hc, fun g q => ⟨?_, fun k cs hk => ?_⟩⟩
      · rintro (z | z | z)
        · exact (hg g q).1 z.1.1
        · rcases u1 g z with y | y | y
          · exact (hg g q).1 y.1
          · have := rowlt i r h' g q; omega
          · exact rowo i r h h' g q y
        · have := rowlt i r h' g q; omega
      · rcases ovr_some (show ovr m' s.mem k = some cs from hk) with y | ⟨y, y'⟩
        · simp only [y]
          intro e
          rcases u2 g (.inl ⟨k, cs, y, e⟩) with z | z
          · exact rowo i r h h' g q z
          · have := rowlt i r h' g q; omega
        · simp only [y]; exact (hg g q).2 k cs y'
  · rcases ovr_some hi with h | ⟨h, h'⟩
    · rcases ovr_some hj with y | ⟨y, y'⟩
      · exact hH.apart i j r q h y hij g hg
      · intro hq
        rcases u2 g (.inr ⟨i, r, h, hg⟩) with z | z
        · exact rowo j q y y' g hq z
        · have := rowlt j q y' g hq; omega
    · rcases ovr_some hj with y | ⟨y, y'⟩
      · intro hq
        rcases u2 g (.inr ⟨j, q, y, hq⟩) with z | z
        · exact rowo i r h h' g hg z
        · have := rowlt i r h' g hg; omega
      · exact hR.apart i j r q h' y' hij g hg
  · rcases ovr_some hi with h | ⟨h, h'⟩
    · rcases u2 g (.inr ⟨i, r, h, hg⟩) with (⟨k, cs, hk, e⟩ | ⟨j, q, hj, hq⟩) | z
      · obtain ⟨e', cs', h0⟩ := k1 k cs hk
        exact absurd (e'.trans e) (((hH.rows i r h).2.2 g hg).2 k cs' h0)
      · exact hR.hot j q g (hr j q hj) hq
      · exact ⟨newF g z, hR.up g (by have := hR.below.size; omega)⟩
    · exact hR.hot i r g h' hg
  · obtain ⟨h1, h2⟩ := hR.anch k b hk
    refine ⟨h1, ?_⟩
    cases hm' : m' k with
    | none => exact h2
    | some c =>
      rcases f1 k c hm' with ⟨cs, h0⟩ | h0
      · exact (k1 k cs h0).1.trans h2
      · exact absurd (fn k c hm' h0) (Nat.not_lt.2 h1)
/-- what is known where such a call's operation stands. -/
structure HotCall (P : Program) (T : Nat → Bool) (R : Rws) (s : AS) (o : Oper) (K : Rws → AS → Prop) : Prop where
  ex : ∃ f args m0 R0 Post, CallOK P s.look o f args ∧ HCall P f args m0 R0 Post ∧ (∀ x ∈ args, ∀ j, x.owns j → ∃ cs, m0 j = some cs) ∧ (∀ k cs, m0 k = some cs → s.mem k = some cs ∧ (T k = true ∨ ∀ r m' R', Post r m' R' → m' k = some cs)) ∧ RLe R0 R ∧ (∀ k cs x j, m0 k = some cs → x ∈ cs → x.owns j → ∃ cs', m0 j = some cs') ∧
    ∀ r m' R', Post r m' R' → (∀ j, r.owns j → ∃ cs, m' j = some cs) → (∀ k cs x j, m' k = some cs → x ∈ cs → x.owns j → ∃ cs', m' j = some cs') → (∀ k cs, m0 k = some cs → ∃ cs', m' k = some cs') →
      (∀ k cs', m' k = some cs' → (∃ cs, m0 k = some cs) ∨ (s.mem k = none ∧ k < s.n)) ∧ K (ovr R' R) ((s.over m').put o.dst r)
theorem AS.Ok.over_ok {m' : Mem} (ok : s.Ok) (mo : ∀ k cs x j, m' k = some cs → x ∈ cs → x.owns j → ∃ cs', m' j = some cs') : (s.over m').Ok := by
  have keepm : ∀ j, (∃ cs, s.mem j = some cs) → ∃ cs, (s.over m').mem j = some cs := by
    rintro j ⟨cs, h⟩
    show ∃ cs, ovr m' s.mem j = some cs
    cases hm' : m' j with
    | some c => exact ⟨c, ovr_l hm'⟩
    | none => exact ⟨cs, by rw [ovr_r hm']; exact h⟩
  refine ⟨fun t av j ht hj => keepm j (ok.tm t av j ht hj), fun k cs x j hk hx hj => ?_⟩
  rcases ovr_some (show ovr m' s.mem k = some cs from hk) with h | ⟨h, h'⟩
  · obtain ⟨c, hc⟩ := mo k cs x j h hx hj
    exact ⟨c, ovr_l hc⟩
  · exact keepm j (ok.mm k cs x j h' hx hj)
theorem AS.Ok.over_put_ok {m' : Mem} {r : AV} (ok : s.Ok) (mo : ∀ k cs x j, m' k = some cs → x ∈ cs → x.owns j → ∃ cs', m' j = some cs') (hro : ∀ j, r.owns j → ∃ cs, m' j = some cs) (dst : Option Nat) : ((s.over m').put dst r).Ok :=
  (ok.over_ok mo).put fun j hj => by
    obtain ⟨c, hc⟩ := hro j hj
    exact ⟨c, ovr_l hc⟩
theorem HotCall.mono {K K' : Rws → AS → Prop} (ok : s.Ok) {T : Nat → Bool} (h : HotCall P T R s o K) (hK : ∀ R s, s.Ok → K R s → K' R s) : HotCall P T R s o K' := by
  obtain ⟨f, args, m0, R0, Post, hc, hp, ho, hm, hr, mo, hk⟩ := h.ex
  refine ⟨f, args, m0, R0, Post, hc, hp, ho, hm, hr, mo, fun r m' R' h1 h2 h3 h4 => ?_⟩
  obtain ⟨f1, k⟩ := hk r m' R' h1 h2 h3 h4
  exact ⟨f1, hK _ _ (ok.over_put_ok h3 h2 _) k⟩
theorem HotCall.sound {K : Rws → AS → Prop} {T : Nat → Bool} (h : HotCall P T R s o K) (hd : ∀ d, o.dst = some d → d < s.n) (hR : RR B0 A0 R s a w A ρ) (ok : s.Ok) {K' : Act → World → Prop} (hK : ∀ R' s' a' w', s'.Ok → RRel B0 A0 R' s' a' w' → K R' s' → K' a' w') : o.wp P a w K' Q := by
  obtain ⟨f, args, m0, R0, Post, hc, hp, ho, hm', hr, mo, hk⟩ := h.ex
  have hm : ∀ k cs, m0 k = some cs → s.mem k = some cs := fun k cs h => (hm' k cs h).1
  obtain ⟨us, hvs, hrun⟩ := hc.run hR.rel
  unfold Oper.wp
  rw [hrun]
  refine (hp.call (s.free A ρ) ρ w us (hR.part hm hr mo) ho hvs).mono ?_
  rintro e w' ⟨v, r, m', R', ρ', U', rfl, hpost, hH, hv, hro, k1, k2, u1, u2, hb⟩
  obtain ⟨f1, hk'⟩ := hk r m' R' hpost hro hH.mo fun k cs h => (k1 k cs h).2
  obtain ⟨hR', hU, ok'⟩ := hR.called ok hm hr hH k1 k2 (fun k c h => (f1 k c h).imp id And.left) (fun k c h h0 => by
    rcases f1 k c h with ⟨cs, q⟩ | q
    · rw [hm k cs q] at h0; cases h0
    · exact q.2) u1 u2 hb
  have hv' : RpV ((s.over m').free (fun b => (s.free A ρ b ∧ b < w.heap.size) ∨ U' b ∨ w'.heap.size ≤ b) (fun k => match m' k with | some _ => ρ' k | none => ρ k)) (fun k => match m' k with | some _ => ρ' k | none => ρ k) w' r v :=
    hv.map (fun b hu _ => ⟨hU b hu, rfl⟩) fun j hj => by
      obtain ⟨c, hc⟩ := hro j hj
      simp only [hc]
  refine hK _ _ _ _ (ok'.put fun j hj => ?_) ⟨_, _, hR'.put (fun d' e => hd d' e) hv'⟩ hk'
  obtain ⟨c, hc⟩ := hro j hj
  exact ⟨c, ovr_l hc⟩
end
end Go.Proofs.Ytlfkllmnekdghaa

namespace Go.Proofs.Ytlfkllmnekdghaa
open Go.RowKit
set_option linter.unusedVariables false
set_option linter.unusedSimpArgs false
def appB (o : Oper) : Bool := match o.op with
  | .call ⟨.builtin .append, _, _⟩ => true
  | .call ⟨.builtin .copy, _, _⟩ => true
  | _ => false
def hotB (o : Oper) : Bool := match o.op with
  | .call ⟨.builtin .append, _, _⟩ => true
  | .call ⟨.builtin .copy, _, _⟩ => true
  | .buildSlice .. => true
  | .makeSlice .. => true
  | _ => false
/-- is the operation a call that may turn what is held: where the order is the text's, any; else one whose slot is among these (1000000: a call that writes none). -/
def callB (o : Oper) : Bool := match o.op with
  | .call ⟨.value _, _, _⟩ => true
  | _ => false
def hotM (dr : Option (List Nat)) (o : Oper) : Bool := callB o && match dr with
  | none => true
  | some hs => hs.contains (o.dst.getD 1000000)
/-- is what this operation makes told as nobody's? (3000000 and the slot are among these.) -/
def cldM (dr : Option (List Nat)) (o : Oper) : Bool := match dr with
  | none => false
  | some hs => hs.contains (3000000 + o.dst.getD 0)
/-- may such a call turn the block of this name? (2000000 and the name are among these.) -/
def tch (dr : Option (List Nat)) (k : Nat) : Bool := match dr with
  | none => true
  | some hs => hs.contains (2000000 + k)
/-- what is loaded is of a block that no such call turns. -/
def ldOK (dr : Option (List Nat)) (look : Operand → Option AV) (o : Oper) : Bool := match dr with
  | none => true
  | some hs => bif hs.isEmpty then true else match o.op with
    | .load _ x => match look x with
      | some (.w (.one (.own k _))) => !hs.contains (2000000 + k)
      | _ => true
    | _ => true
/-- does it turn the frame's own blocks, or make one? -/
def memB (o : Oper) : Bool := match o.op with
  | .store .. => true
  | .alloc _ => true
  | .box .. => true
  | _ => false
/-- every append, and every call that may turn what is held, waits for what writes that slot. -/
def rdB (ops : Array Oper) (hs : List Nat) (dst : Option Nat) : Bool := (List.range ops.size).all fun k => match ops[k]? with
  | some ok => !(ok.dst == dst) || (List.range ops.size).all fun j => match ops[j]? with
    | some oj => !(appB oj || hotM (some hs) oj) || waits .any ops 8 j k
    | none => true
  | none => true
def rdD (ops : Array Oper) (dr : Option (List Nat)) (dst : Option Nat) : Bool := match dr with
  | none => true
  | some hs => rdB ops hs dst
/-- what leaves the rows as they are. -/
inductive SEff (P : Program) (ops : Array Oper) (dr : Option (List Nat)) (R : Rws) (s : AS) (o : Oper) : Bool → Eff → Prop
  | cold (b : Bool) (e : Eff) (h : AEff P s.n s.look s.mem o b e) (ht : ldOK dr s.look o = true) : SEff P ops dr R s o b e
  | read (av : AV) (h : HRead P R s.look o av) (hc : av.closed) (hr : rdD ops dr o.dst = true) : SEff P ops dr R s o true ⟨av, none⟩
def hOp (P : Program) (ops : Array Oper) (dr : Option (List Nat)) (o : Oper) (K : Rws → AS → Prop) (R : Rws) (s : AS) : Prop :=
  ∃ b, want ops o s = some b ∧ (∀ d, o.dst = some d → d < s.n) ∧ ((∃ e, SEff P ops dr R s o b e ∧ K R (e.on o.dst s)) ∨ (b = true ∧ ∃ d f, ∃ okv : Value → Prop, o.dst = some d ∧ (HWr P R s.look o f okv ∧ cldM dr o = false) ∧ ∀ v' : Value, okv v' → K (f v') (s.put (some d) (vC v'))) ∨ (b = true ∧ dr = none ∧ ∃ R', o.dst = none ∧ HSt P R s.look o R' ∧ K R' s) ∨
    (b = true ∧ dr = none ∧ ∃ d f i, ∃ g : Value → HRow, o.dst = some d ∧ HWr P R s.look o f Ok1 ∧ (∀ v', f v' i = some (g v') ∧ (g v').v = v' ∧ 0 < (g v').sz) ∧ ∀ v' : Value, v'.oneCell' = true → K (fun j => if j = i then none else f v' j) (s.put (some d) (vS (g v').sz (g v').n (g v').ys))) ∨
    (b = true ∧ hotM dr o = true ∧ HotCall P (tch dr) R s o K) ∨
    (b = true ∧ hotM dr o = true ∧ HotCall P (tch dr) R s o fun R' s' => ∃ i d r, o.dst = some d ∧ R' i = some r ∧ 0 < r.sz ∧ s'.tmps d = some (vC r.v) ∧ d < s'.n ∧ K (fun j => if j = i then none else R' j) (s'.put (some d) (vS r.sz r.n r.ys))))
def hList (P : Program) (ops : Array Oper) (dr : Option (List Nat)) (K : Rws → AS → Prop) : List Oper → Rws → AS → Prop
  | [], R, s => K R s
  | o :: rest, R, s => hOp P ops dr o (hList P ops dr K rest) R s
def hAny (P : Program) (md : Region.Mode) (ops : Array Oper) (hs : List Nat) (K : Rws → AS → Prop) : Nat → Array Bool → Rws → AS → Prop
  | 0, listed, R, s => Region.ready md ops listed = [] ∧ K R s
  | fuel + 1, listed, R, s => (Region.ready md ops listed = [] → K R s) ∧
    ∀ i ∈ Region.ready md ops listed, ∀ o, ops[i]? = some o → hOp P ops (some hs) o (hAny P md ops hs K fuel (listed.setIfInBounds i true)) R s
section
variable {P : Program} {B0 : Base} {A0 A : Nat → Prop} {R : Rws} {s s' : AS} {a a' : Act} {w w' : World} {ρ ρ' : Nat → Nat} {o oi oj : Oper} {ops : Array Oper} {md : Region.Mode} {dr : Option (List Nat)} {hs : List Nat}
theorem SEff.ok {b : Bool} {e : Eff} (ok : s.Ok) (h : SEff P ops dr R s o b e) (hd : ∀ d, o.dst = some d → d < s.n) : (e.on o.dst s).Ok := by
  cases h with
  | cold b e h ht => exact eff_ok ok h hd
  | read av h hc hr => exact ok.put fun j hj => absurd hj (hc j)
theorem putC_ok (ok : s.Ok) (d : Nat) (v : Value) : (s.put (some d) (vC v)).Ok := ok.put fun j hj => absurd hj (noown v j)
theorem hOp_mono {K K' : Rws → AS → Prop} (ok : s.Ok) (h : ∀ R s, s.Ok → K R s → K' R s) (hh : hOp P ops dr o K R s) : hOp P ops dr o K' R s := by
  obtain ⟨b, hw, hd, h1 | ⟨hb, d, f, okv, hdst, hf, hk⟩ | ⟨hb, hdr, R', hdst, hf, hk⟩ | ⟨hb, hdr, d, f, i, g, hdst, hf, hg, hk⟩ | ⟨hb, hm, hc⟩ | ⟨hb, hm, hc⟩⟩ := hh
  · obtain ⟨e, he, hk⟩ := h1
    exact ⟨b, hw, hd, .inl ⟨e, he, h _ _ (he.ok ok hd) hk⟩⟩
  · exact ⟨b, hw, hd, .inr (.inl ⟨hb, d, f, okv, hdst, hf, fun v' hv => h _ _ (putC_ok ok d v') (hk v' hv)⟩)⟩
  · exact ⟨b, hw, hd, .inr (.inr (.inl ⟨hb, hdr, R', hdst, hf, h _ _ ok hk⟩))⟩
  · exact ⟨b, hw, hd, .inr (.inr (.inr (.inl ⟨hb, hdr, d, f, i, g, hdst, hf, hg, fun v' hv => h _ _ (ok.put fun j hj => absurd hj (noownp _ j)) (hk v' hv)⟩)))⟩
  · exact ⟨b, hw, hd, .inr (.inr (.inr (.inr (.inl ⟨hb, hm, hc.mono ok h⟩))))⟩
  · refine ⟨b, hw, hd, .inr (.inr (.inr (.inr (.inr ⟨hb, hm, hc.mono ok fun R s okk hk => ?_⟩))))⟩
    obtain ⟨i, d, r, h0, h1, hz, h2, h3, h4⟩ := hk
    exact ⟨i, d, r, h0, h1, hz, h2, h3, h _ _ (okk.put fun j hj => absurd hj (noownp _ j)) h4⟩
/-- a row is given up: it is told by what its slot holds. -/
theorem RR.cool (hR : RR B0 A0 R s a w A ρ) (i d : Nat) (r : HRow) (hi : R i = some r) (hsz : 0 < r.sz) (hds : s.tmps d = some (vC r.v)) (hdn : d < s.n) : ∃ A', RR B0 A0 (fun j => if j = i then none else R j) (s.put (some d) (vS r.sz r.n r.ys)) a w A' ρ := by
  obtain ⟨hok0, hcl, hg⟩ := hR.rows i r hi
  obtain ⟨xs, ho, hl⟩ := hok0.row hsz
  have hA' : ∀ b, s.free A ρ b → b < w.heap.size → s.free (fun b => A b ∨ r.v.ownBlock = some b) ρ b ∧ w.heap[b]? = w.heap[b]? := fun b hb _ => ⟨⟨.inl hb.1, hb.2⟩, rfl⟩
  have hR1 : Rel (hbase B0 s ρ w) (fun b => A b ∨ r.v.ownBlock = some b) s ρ a w := hR.rel.anew (fun b hb _ => ⟨.inl hb, rfl⟩) (fun k cs hk => ⟨rfl, fun hf => hf.2 k cs hk rfl⟩) (BelowB.refl _) (fun b hb => .inl (hR.rel.up b hb)) (hbase_anch _ _ _)
  have hR2 : RR B0 A0 (fun j => if j = i then none else R j) s a w (fun b => A b ∨ r.v.ownBlock = some b) ρ := by
    refine ⟨hR.up, ?_, hR1, hR.mine, hR.below, fun j q hj => ?_, fun j k q q' hj hk hjk => ?_, fun j q g hj => ?_, hR.anch⟩
    · rintro b (hb | hb)
      · exact hR.sub b hb
      · exact (hR.hot i r b hi (.inl hb)).2
    · have hji : j ≠ i := fun e => by rw [if_pos e] at hj; cases hj
      rw [if_neg hji] at hj
      obtain ⟨hk0, uc, ug⟩ := hR.rows j q hj
      refine ⟨hk0.kept uc (fun _ _ => rfl) (Nat.le_refl _) hA', uc, fun g hg' => ⟨?_, (ug g hg').2⟩⟩
      rintro (hb | hb)
      · exact (ug g hg').1 hb
      · exact hR.apart i j r q hi hj (Ne.symm hji) g (.inl hb) hg'
    · have hji : j ≠ i := fun e => by rw [if_pos e] at hj; cases hj
      have hki : k ≠ i := fun e => by rw [if_pos e] at hk; cases hk
      rw [if_neg hji] at hj
      rw [if_neg hki] at hk
      exact hR.apart j k q q' hj hk hjk
    · have hji : j ≠ i := fun e => by rw [if_pos e] at hj; cases hj
      rw [if_neg hji] at hj
      exact hR.hot j q g hj
  have hR3 : Rel (hbase B0 s ρ w) (fun b => A b ∨ r.v.ownBlock = some b) (s.put (some d) (vS r.sz r.n r.ys)) ρ a w := by
    refine hR2.rel.retell hds fun v hv1 hv2 => ?_
    obtain ⟨rfl, h1c⟩ := hv2
    have hll := hl.1
    obtain ⟨hlx, hn | ⟨g, cap, cur, hgv, hbg, hheap, hnc, hcm, hcs, htake⟩⟩ := id ho
    · obtain ⟨e1, e2⟩ := hn
      have : r.ys = [] := List.eq_nil_of_length_eq_zero (by rw [hll, hlx, e2]; simp)
      rw [e1]
      exact ⟨⟨none, 0, by rw [e2], by omega, by rw [this, e2]; simp, fun h => absurd h (by omega)⟩, fun b ⟨c', a', q, hn, hb⟩ => by cases q⟩
    · have hcells := ho.cells (g := g) (by rw [hgv]; rfl)
      rw [hgv]
      have hCA : CellsAt w ⟨g, 0, none⟩ r.ys xs := ⟨(Array.getElem?_eq_some_iff.1 hheap).1, hl.closed_map hcl fun b _ _ => ⟨trivial, rfl⟩, hcells, hcl⟩
      refine ⟨⟨some ⟨g, 0, none⟩, cap, rfl, hnc, by rw [hll]; exact hlx, fun hn => ⟨⟨g, 0, none⟩, xs, rfl, hCA⟩⟩, ?_⟩
      rintro b ⟨c', a', q, hn, hf⟩
      cases q
      rcases hf with rfl | ⟨j, y, v, hy, hv, hfo⟩
      · exact ⟨.inr rfl, (hg g (.inl (by rw [hgv]; rfl))).2⟩
      · have hlt : j < xs.length := by rw [← hll]; exact (List.getElem?_eq_some_iff.1 hy).1
        have h2 := hcells j _ (List.getElem?_eq_getElem hlt)
        rw [hv] at h2
        cases h2
        have h3 := hl.2 j y _ hy (List.getElem?_eq_getElem hlt)
        cases y with
        | c u => cases hfo
        | own k o => cases hfo
        | p S => have := h3.2 b hfo; exact ⟨.inl this.1, this.2⟩
  exact ⟨_, hR2.next (s' := s.put (some d) (vS r.sz r.n r.ys)) (a' := a) (w' := w) (ρ' := ρ) hR3⟩
theorem put_put (s : AS) (d : Nat) (u v : AV) : (s.put (some d) u).put (some d) v = s.put (some d) v := by
  simp only [AS.put, AS.mk.injEq, true_and, and_true]
  funext j
  by_cases e : j = d
  · subst e; rw [upd_same, upd_same]
  · rw [upd_ne _ _ e, upd_ne _ _ e, upd_ne _ _ e]
theorem hOp_sound {ro : Option Nat} {K : Rws → AS → Prop} {K' : Act → World → Prop} {Q : Exit → Act → World → Prop} {i : Nat} (hi : ops[i]? = some o) (ok : s.Ok) (hR : RRel B0 A0 R s a w) (h : hOp P ops dr o K R s)
    (hK : ∀ R' s' a' w', s'.Ok → RRel B0 A0 R' s' a' w' → K R' s' → K' a' w') : wpOpIn (Wd ro) 0 P ops Q i K' a w := by
  obtain ⟨A, ρ, hR⟩ := hR
  obtain ⟨b, hw, hd, h⟩ := h
  have hw' := want_sound hw hR.rel
  unfold wpOpIn
  simp only [hi]
  cases b with
  | true =>
    rw [hw']
    simp only [if_true]
    refine Oper.wpIn_wd ?_ ?nd
    case nd =>
      rcases h with ⟨e, he, _⟩ | ⟨_, d, f, okv, hdst, ⟨hf, _⟩, _⟩ | ⟨_, _, R', hdst, hf, _⟩ | ⟨_, _, d, f, i, g, hdst, hf, _⟩ | ⟨_, _, hc⟩ | ⟨_, _, hc⟩
      · cases he with
        | cold b e he _ => exact (he.step hd).nodefer hR.rel
        | read av h hc hr =>
          obtain ⟨v, h1, h2⟩ := h.sound hR
          exact no_defer h1 (fun d h => by cases h)
      · obtain ⟨v', w2, A', h1, _⟩ := hf.sound hR (hd d hdst)
        exact no_defer h1 (fun d h => by cases h)
      · obtain ⟨w2, A', h1, _⟩ := hf.sound hR
        exact no_defer h1 (fun d h => by cases h)
      · obtain ⟨v', w2, A', h1, _⟩ := hf.sound hR (hd d hdst)
        exact no_defer h1 (fun d h => by cases h)
      · obtain ⟨f, args, m0, R0, Post, ⟨⟨c', g, ho, _⟩, _⟩, _⟩ := hc.ex
        intro c hcc; rw [ho] at hcc; cases hcc
      · obtain ⟨f, args, m0, R0, Post, ⟨⟨c', g, ho, _⟩, _⟩, _⟩ := hc.ex
        intro c hcc; rw [ho] at hcc; cases hcc
    rcases h with ⟨e, he, hk⟩ | ⟨_, d, f, okv, hdst, ⟨hf, _⟩, hk⟩ | ⟨_, _, R', hdst, hf, hk⟩ | ⟨_, _, d, f, i, g, hdst, hf, hg, hk⟩ | ⟨_, _, hc⟩ | ⟨_, _, hc⟩
    · have ok' := he.ok ok hd
      cases he with
      | cold b e he _ => exact Oper.wp_mono (fun a' w' ⟨ρ', hr⟩ => hK _ _ a' w' ok' ⟨A, ρ', hR.next hr⟩ hk) (AStep.sound (he.step hd) hR.rel ok)
      | read av h hc hr =>
        obtain ⟨v, h1, h2⟩ := h.sound hR
        exact Oper.wp_value h1 (hK _ _ _ _ ok' ⟨A, ρ, hR.put hd h2⟩ hk)
    · obtain ⟨v', w2, A', h1, h2, h3⟩ := hf.sound hR (hd d hdst)
      refine Oper.wp_value h1 ?_
      rw [hdst]
      exact hK _ _ _ _ (putC_ok ok d v') ⟨A', ρ, h3⟩ (hk v' h2)
    · obtain ⟨w2, A', h1, h2⟩ := hf.sound hR
      unfold Oper.wp
      rw [h1, Oper.upon_skip, hdst]
      exact hK _ _ _ _ ok ⟨A', ρ, h2⟩ hk
    · have hdn := hd d hdst
      obtain ⟨v', w2, A', h1, h2, h3⟩ := hf.sound hR hdn
      refine Oper.wp_value h1 ?_
      rw [hdst]
      obtain ⟨A2, h4⟩ := h3.cool i d (g v') (hg v').1 (hg v').2.2 (by rw [(hg v').2.1]; exact upd_same _ _ _) hdn
      rw [put_put] at h4
      exact hK _ _ _ _ (ok.put fun j hj => absurd hj (noownp _ j)) ⟨A2, ρ, h4⟩ (hk v' h2)
    · exact hc.sound hd hR ok hK
    · refine hc.sound hd hR ok fun R' s' a' w' ok' hR' hk => ?_
      obtain ⟨i, d, r, _, h1, hz, h2, h3, h4⟩ := hk
      obtain ⟨A2, ρ2, hR2⟩ := hR'
      obtain ⟨A3, hR3⟩ := hR2.cool i d r h1 hz h2 h3
      exact hK _ _ _ _ (ok'.put fun j hj => absurd hj (noownp _ j)) ⟨A3, ρ2, hR3⟩ h4
  | false =>
    rw [hw']
    simp only [Bool.false_eq_true, if_false]
    rcases h with ⟨e, he, hk⟩ | ⟨h, _⟩ | ⟨h, _⟩ | ⟨h, _⟩ | ⟨h, _⟩ | ⟨h, _⟩
    · have ok' := he.ok ok hd
      cases he with
      | cold b e he _ =>
        cases he
        exact ⟨fun _ _ => trivial, hK _ _ _ _ ok' ⟨A, ρ, hR.put hd (RpV.undef _)⟩ hk⟩
    · cases h
    · cases h
    · cases h
    · cases h
    · cases h
theorem AEff.cong {n : Nat} {look look' : Operand → Option AV} {mem : Nat → Option (List AC)} {b : Bool} {e : Eff} (h : AEff P n look mem o b e) (el : ∀ x ∈ o.op.operands, look' x = look x) : AEff P n look' mem o b e := by
  cases h with
  | skip => exact .skip
  | quiet av hq => exact .quiet av (hq.congr el)
  | fresh av hq => exact .fresh av (hq.congr el)
  | load ty x k off cs av ho hx hm hv => exact .load ty x k off cs av ho (by rw [el x (by simp [ho, Op.operands])]; exact hx) hm hv
  | store ty x y k off cs z i ho hx hy hm hi hs hb => exact .store ty x y k off cs z i ho (by rw [el x (by simp [ho, Op.operands])]; exact hx) (by rw [el y (by simp [ho, Op.operands])]; exact hy) hm hi hs hb
  | new cs d hdst hm hn => exact .new cs d hdst hm (hn.congr el)
  | call g args r hc hp => exact .call g args r (hc.congr el) hp
theorem HWr.ext {look : Operand → Option AV} {f : Value → Rws} {okv : Value → Prop} (h : HWr P R look o f okv) (hn : appB o = false) (v : Value) : RLe R (f v) := by
  cases h with
  | app i r tt bytes m sx xx news hi ho => simp [appB, ho] at hn
  | copy i r tt t2 m lo hi x y news hi' hsz ho => simp [appB, ho] at hn
  | new i t n e sz bytes parts vs zs r hi =>
    intro j q hj
    have : j ≠ i := fun e => by subst e; rw [hi] at hj; cases hj
    show upd R i _ j = some q
    rw [upd_ne _ _ this]; exact hj
  | make i t l c e sz bytes x y kl kc vs hi =>
    intro j q hj
    have : j ≠ i := fun e => by subst e; rw [hi] at hj; cases hj
    show upd R i _ j = some q
    rw [upd_ne _ _ this]; exact hj
theorem AEff.nom {n : Nat} {look : Operand → Option AV} {mem : Nat → Option (List AC)} {b : Bool} {e : Eff} (h : AEff P n look mem o b e) (hm : memB o = false) : e.m = none := by
  cases h with
  | skip => rfl
  | quiet av hq => rfl
  | fresh av hq => rfl
  | load ty x k off cs av ho hx hm' hv => rfl
  | store ty x y k off cs z i ho hx hy hm' hi hs hb => simp [memB, ho] at hm
  | new cs d hdst hm' hn =>
    cases hn with
    | alloc ty i z cs ho => simp [memB, ho] at hm
    | box ty x z ho => simp [memB, ho] at hm
  | call g args r hc hp => rfl
theorem AEff.nomem {n : Nat} {look : Operand → Option AV} {mem mem' : Nat → Option (List AC)} {b : Bool} {e : Eff} (h : AEff P n look mem o b e) (hm : memB o = false) (hld : ∀ ty x k off cs, o.op = .load ty x → look x = some (.w (.one (.own k off))) → mem k = some cs → mem' k = some cs) : AEff P n look mem' o b e := by
  cases h with
  | skip => exact .skip
  | quiet av hq => exact .quiet av hq
  | fresh av hq => exact .fresh av hq
  | load ty x k off cs av ho hx hm' hv => exact .load ty x k off cs av ho hx (hld ty x k off cs ho hx hm') hv
  | store ty x y k off cs z i ho hx hy hm' hi hs hb => simp [memB, ho] at hm
  | new cs d hdst hm' hn =>
    cases hn with
    | alloc ty i z cs ho => simp [memB, ho] at hm
    | box ty x z ho => simp [memB, ho] at hm
  | call g args r hc hp => exact .call g args r hc hp
theorem ldOK_congr {look look' : Operand → Option AV} (h : ldOK dr look o = true) (e : ∀ x ∈ o.op.operands, look' x = look x) : ldOK dr look' o = true := by
  unfold ldOK at h ⊢
  cases dr with
  | none => rfl
  | some hs =>
    simp only at h ⊢
    cases he : hs.isEmpty with
    | true => rfl
    | false =>
      rw [he] at h
      simp only [cond_false] at h ⊢
      cases ho : o.op with
      | load ty x =>
        rw [ho] at h
        simp only at h ⊢
        rw [e x (by simp [ho, Op.operands])]; exact h
      | _ => rfl
theorem ldOK_load {hs : List Nat} {look : Operand → Option AV} {ty : TypeId} {x : Operand} {k off : Nat} (h : ldOK (some hs) look o = true) (ho : o.op = .load ty x) (hx : look x = some (.w (.one (.own k off)))) : tch (some hs) k = false := by
  unfold ldOK at h
  simp only at h
  cases he : hs.isEmpty with
  | true =>
    have : hs = [] := List.isEmpty_iff.1 he
    subst this; rfl
  | false =>
    rw [he] at h
    simp only [cond_false, ho, hx, Bool.not_eq_true'] at h
    exact h
/-- the diamond: what leaves the rows as they are may be taken first. -/
theorem hOp_swap {b : Bool} {e : Eff} {K : Rws → AS → Prop} (ok : s.Ok) (hw : want ops oi s = some b) (he : SEff P ops (some hs) R s oi b e) (hdi : ∀ d, oi.dst = some d → d < s.n) (hap : oi.apart ops oj = true) (hma : MemSep s oi oj) (hra : rdB ops hs oi.dst = true → appB oj = false ∧ hotM (some hs) oj = false) (hmb : memB oi = true → hotM (some hs) oj = false) (h : hOp P ops (some hs) oj K R (e.on oi.dst s)) :
    hOp P ops (some hs) oj (fun R' t => (∃ (f : Eff) (mm : Mem), t = f.on oj.dst { s with mem := mm }) ∧ (want ops oi t = some b ∧ SEff P ops (some hs) R' t oi b e ∧ (∀ d, oi.dst = some d → d < t.n) ∧ t.Ok) ∧ K R' (e.on oi.dst t)) R s := by
  obtain ⟨a1, a2, a3⟩ := Oper.apart_spec hap
  obtain ⟨c, hwj, hdj, hh⟩ := h
  rw [want_put (b := none) a1] at hwj
  have hdj' : ∀ d, oj.dst = some d → d < s.n := fun d hd => by have := hdj d hd; rwa [Eff.on_n] at this
  have lj : ∀ x ∈ oj.op.operands, (e.on oi.dst s).look x = s.look x := fun x hx => Eff.on_look _ _ _ fun d hd => looks_op (a1 d hd) hx
  have li : ∀ (f : Eff), ∀ x ∈ oi.op.operands, (f.on oj.dst s).look x = s.look x := fun f x hx => Eff.on_look _ _ _ fun d hd => looks_op (a3 d hd) hx
  have wi : ∀ f : Eff, want ops oi (f.on oj.dst s) = some b := fun f => by rw [want_put (b := none) a3]; exact hw
  have ni : ∀ f : Eff, ∀ d, oi.dst = some d → d < (f.on oj.dst s).n := fun f d hd => by rw [Eff.on_n]; exact hdi d hd
  have cm : ∀ f : Eff, f.m = none → f.on oj.dst (e.on oi.dst s) = e.on oi.dst (f.on oj.dst s) := fun f hf => Eff.on_comm e f oi.dst oj.dst s a2 fun k cs j ds _ h2 => by rw [hf] at h2; cases h2
  -- what oi does, behind an operation that leaves memory alone
  have si : ∀ (R' : Rws) (f : Eff), f.m = none → (rdB ops hs oi.dst = true → RLe R R') → SEff P ops (some hs) R' (f.on oj.dst s) oi b e := fun R' f hf hl => by
    cases he with
    | cold b e he ht =>
      refine .cold _ _ ?_ (ldOK_congr ht (li f))
      rw [Eff.on_n, Eff.on_mem, hf]
      exact he.cong (li f)
    | read av h hc hr => exact .read av ((h.rows (hl hr)).congr (li f)) hc hr
  refine ⟨c, hwj, hdj', ?_⟩
  rcases hh with ⟨f, hf, hk⟩ | ⟨hb, d, f, okv, hdst, hf, hk⟩ | ⟨_, hdr, _⟩ | ⟨_, hdr, _⟩ | ⟨hb, hm, hc⟩ | ⟨hb, hm, hc⟩
  · left
    cases hf with
    | cold c f hf htj =>
      have htj' := ldOK_congr htj fun x hx => (lj x hx).symm
      cases id he with
      | cold b e hei hti =>
        obtain ⟨h1, h2, h3⟩ := AEff.swap ok hei hf hap hma
        exact ⟨f, .cold _ _ h1 htj', ⟨f, s.mem, rfl⟩, ⟨wi f, .cold _ _ h2 (ldOK_congr hti (li f)), ni f, eff_ok ok h1 hdj'⟩, by rw [← h3]; exact hk⟩
      | read av h hc hr =>
        have h1 : AEff P s.n s.look s.mem oj c f := by
          have : AEff P s.n ((⟨av, none⟩ : Eff).on oi.dst s).look s.mem oj c f := by
            have := hf
            rw [Eff.on_n, Eff.on_mem] at this
            exact this
          exact this.cong fun x hx => (lj x hx).symm
        refine ⟨f, .cold _ _ h1 htj', ⟨f, s.mem, rfl⟩, ⟨wi f, .read av (h.congr (li f)) hc hr, ni f, eff_ok ok h1 hdj'⟩, ?_⟩
        have : f.on oj.dst ((⟨av, none⟩ : Eff).on oi.dst s) = (⟨av, none⟩ : Eff).on oi.dst (f.on oj.dst s) := Eff.on_comm _ f oi.dst oj.dst s a2 fun k cs j ds h1 _ => by cases h1
        rw [← this]; exact hk
    | read av hr hc hrd =>
      have h1 : HRead P R s.look oj av := hr.congr fun x hx => (lj x hx).symm
      refine ⟨⟨av, none⟩, .read av h1 hc hrd, ⟨⟨av, none⟩, s.mem, rfl⟩, ⟨wi _, si R _ rfl (fun _ => .refl R), ni _, ok.put fun j hj => absurd hj (hc j)⟩, ?_⟩
      rw [← cm _ rfl]; exact hk
  · right; left
    have h1 : HWr P R s.look oj f okv := hf.1.congr fun x hx => (lj x hx).symm
    refine ⟨hb, d, f, okv, hdst, ⟨h1, hf.2⟩, fun v' hv => ?_⟩
    have e1 : s.put (some d) (vC v') = (⟨vC v', none⟩ : Eff).on oj.dst s := by rw [hdst]; rfl
    have e2 : (e.on oi.dst s).put (some d) (vC v') = (⟨vC v', none⟩ : Eff).on oj.dst (e.on oi.dst s) := by rw [hdst]; rfl
    have h2 := hk v' hv
    have ok2 := putC_ok ok d v'
    rw [e2, cm _ rfl] at h2
    rw [e1] at ok2 ⊢
    exact ⟨⟨_, s.mem, rfl⟩, ⟨wi _, si (f v') _ rfl (fun hh => h1.ext (hra hh).1 v'), ni _, ok2⟩, h2⟩
  · cases hdr
  · cases hdr
  · right; right; right; right; left
    refine ⟨hb, hm, ?_⟩
    have hmi : memB oi = false := by
      cases hx : memB oi with
      | false => rfl
      | true => rw [hmb hx] at hm; cases hm
    have hem : AEff P s.n s.look s.mem oi b e ∧ ldOK (some hs) s.look oi = true := by
      cases he with
      | cold b e he ht => exact ⟨he, ht⟩
      | read av h hc hr => rw [(hra hr).2] at hm; cases hm
    have hen : e.m = none := hem.1.nom hmi
    obtain ⟨f, args, m0, R0, Post, hcok, hp, ho, hmm, hr, mo, hk⟩ := hc.ex
    refine ⟨f, args, m0, R0, Post, hcok.congr (fun x hx => (lj x hx).symm), hp, ho, fun k cs h0 => ?_, hr, mo, fun r m' R' h1 h2 h3 h4 => ?_⟩
    · obtain ⟨this, ht⟩ := hmm k cs h0
      rw [Eff.on_mem, hen] at this
      exact ⟨this, ht⟩
    · obtain ⟨f1, hK⟩ := hk r m' R' h1 h2 h3 h4
      have et : (s.over m').put oj.dst r = (⟨r, none⟩ : Eff).on oj.dst { s with mem := ovr m' s.mem } := rfl
      have es : ((e.on oi.dst s).over m').put oj.dst r = e.on oi.dst ((s.over m').put oj.dst r) := by
        have e0 : e.on oi.dst s = s.put oi.dst e.v := by unfold Eff.on; rw [hen]
        have e1 : e.on oi.dst ((s.over m').put oj.dst r) = ((s.over m').put oj.dst r).put oi.dst e.v := by unfold Eff.on; rw [hen]
        have e2 : (s.put oi.dst e.v).over m' = (s.over m').put oi.dst e.v := by cases oi.dst <;> rfl
        rw [e0, e1, e2]
        exact AS.put_comm (s.over m') e.v r a2
      have f1' : ∀ k cs', m' k = some cs' → (∃ cs, m0 k = some cs) ∨ (s.mem k = none ∧ k < s.n) := fun k cs' h0 => by
        have := f1 k cs' h0
        rw [Eff.on_mem, hen, Eff.on_n] at this
        exact this
      have hmem' : AEff P s.n s.look (ovr m' s.mem) oi b e := hem.1.nomem hmi fun ty x k off cs ho hx hk => by
        have ht := ldOK_load hem.2 ho hx
        cases hmk : m' k with
        | none => rw [ovr_r hmk]; exact hk
        | some c =>
          rcases f1' k c hmk with ⟨c0, h0⟩ | ⟨h0, _⟩
          · obtain ⟨hs0, ht0 | hu0⟩ := hmm k c0 h0
            · rw [ht0] at ht; cases ht
            · rw [ovr_l (hu0 r m' R' h1)]
              rw [Eff.on_mem, hen] at hs0
              exact hs0.symm.trans hk
          · rw [h0] at hk; cases hk
      refine ⟨fun k cs' h0 => ?_, ⟨⟨_, _, et⟩, ⟨?_, ?_, fun d hd => ?_, ok.over_put_ok h3 h2 _⟩, by rw [← es]; exact hK⟩⟩
      · exact f1' k cs' h0
      · rw [et, want_put (b := none) a3]; exact hw
      · refine .cold _ _ ?_ (ldOK_congr hem.2 fun x hx => by rw [et]; exact (Eff.on_look _ _ _ fun d hd => looks_op (a3 d hd) hx).trans (by cases x <;> rfl))
        have hl : ∀ x ∈ oi.op.operands, ((s.over m').put oj.dst r).look x = s.look x := fun x hx => by
          rw [et]
          exact (Eff.on_look _ _ _ fun d hd => looks_op (a3 d hd) hx).trans (by cases x <;> rfl)
        have hn : ((s.over m').put oj.dst r).n = s.n := by rw [AS.n_put]; rfl
        rw [hn, AS.mem_put]
        exact hmem'.cong hl
      · rw [AS.n_put]; exact hdi d hd
  · right; right; right; right; right
    refine ⟨hb, hm, ?_⟩
    have hmi : memB oi = false := by
      cases hx : memB oi with
      | false => rfl
      | true => rw [hmb hx] at hm; cases hm
    have hem : AEff P s.n s.look s.mem oi b e ∧ ldOK (some hs) s.look oi = true := by
      cases he with
      | cold b e he ht => exact ⟨he, ht⟩
      | read av h hc hr => rw [(hra hr).2] at hm; cases hm
    have hen : e.m = none := hem.1.nom hmi
    obtain ⟨f, args, m0, R0, Post, hcok, hp, ho, hmm, hr, mo, hk⟩ := hc.ex
    refine ⟨f, args, m0, R0, Post, hcok.congr (fun x hx => (lj x hx).symm), hp, ho, fun k cs h0 => ?_, hr, mo, fun r m' R' h1 h2 h3 h4 => ?_⟩
    · obtain ⟨this, ht⟩ := hmm k cs h0
      rw [Eff.on_mem, hen] at this
      exact ⟨this, ht⟩
    · obtain ⟨f1, hK⟩ := hk r m' R' h1 h2 h3 h4
      have et : (s.over m').put oj.dst r = (⟨r, none⟩ : Eff).on oj.dst { s with mem := ovr m' s.mem } := rfl
      obtain ⟨i, d, q, hdst, hq1, hqz, hq2, hq3, hK⟩ := hK
      have hq2' : ((s.over m').put oj.dst r).tmps d = some (vC q.v) := by
        rw [hdst] at hq2 ⊢
        simp only [AS.put, upd_same] at hq2 ⊢
        exact hq2
      have hn' : ((s.over m').put oj.dst r).n = s.n := by rw [AS.n_put]; rfl
      have et2 : ((s.over m').put oj.dst r).put (some d) (vS q.sz q.n q.ys) = (⟨vS q.sz q.n q.ys, none⟩ : Eff).on oj.dst { s with mem := ovr m' s.mem } := by rw [hdst, put_put]; rfl
      have es2 : (((e.on oi.dst s).over m').put oj.dst r).put (some d) (vS q.sz q.n q.ys) = e.on oi.dst (((s.over m').put oj.dst r).put (some d) (vS q.sz q.n q.ys)) := by
        have e0 : e.on oi.dst s = s.put oi.dst e.v := by unfold Eff.on; rw [hen]
        have e1 : ∀ u : AS, e.on oi.dst u = u.put oi.dst e.v := fun u => by unfold Eff.on; rw [hen]
        have e2 : (s.put oi.dst e.v).over m' = (s.over m').put oi.dst e.v := by cases oi.dst <;> rfl
        rw [e0, e1, e2, hdst, put_put, put_put]
        exact AS.put_comm (s.over m') e.v _ (by rw [← hdst]; exact a2)
      rw [es2] at hK
      have hd0 : d < s.n := hdj' d hdst
      have f1' : ∀ k cs', m' k = some cs' → (∃ cs, m0 k = some cs) ∨ (s.mem k = none ∧ k < s.n) := fun k cs' h0 => by
        have := f1 k cs' h0
        rw [Eff.on_mem, hen, Eff.on_n] at this
        exact this
      have hmem' : AEff P s.n s.look (ovr m' s.mem) oi b e := hem.1.nomem hmi fun ty x k off cs ho hx hk => by
        have ht := ldOK_load hem.2 ho hx
        cases hmk : m' k with
        | none => rw [ovr_r hmk]; exact hk
        | some c =>
          rcases f1' k c hmk with ⟨c0, h0⟩ | ⟨h0, _⟩
          · obtain ⟨hs0, ht0 | hu0⟩ := hmm k c0 h0
            · rw [ht0] at ht; cases ht
            · rw [ovr_l (hu0 r m' R' h1)]
              rw [Eff.on_mem, hen] at hs0
              exact hs0.symm.trans hk
          · rw [h0] at hk; cases hk
      refine ⟨fun k cs' h0 => ?_, i, d, q, hdst, hq1, hqz, hq2', by rw [hn']; exact hd0, ⟨⟨_, _, et2⟩, ⟨?_, ?_, fun d hd => ?_, (ok.over_put_ok h3 h2 _).put fun j hj => absurd hj (noownp _ j)⟩, hK⟩⟩
      · exact f1' k cs' h0
      · rw [et2, want_put (b := none) a3]; exact hw
      · refine .cold _ _ ?_ (ldOK_congr hem.2 fun x hx => by rw [et2]; exact (Eff.on_look _ _ _ fun d hd => looks_op (a3 d hd) hx).trans (by cases x <;> rfl))
        have hl : ∀ x ∈ oi.op.operands, (((s.over m').put oj.dst r).put (some d) (vS q.sz q.n q.ys)).look x = s.look x := fun x hx => by
          rw [et2]
          exact (Eff.on_look _ _ _ fun d hd => looks_op (a3 d hd) hx).trans (by cases x <;> rfl)
        have hn : (((s.over m').put oj.dst r).put (some d) (vS q.sz q.n q.ys)).n = s.n := by rw [AS.n_put, AS.n_put]; rfl
        rw [hn, AS.mem_put, AS.mem_put]
        exact hmem'.cong hl
      · rw [AS.n_put, AS.n_put]; exact hdi d hd
theorem hAny_first {K : Rws → AS → Prop} {i : Nat} {b : Bool} {e : Eff} (hi : ops[i]? = some oi) : ∀ (fuel : Nat) (listed : Array Bool) (R : Rws) (s : AS),
      (∀ j oj, ops[j]? = some oj → j ≠ i → listed.getD j true = false → (∀ e ∈ oj.after, Region.binds .any e = true → e.on ≠ i) → waits .any ops 4 j i = false → waits .any ops 8 j i = false → oi.apart ops oj = true ∧ SepT ops listed oi oj s ∧ (memB oi = true → hotM (some hs) oj = false)) →
      Down .any ops listed → i ∈ Region.ready .any ops listed → s.Ok → want ops oi s = some b → SEff P ops (some hs) R s oi b e → (∀ d, oi.dst = some d → d < s.n) →
      hAny P .any ops hs K fuel (listed.setIfInBounds i true) R (e.on oi.dst s) → hAny P .any ops hs K (fuel + 1) listed R s := by
  intro fuel
  induction fuel with
  | zero =>
    intro listed R s _ hdn hr ok hw he hd H
    refine ⟨fun h => (by rw [h] at hr; cases hr), fun j hj oj hoj => ?_⟩
    by_cases hji : j = i
    · subst hji; rw [hi] at hoj; cases hoj; exact ⟨b, hw, hd, .inl ⟨e, he, H⟩⟩
    · have := ready_mono hj hji
      rw [H.1] at this
      cases this
  | succ fuel ih =>
    intro listed R s hfree hdn hr ok hw he hd H
    refine ⟨fun h => (by rw [h] at hr; cases hr), fun j hj oj hoj => ?_⟩
    by_cases hji : j = i
    · subst hji; rw [hi] at hoj; cases hoj; exact ⟨b, hw, hd, .inl ⟨e, he, H⟩⟩
    · have h1 := H.2 j (ready_mono hj hji) oj hoj
      obtain ⟨hjun, oj', hoj', hall⟩ := mem_ready.1 hj
      rw [hoj] at hoj'
      cases hoj'
      have hnot : ∀ e ∈ oj.after, Region.binds .any e = true → e.on ≠ i := fun e he hb heq => by
        have h1 := hall e he hb
        have h0 := (mem_ready.1 hr).1
        rw [heq] at h1
        rcases Nat.lt_or_ge i listed.size with h' | h'
        · simp [h'] at h0 h1; rw [h0] at h1; cases h1
        · simp [Array.getElem?_eq_none h'] at h1
      have hwt : ∀ f, waits .any ops f j i = false := fun f => by
        cases hwj : waits .any ops f j i with
        | false => rfl
        | true =>
          have h1 := waits_listed hdn f j i oj hoj hall hwj
          have h0 := (mem_ready.1 hr).1
          rcases Nat.lt_or_ge i listed.size with h' | h'
          · simp [h'] at h0 h1; rw [h0] at h1; cases h1
          · simp [Array.getElem?_eq_none h'] at h1
      have hra : rdB ops hs oi.dst = true → appB oj = false ∧ hotM (some hs) oj = false := fun h => by
        unfold rdB at h
        simp only [List.all_eq_true, List.mem_range] at h
        have h1 := h i (Array.getElem?_eq_some_iff.1 hi).1
        simp only [hi, beq_self_eq_true, Bool.not_true, Bool.false_or, List.all_eq_true, List.mem_range] at h1
        have h2 := h1 j (Array.getElem?_eq_some_iff.1 hoj).1
        simp only [hoj, hwt 8, Bool.or_false, Bool.not_eq_true', Bool.or_eq_false_iff] at h2
        exact h2
      obtain ⟨g1, g2, g3⟩ := hfree j oj hoj hji hjun hnot (hwt 4) (hwt 8)
      have h2 := hOp_swap ok hw he hd g1 g2.sep hra g3 h1
      refine hOp_mono ok (fun R' t okt h3 => ?_) h2
      obtain ⟨⟨f, mm, rfl⟩, h3⟩ := h3
      have hfree' : ∀ k ok, ops[k]? = some ok → k ≠ i → (listed.setIfInBounds j true).getD k true = false →
          (∀ e ∈ ok.after, Region.binds .any e = true → e.on ≠ i) → waits .any ops 4 k i = false → waits .any ops 8 k i = false → oi.apart ops ok = true ∧ SepT ops (listed.setIfInBounds j true) oi ok (f.on oj.dst { s with mem := mm }) ∧ (memB oi = true → hotM (some hs) ok = false) := fun k ok hk hki hun hno hwk hwk8 => by
        have hun' : listed.getD k true = false := by
          by_cases hjk : j = k
          · subst hjk; exact hjun
          · rwa [getD_set_ne true hjk] at hun
        obtain ⟨q1, q2, q3⟩ := hfree k ok hk hki hun' hno hwk hwk8
        exact ⟨q1, (show SepT ops listed oi ok { s with mem := mm } from q2).on hoj hjun, q3⟩
      refine ih (listed.setIfInBounds j true) R' _ hfree' (hdn.set hj) (ready_mono hr (Ne.symm hji)) h3.1.2.2.2 h3.1.1 h3.1.2.1 h3.1.2.2.1 ?_
      rw [Array.setIfInBounds_comm _ _ hji]
      exact h3.2
theorem hAny_sound {ro : Option Nat} {K : Rws → AS → Prop} {Q : Exit → Act → World → Prop} (hQ : ∀ R' s' a' w', s'.Ok → RRel B0 A0 R' s' a' w' → K R' s' → Q .normal a' w') : ∀ (fuel : Nat) (listed : Array Bool) (R : Rws) (s : AS) (a : Act) (w : World), s.Ok → RRel B0 A0 R s a w →
    hAny P md ops hs K fuel listed R s → wpAnyIn (Wd ro) 0 P md ops Q fuel listed a w
  | 0, _, _, _, _, _, ok, hR, h => ⟨h.1, hQ _ _ _ _ ok hR h.2⟩
  | fuel + 1, listed, R, s, a, w, ok, hR, h => ⟨fun h0 => hQ _ _ _ _ ok hR (h.1 h0), fun i hi => by
      obtain ⟨h0, o, ho, _⟩ := mem_ready.1 hi
      exact hOp_sound ho ok hR (h.2 i hi o ho) fun R' s' a' w' ok' hR' hk => hAny_sound hQ fuel _ R' s' a' w' ok' hR' hk⟩
/-- the slots that no operation of the list writes hold in the end what they held. -/
theorem hList_end {K : Rws → AS → Prop} (hnh : ∀ o, hotM dr o = false) : ∀ (l : List Oper) (R : Rws) (s : AS), hList P ops dr K l R s → ∃ R' s', K R' s' ∧ ∀ t, (∀ o ∈ l, o.dst ≠ some t) → s'.tmps t = s.tmps t
  | [], R, s, h => ⟨R, s, h, fun _ _ => rfl⟩
  | o :: l, R, s, ⟨b, hw, hd, h⟩ => by
    rcases h with ⟨e, he, hK⟩ | ⟨_, d, f, okv, hdst, hf, hK⟩ | ⟨_, _, R1, hdst, hf, hK⟩ | ⟨_, _, d, f, i, g, hdst, hf, hg, hK⟩ | ⟨_, hm, _⟩ | ⟨_, hm, _⟩
    · obtain ⟨R', s', h1, h2⟩ := hList_end hnh l _ _ hK
      exact ⟨R', s', h1, fun t ht => (h2 t fun o' ho' => ht o' (by simp [ho'])).trans (Eff.on_tmps (ht o (by simp)))⟩
    · obtain ⟨v1, hv1⟩ := hf.1.out
      obtain ⟨R', s', h1, h2⟩ := hList_end hnh l _ _ (hK v1 hv1)
      refine ⟨R', s', h1, fun t ht => (h2 t fun o' ho' => ht o' (by simp [ho'])).trans ?_⟩
      have := ht o (by simp)
      rw [hdst] at this
      exact Eff.on_tmps (e := ⟨vC v1, none⟩) this
    · obtain ⟨R', s', h1, h2⟩ := hList_end hnh l _ _ hK
      exact ⟨R', s', h1, fun t ht => h2 t fun o' ho' => ht o' (by simp [ho'])⟩
    · obtain ⟨R', s', h1, h2⟩ := hList_end hnh l _ _ (hK (.bool false) rfl)
      refine ⟨R', s', h1, fun t ht => (h2 t fun o' ho' => ht o' (by simp [ho'])).trans ?_⟩
      have := ht o (by simp)
      rw [hdst] at this
      exact Eff.on_tmps (e := ⟨vS (g (.bool false)).sz (g (.bool false)).n (g (.bool false)).ys, none⟩) this
    · rw [hnh o] at hm; cases hm
    · rw [hnh o] at hm; cases hm
def hotFree (ops : Array Oper) (hs : List Nat) (listed : Array Bool) (i : Nat) : Bool := (List.range ops.size).all fun j => Nat.beq j i || listed.getD j true || match ops[j]? with
  | some oj => !hotM (some hs) oj || waits .any ops 8 j i
  | none => true
def lexH (ops : Array Oper) (prs : List (Nat × Nat)) (hs : List Nat) : List Nat → Array Bool → Bool
  | [], listed => (Region.ready .any ops listed).isEmpty
  | k :: ord, listed => (bif (match ops[k]? with | some o => (hotB o && !cldM (some hs) o) || hotM (some hs) o | none => true) then Region.ready .any ops listed == [k] else (Region.ready .any ops listed).contains k && Region.free .any ops listed k && memFree .any ops prs listed k && (!(match ops[k]? with | some o => memB o | none => true) || hotFree ops hs listed k)) && lexH ops prs hs ord (listed.setIfInBounds k true)
theorem HWr.hot {look : Operand → Option AV} {f : Value → Rws} {okv : Value → Prop} (h : HWr P R look o f okv) : hotB o = true := by
  cases h with
  | app i r tt bytes m sx xx news hi ho => simp [hotB, ho]
  | copy i r tt t2 m lo hi x y news hi' hsz ho => simp [hotB, ho]
  | new i t n e sz bytes parts vs zs r hi ho => simp [hotB, ho]
  | make i t l c e sz bytes x y kl kc vs hi ho => simp [hotB, ho]
theorem hAny_lex {K : Rws → AS → Prop} {prs : List (Nat × Nat)} (hne0 : prs = [] ∨ hs = []) : ∀ (ord : List Nat) (l : List Oper) (listed : Array Bool) (R : Rws) (s : AS), l.length = ord.length → (∀ (j : Nat), l[j]? = (ord[j]?).bind (ops[·]?)) → (∀ k ∈ ord, listed.getD k true = false) → (∀ k, k < ops.size → listed.getD k true = false → k ∈ ord) → ord.Nodup → Down .any ops listed → s.Ok →
    lexH ops prs hs ord listed = true → hList P ops (some hs) (fun R s => prs.all (sepB s) = true ∧ K R s) l R s → hAny P .any ops hs K l.length listed R s
  | [], [], _, _, _, _, _, _, _, _, _, _, hB, h => ⟨by simpa [lexH] using hB, h.2⟩
  | [], _ :: _, _, _, _, hlen, _, _, _, _, _, _, _, _ => by cases hlen
  | _ :: _, [], _, _, _, hlen, _, _, _, _, _, _, _, _ => by cases hlen
  | k :: ord, o :: l, listed, R, s, hlen, hl, hun, hcov, hnd, hdn, ok, hB, h => by
    have h0 : ops[k]? = some o := by simpa using (hl 0).symm
    have hend := fun hnh => hList_end (dr := some hs) hnh _ _ _ h
    simp only [lexH, h0, Bool.and_eq_true] at hB
    obtain ⟨hk, hB'⟩ := hB
    rw [List.nodup_cons] at hnd
    have hne : ∀ q ∈ ord, k ≠ q := fun q hq e => hnd.1 (by rw [e]; exact hq)
    have ih : ∀ R' s', s'.Ok → k ∈ Region.ready .any ops listed → hList P ops (some hs) (fun R s => prs.all (sepB s) = true ∧ K R s) l R' s' → hAny P .any ops hs K l.length (listed.setIfInBounds k true) R' s' := fun R' s' ok' hr hh => by
      refine hAny_lex hne0 ord l _ R' s' (by simpa using hlen) (fun j => by simpa using hl (j + 1)) (fun q hq => by rw [getD_set_ne true (hne q hq)]; exact hun q (by simp [hq])) (fun q hq hlq => ?_) hnd.2 (hdn.set hr) ok' hB' hh
      by_cases e' : k = q
      · subst e'
        have : k < listed.size := by
          have := hun k (by simp)
          rcases Nat.lt_or_ge k listed.size with h' | h'
          · exact h'
          · simp [Array.getElem?_eq_none h'] at this
        simp [this] at hlq
      · rw [getD_set_ne true e'] at hlq
        rcases List.mem_cons.1 (hcov q hq hlq) with h' | h'
        · exact absurd h'.symm e'
        · exact h'
    cases hh : ((hotB o && !cldM (some hs) o) || hotM (some hs) o) with
    | true =>
      rw [hh] at hk
      simp only [cond_true, beq_iff_eq] at hk
      have hr : k ∈ Region.ready .any ops listed := by rw [hk]; simp
      refine ⟨fun h1 => (by rw [hk] at h1; cases h1), fun i hi oi hoi => ?_⟩
      rw [hk] at hi
      obtain rfl : i = k := by simpa using hi
      rw [h0] at hoi
      cases hoi
      exact hOp_mono ok (fun R' s' ok' hh => ih R' s' ok' hr hh) h
    | false =>
      rw [hh] at hk
      simp only [cond_false, Bool.and_eq_true] at hk
      obtain ⟨⟨⟨hr, hf⟩, hm⟩, hmh⟩ := hk
      rw [Bool.or_eq_false_iff] at hh
      have hr' : k ∈ Region.ready .any ops listed := by simpa using hr
      obtain ⟨b, hw, hd, h1⟩ := h
      rcases h1 with ⟨e, he, hK⟩ | ⟨_, d, f, okv, hdst, hf', _⟩ | ⟨_, hdr, _⟩ | ⟨_, hdr, _⟩ | ⟨_, hm', _⟩ | ⟨_, hm', _⟩
      · have hsp : ∀ p ∈ prs, noWrite ops listed p.1 = true → noWrite ops listed p.2 = true → sepB s p = true := fun p hp n1 n2 => by
          have hs0 : hs = [] := by
            rcases hne0 with h0 | h0
            · rw [h0] at hp; cases hp
            · exact h0
          obtain ⟨R', s', ⟨h1, _⟩, h2⟩ := hend fun o => by rw [hs0]; simp [hotM]
          have nw : ∀ t, noWrite ops listed t = true → ∀ o' ∈ o :: l, o'.dst ≠ some t := fun t ht o' ho' => by
            obtain ⟨j, hj⟩ := List.getElem?_of_mem ho'
            rw [hl j] at hj
            cases hq : (k :: ord)[j]? with
            | none => rw [hq] at hj; cases hj
            | some q => rw [hq] at hj; exact noWrite_spec ht q o' hj (hun _ (List.mem_of_getElem? hq))
          have := List.all_eq_true.1 h1 p hp
          unfold sepB at this ⊢
          rw [h2 p.1 (nw _ n1), h2 p.2 (nw _ n2)] at this
          exact this
        refine hAny_first h0 l.length listed R s (fun j oj h1 h2 h3 h4 h5 h6 => ⟨Region.free_spec h0 hf j oj h1 h2 h3 h4, memFree_spec h0 hm hsp j oj h1 h2 h3 h5, fun hmb => ?_⟩) hdn hr' ok hw he hd ?_
        · rw [hmb] at hmh
          simp only [Bool.not_true, Bool.false_or] at hmh
          unfold hotFree at hmh
          simp only [List.all_eq_true, List.mem_range] at hmh
          have q := hmh j (Array.getElem?_eq_some_iff.1 h1).1
          simp only [h1, h3, h6, Bool.or_false, Bool.or_eq_true, Bool.not_eq_true'] at q
          rcases q with q | q
          · exact absurd (Nat.eq_of_beq_eq_true q) h2
          · exact q
        exact ih _ _ (he.ok ok hd) hr' hK
      · rw [hf'.1.hot, hf'.2] at hh; cases hh.1
      · cases hdr
      · cases hdr
      · rw [hh.2] at hm'; cases hm'
      · rw [hh.2] at hm'; cases hm'
/-- what holds of a piece of code, over states with rows. -/
def RWp (P : Program) (c : Code) (Q : Exit → Rws → AS → Prop) (R : Rws) (s : AS) : Prop :=
  s.Ok → ∀ B0 A0 a w, RRel B0 A0 R s a w → wR P c (fun x a' w' => ∃ R' s', s'.Ok ∧ RRel B0 A0 R' s' a' w' ∧ Q x R' s') a w
def rdrawB (l : List Oper) (ord hs : List Nat) : Bool := ((needPrs l.toArray ord).isEmpty || hs.isEmpty) && Nat.beq ord.length l.length && ndB ord && (List.range l.length).all (fun i => ord.contains i) && ord.all (fun i => Nat.blt i l.length) && lexH l.toArray (needPrs l.toArray ord) hs ord (Array.replicate l.length false)
variable {Q : Exit → Rws → AS → Prop} {x y c : Code}
theorem rwp_drawH (ord hs : List Nat) {id : Nat} {l l' : List Oper} (hB : rdrawB l ord hs = true) (hm : P.follows .mixedOrders = true) (hl : getAll l ord = some l')
    (h : hList P l.toArray (some hs) (fun R s => (needPrs l.toArray ord).all (sepB s) = true ∧ Q .normal R s) l' R s) : RWp P (.region id l.toArray true) Q R s := by
  intro ok B0 A0 a w hR
  refine wR_region_any hm fun ro => ?_
  unfold rdrawB at hB
  simp only [Bool.and_eq_true, List.all_eq_true, List.mem_range, List.contains_eq_mem, decide_eq_true_eq] at hB
  obtain ⟨⟨⟨⟨⟨bh, b0⟩, b1⟩, b2⟩, b3⟩, b4⟩ := hB
  obtain ⟨g1, g2⟩ := getAll_spec _ _ hl
  obtain ⟨A, ρ, hR⟩ := hR
  have hd : RR B0 A0 R s a { w with drawn := w.drawn + 1 } A ρ := hR.next (hR.rel.call ((Below.refl _ w).drew))
  refine hAny_sound (K := Q .normal) (hs := hs) (fun R' s' a' w' ok' hR' hk => ⟨R', s', ok', hR', hk⟩) _ _ R s a _ ok ⟨A, ρ, hd⟩ ?_
  have nd := ndB_spec _ b1
  have hlen : ord.length = l.length := Nat.eq_of_beq_eq_true b0
  have := hAny_lex (ops := l.toArray) (hs := hs) (by simpa [Bool.or_eq_true, List.isEmpty_iff] using bh) ord l' (Array.replicate l.length false) R s g1 (by simpa using g2) (fun q hq => by have := b3 q hq; simp [Nat.blt_eq] at this; simp [this]) (fun q hq _ => b2 q (by simpa using hq)) nd (fun k o hk => by exfalso; rcases Nat.lt_or_ge k l.length with q | q <;> simp [Array.getElem?_replicate, q] at hk) ok b4 h
  rw [g1, hlen] at this
  simpa using this
theorem rwp_draw (ord : List Nat) {id : Nat} {l l' : List Oper} (hB : rdrawB l ord [] = true) (hm : P.follows .mixedOrders = true) (hl : getAll l ord = some l')
    (h : hList P l.toArray (some []) (fun R s => (needPrs l.toArray ord).all (sepB s) = true ∧ Q .normal R s) l' R s) : RWp P (.region id l.toArray true) Q R s := rwp_drawH ord [] hB hm hl h
theorem hList_sound {ro : Option Nat} {K : Rws → AS → Prop} {Q : Exit → Act → World → Prop} (hQ : ∀ R' s' a' w', s'.Ok → RRel B0 A0 R' s' a' w' → K R' s' → Q .normal a' w') : ∀ (l : List Oper) (k : Nat) (R : Rws) (s : AS) (a : Act) (w : World), (∀ (j : Nat), l[j]? = ops[k + j]?) → s.Ok → RRel B0 A0 R s a w →
    hList P ops dr K l R s → wpOpsIn (Wd ro) 0 P ops Q ((List.range l.length).map (k + ·)) a w
  | [], _, _, _, _, _, _, ok, hR, h => hQ _ _ _ _ ok hR h
  | o :: l, k, R, s, a, w, hl, ok, hR, h => by
    have h0 : ops[k]? = some o := by simpa using (hl 0).symm
    have e : (List.range (o :: l).length).map (k + ·) = k :: (List.range l.length).map (k + 1 + ·) := by
      rw [List.length_cons, List.range_succ_eq_map, List.map_cons, List.map_map]
      congr 1
      apply List.map_congr_left
      intro j _
      simp [Nat.add_assoc, Nat.add_comm 1 j]
    rw [e, wpOpsIn_cons]
    refine hOp_sound h0 ok hR h fun R' s' a' w' ok' hR' hk => hList_sound hQ l (k + 1) R' s' a' w' (fun j => by have := hl (j + 1); simpa [Nat.add_assoc, Nat.add_comm 1 j] using this) ok' hR' hk
theorem rwp_region {id : Nat} {l : List Oper} (h : hList P l.toArray none (Q .normal) l R s) : RWp P (.region id l.toArray false) Q R s := by
  intro ok B0 A0 a w hR
  refine wR_region fun ro => ?_
  have := hList_sound (ro := ro) (ops := l.toArray) (K := Q .normal) (Q := fun e a' w' => ∃ R' s', s'.Ok ∧ RRel B0 A0 R' s' a' w' ∧ Q e R' s') (fun R' s' a' w' ok' hR' hk => ⟨R', s', ok', hR', hk⟩) l 0 R s a w (by simp) ok hR h
  simpa using this
def rthen (next : Rws → AS → Prop) (Q : Exit → Rws → AS → Prop) : Exit → Rws → AS → Prop
  | .normal, R, s => next R s
  | e, R, s => Q e R s
def rblock (id : Nat) (Q : Exit → Rws → AS → Prop) : Exit → Rws → AS → Prop
  | .exit id', R, s => bif Nat.beq id' id then Q .normal R s else Q (.exit id') R s
  | e, R, s => Q e R s
theorem rwp_seq (h : RWp P x (rthen (fun R s => RWp P y Q R s) Q) R s) : RWp P (.seq x y) Q R s := by
  intro ok B0 A0 a w hH
  refine wR_seq (wR_mono (h ok B0 A0 a w hH) ?_)
  rintro x a' w' ⟨R', s', ok', hH', hq⟩
  cases x <;> first | exact hq ok' B0 A0 a' w' hH' | exact ⟨R', s', ok', hH', hq⟩
theorem rwp_skip (h : Q .normal R s) : RWp P .skip Q R s := fun ok B0 A0 a w hR => wR_skip ⟨R, s, ok, hR, h⟩
theorem rwp_exit {id : Nat} (h : Q (.exit id) R s) : RWp P (.exit id) Q R s := fun ok B0 A0 a w hR => wR_exit ⟨R, s, ok, hR, h⟩
theorem rwp_ret (h : Q .ret R s) : RWp P .ret Q R s := fun ok B0 A0 a w hR => wR_ret ⟨R, s, ok, hR, h⟩
theorem rwp_block {id : Nat} (h : RWp P x (rblock id Q) R s) : RWp P (.block id x) Q R s := by
  intro ok B0 A0 a w hH
  refine wR_block (wR_mono (h ok B0 A0 a w hH) ?_)
  rintro x a' w' ⟨R', s', ok', hH', hq⟩
  cases x with
  | exit id' =>
    simp only [Exit.inBlock]
    simp only [rblock] at hq
    cases hb : Nat.beq id' id with
    | true => rw [hb] at hq; rw [if_pos (Nat.eq_of_beq_eq_true hb)]; exact ⟨R', s', ok', hH', hq⟩
    | false =>
      rw [hb] at hq
      have : id' ≠ id := fun e => by subst e; rw [Nat.beq_refl] at hb; cases hb
      rw [if_neg this]; exact ⟨R', s', ok', hH', hq⟩
  | _ => exact ⟨R', s', ok', hH', hq⟩
theorem rwp_cond {c : Operand} {b : Bool} (hc : s.look c = some (vB b)) (h1 : b = true → RWp P x Q R s) (h0 : b = false → RWp P y Q R s) : RWp P (.cond c x y) Q R s := by
  rintro ok B0 A0 a w ⟨A, ρ, hR⟩
  have hv : a.eval c = .bool b := (hR.rel.look hc).1
  refine wR_cond hv ?_
  cases b with
  | true => exact h1 rfl ok B0 A0 a w ⟨A, ρ, hR⟩
  | false => exact h0 rfl ok B0 A0 a w ⟨A, ρ, hR⟩
theorem rwp_cond_1 {c : Operand} {b : Bool} (hc : s.look c = some (vB b)) (hb : b = true) (h1 : RWp P x Q R s) : RWp P (.cond c x y) Q R s := rwp_cond hc (fun _ => h1) fun e => by rw [hb] at e; cases e
theorem rwp_cond_0 {c : Operand} {b : Bool} (hc : s.look c = some (vB b)) (hb : b = false) (h0 : RWp P y Q R s) : RWp P (.cond c x y) Q R s := rwp_cond hc (fun e => by rw [hb] at e; cases e) fun _ => h0
theorem rwp_loopL (N : Nat) (I : Nat → Rws → List (Nat × AV) → List (Nat × List AC) → Prop) (k : Nat) (R0 : Rws) (ts : List (Nat × AV)) (ms : List (Nat × List AC)) (hI : I k R0 ts ms) (hl : RLe R0 R) (hn : N = s.n) (ht : allT s.tmps ts) (hm : allT s.mem ms) (hok : okB ts ms = true)
    (round : ∀ k R ts ms, I k R ts ms → okB ts ms = true → RWp P x (rthen (fun R' s' => ∃ k' R'' ts' ms', k' < k ∧ I k' R'' ts' ms' ∧ RLe R'' R' ∧ N = s'.n ∧ allT s'.tmps ts' ∧ allT s'.mem ms' ∧ okB ts' ms' = true) Q) R (mkS N ts ms)) : RWp P (.loop x) Q R s := by
  rintro ok B0 A0 a w ⟨A, ρ, hR⟩
  refine wR_loop_n (fun k a w => ∃ R ts ms, I k R ts ms ∧ okB ts ms = true ∧ RRel B0 A0 R (mkS N ts ms) a w) (n := k) ⟨R0, ts, ms, hI, hok, A, ρ, (hR.le hl).les (mkS_le hn ht hm)⟩ ?_
  rintro k a w ⟨R, ts, ms, hI, ok, hH⟩
  refine wR_mono (round k R ts ms hI ok (mkS_ok ok) B0 A0 a w hH) ?_
  rintro x a' w' ⟨R', s', ok', ⟨A', ρ', hH'⟩, hq⟩
  cases x with
  | normal =>
    obtain ⟨k', R'', ts', ms', h1, h2, h3, h4, h5, h6, h7⟩ := hq
    exact ⟨k', h1, R'', ts', ms', h2, h7, A', ρ', (hH'.le h3).les (mkS_le h4 h5 h6)⟩
  | _ => exact ⟨R', s', ok', ⟨A', ρ', hH'⟩, hq⟩
/-- code that begins with no rows; those that are left in the end are forgotten. -/
theorem awp_rows {Q : Exit → AS → Prop} (h : RWp P c (fun x R' s' => Q x s') noRows s) : AWp P c Q s := by
  intro ok B A ρ a w hR
  have hH : RR B A noRows s a w A ρ := ⟨hR.up, fun _ h => h, hR.hot fun b h => hR.up b (Nat.le_trans hR.below.size h), fun k cs hk => (hR.mm k cs hk).choose_spec.choose_spec.2.2, hR.below, fun i r hi => (by cases hi), fun i j r q hi => (by cases hi), fun i r g hi => (by cases hi), hR.anch⟩
  refine wR_mono (h ok B A a w ⟨A, ρ, hH⟩) ?_
  rintro x a' w' ⟨R', s', ok', ⟨A1, ρ1, h1⟩, hq⟩
  exact ⟨s', ρ1, ok', h1.rel.anew (fun b hb _ => ⟨h1.sub b hb, rfl⟩) (fun k cs hk => ⟨rfl, h1.mine k cs hk⟩) h1.below hR.up h1.anch, hq⟩
/-- a row that has nothing yet. -/
theorem rwp_nil (i e sz : Nat) (hi : R i = none) (h : RWp P c Q (upd R i ⟨e, sz, .slice none 0 0, 0, []⟩) s) (hsz : 0 < sz := by decide) : RWp P c Q R s := by
  rintro ok B0 A0 a w ⟨A, ρ, hR⟩
  have hno : ∀ g, ¬ (⟨e, sz, .slice none 0 0, 0, []⟩ : HRow).own g := fun g hg => by have := HRow.own_row hg hsz; cases this
  refine h ok B0 A0 a w ⟨A, ρ, hR.up, hR.sub, hR.rel, hR.mine, hR.below, fun j r hj => ?_, fun j k r q hj hk hjk g hg => ?_, fun j r g hj hg => ?_, hR.anch⟩
  · by_cases e' : j = i
    · subst e'
      rw [upd_same] at hj
      cases hj
      exact ⟨.inl ⟨hsz, [], World.ownsRow_nil w 0 e sz, rfl, fun i x v hx => by simp at hx⟩, fun y hy => (by cases hy), fun g hg => absurd hg (hno g)⟩
    · rw [upd_ne _ _ e'] at hj; exact hR.rows j r hj
  · by_cases e1 : j = i
    · subst e1; rw [upd_same] at hj; cases hj; exact absurd hg (hno g)
    · rw [upd_ne _ _ e1] at hj
      by_cases e2 : k = i
      · subst e2; rw [upd_same] at hk; cases hk; exact hno g
      · rw [upd_ne _ _ e2] at hk; exact hR.apart j k r q hj hk hjk g hg
  · by_cases e1 : j = i
    · subst e1; rw [upd_same] at hj; cases hj; exact absurd hg (hno g)
    · rw [upd_ne _ _ e1] at hj; exact hR.hot j r g hj hg
theorem rwp_cool (i d : Nat) (r : HRow) (hi : R i = some r) (hd : s.tmps d = some (vC r.v)) (h : RWp P c Q (fun j => if j = i then none else R j) (s.put (some d) (vS r.sz r.n r.ys))) (hsz : 0 < r.sz := by first | decide | exact Nat.zero_lt_succ _) : RWp P c Q R s := by
  rintro ok B0 A0 a w ⟨A, ρ, hR⟩
  have hdn : d < s.n := by
    obtain ⟨v, h1, _⟩ := hR.rel.tm d _ hd
    rw [← hR.rel.size]
    exact (Array.getElem?_eq_some_iff.1 h1).1
  obtain ⟨A', hR4⟩ := hR.cool i d r hi hsz hd hdn
  exact h (ok.put fun j hj => absurd hj (noownp _ j)) B0 A0 a w ⟨A', ρ, hR4⟩
/-- a run of operations that leave the rows alone; reading; growing. -/
theorem hs_c {K : Rws → AS → Prop} {rest : List Oper} (ht : ldOK dr s.look o = true) (h : aList P ops (fun s' => hList P ops dr K rest R s') [o] s) : hList P ops dr K (o :: rest) R s := by
  obtain ⟨b, hw, e, he, hd, hk⟩ := h
  exact ⟨b, hw, hd, .inl ⟨e, .cold b e he ht, hk⟩⟩
theorem hs_nil {K : Rws → AS → Prop} (h : K R s) : hList P ops dr K [] R s := h
theorem hs_nilS {K : Rws → AS → Prop} {prs : List (Nat × Nat)} (hs : prs.all (sepB s) = true) (h : K R s) : hList P ops dr (fun R s => prs.all (sepB s) = true ∧ K R s) [] R s := ⟨hs, h⟩
variable {d ty : Nat} {pos : String} {after : Array Edge} {guard : Option (Nat × Bool)} {K : Rws → AS → Prop} {rest : List Oper}
theorem hs_read {op : Op} {av : AV} (hw : want ops ⟨some d, op, ty, pos, after, guard⟩ s = some true) (hq : HRead P R s.look ⟨some d, op, ty, pos, after, guard⟩ av) (hc : av.closedB = true) (hr : rdD ops dr (some d) = true) (hd : Nat.blt d s.n = true) (h : hList P ops dr K rest R (s.put (some d) av)) : hList P ops dr K (⟨some d, op, ty, pos, after, guard⟩ :: rest) R s :=
  ⟨true, hw, dst_ok hd, .inl ⟨⟨av, none⟩, .read av hq (AV.closed_of hc) hr, h⟩⟩
theorem hs_len {x : Operand} {t z : Nat} {r : HRow} (i : Nat) [S : SliOf P t z] (hi : R i = some r) (hw : want ops ⟨some d, .call ⟨.builtin .len, #[x], #[t]⟩, ty, pos, after, guard⟩ s = some true) (hx : s.look x = some (vC r.v)) (hsz : Nat.blt 0 r.sz = true) (hr : rdD ops dr (some d) = true) (hd : Nat.blt d s.n = true) (h : hList P ops dr K rest R (s.put (some d) (vI r.n))) : hList P ops dr K (⟨some d, .call ⟨.builtin .len, #[x], #[t]⟩, ty, pos, after, guard⟩ :: rest) R s :=
  hs_read hw (.len i r t z x hi (by simpa [Nat.blt_eq] using hsz) rfl hx S.h) rfl hr hd h
theorem hs_idx {x y : Operand} {t z : Nat} {r : HRow} {ik : IntKind} {j : Int} (i : Nat) [S : SliOf P t z] (hi : R i = some r) (hw : want ops ⟨some d, .indexAddr t x y, ty, pos, after, guard⟩ s = some true) (hx : s.look x = some (vC r.v)) (hy : s.look y = some (vC (.int ik j))) (h0 : 0 ≤ j) (h1 : j < r.n) (hz : z = r.sz) (hr : rdD ops dr (some d) = true) (hd : Nat.blt d s.n = true) (h : hList P ops dr K rest R (s.put (some d) (vC (rowPtr r.v (j.toNat * z))))) : hList P ops dr K (⟨some d, .indexAddr t x y, ty, pos, after, guard⟩ :: rest) R s := by
  subst hz
  exact hs_read hw (.idx i r t x y ik j hi rfl hx hy h0 h1 S.h) rfl hr hd h
theorem hs_app {tt bytes m : Nat} {r : HRow} {sx xx : Operand} {news : List AC} (i : Nat) (hi : R i = some r) [T : RowTy P tt r.e r.sz bytes] (hw : want ops ⟨some d, .call ⟨.builtin .append, #[sx, xx], #[tt, tt]⟩, ty, pos, after, guard⟩ s = some true) (hx : s.look sx = some (vC r.v)) (hy : s.look xx = some (vS r.sz m news)) (h0 : 0 < m ∨ 0 < r.n) (h1 : r.n + m ≤ maxLen) (h2 : (r.n + m) * bytes ≤ 140737488355328) (hc : news.all AC.closedB = true) (hd : Nat.blt d s.n = true)
    (h : ∀ v', v'.oneCell' = true → hList P ops dr K rest (upd R i ⟨r.e, r.sz, v', r.n + m, r.ys ++ news⟩) (s.put (some d) (vC v'))) (hcd : cldM dr ⟨some d, .call ⟨.builtin .append, #[sx, xx], #[tt, tt]⟩, ty, pos, after, guard⟩ = false := by exact rfl) : hList P ops dr K (⟨some d, .call ⟨.builtin .append, #[sx, xx], #[tt, tt]⟩, ty, pos, after, guard⟩ :: rest) R s :=
  ⟨true, hw, dst_ok hd, .inr (.inl ⟨rfl, d, _, _, rfl, ⟨.app i r tt bytes m sx xx news hi rfl T.h hx hy h1 h2 (List.all_eq_true.1 hc), hcd⟩, h⟩)⟩
/-- as hs_app, where nothing may come behind nothing. -/
theorem hs_app0 {tt bytes m : Nat} {r : HRow} {sx xx : Operand} {news : List AC} (i : Nat) (hi : R i = some r) [T : RowTy P tt r.e r.sz bytes] (hw : want ops ⟨some d, .call ⟨.builtin .append, #[sx, xx], #[tt, tt]⟩, ty, pos, after, guard⟩ s = some true) (hx : s.look sx = some (vC r.v)) (hy : s.look xx = some (vS r.sz m news)) (h1 : r.n + m ≤ maxLen) (h2 : (r.n + m) * bytes ≤ 140737488355328) (hc : news.all AC.closedB = true) (hd : Nat.blt d s.n = true)
    (h : ∀ v', v'.oneCell' = true → hList P ops dr K rest (upd R i ⟨r.e, r.sz, v', r.n + m, r.ys ++ news⟩) (s.put (some d) (vC v'))) (hcd : cldM dr ⟨some d, .call ⟨.builtin .append, #[sx, xx], #[tt, tt]⟩, ty, pos, after, guard⟩ = false := by exact rfl) : hList P ops dr K (⟨some d, .call ⟨.builtin .append, #[sx, xx], #[tt, tt]⟩, ty, pos, after, guard⟩ :: rest) R s :=
  ⟨true, hw, dst_ok hd, .inr (.inl ⟨rfl, d, _, _, rfl, ⟨.app i r tt bytes m sx xx news hi rfl T.h hx hy h1 h2 (List.all_eq_true.1 hc), hcd⟩, h⟩)⟩
/-- []T{}: nothing is written down yet. -/
theorem hs_new0 {t e sz bytes : Nat} {vs : List Value} (i : Nat) (hi : R i = none) [T : RowTy P t e sz bytes] [Z : SliZ P t vs] (hw : want ops ⟨some d, .buildSlice t 0 #[], ty, pos, after, guard⟩ s = some true)
    (h1 : (vs.all fun v => v.oneCell') = true) (hs : Nat.beq vs.length sz = true) (hd : Nat.blt d s.n = true)
    (h : ∀ v', v'.oneCell' = true → hList P ops dr K rest (upd R i ⟨e, sz, v', 0, []⟩) (s.put (some d) (vC v'))) (hcd : cldM dr ⟨some d, .buildSlice t 0 #[], ty, pos, after, guard⟩ = false := by exact rfl) : hList P ops dr K (⟨some d, .buildSlice t 0 #[], ty, pos, after, guard⟩ :: rest) R s :=
  ⟨true, hw, dst_ok hd, .inr (.inl ⟨rfl, d, _, _, rfl, ⟨.new i t 0 e sz bytes [] vs [] [] hi rfl T.h Z.h rfl (by simp [zeroN, buildN]) h1 (Nat.eq_of_beq_eq_true hs) (by simp) (Nat.zero_le _) (by simp) (fun y hy => by cases hy), hcd⟩, h⟩)⟩
/-- r[j] = y, where the order is the text's. -/
theorem hs_store {x y : Operand} {st off : Nat} {r : HRow} {z : AW} {ti : TypeInfo} (i : Nat) (hi : R i = some r) (hw : want ops ⟨none, .store st x y, ty, pos, after, guard⟩ s = some true) (hx : s.look x = some (vC (rowPtr r.v off))) (hy : s.look y = some (.w z)) (hn : 0 < r.n) (ht : P.info? st = some ti) (hs : ti.size = z.cells.length) (hb : off + z.cells.length ≤ r.ys.length) (hc : z.cells.all AC.closedB = true)
    (h : hList P ops none K rest (upd R i ⟨r.e, r.sz, r.v, r.n, splice r.ys off z.cells⟩) s) : hList P ops none K (⟨none, .store st x y, ty, pos, after, guard⟩ :: rest) R s :=
  ⟨true, hw, (fun d hd => by cases hd), .inr (.inr (.inl ⟨rfl, rfl, _, rfl, .store i r off st x y z ti hi hn rfl hx hy ht hs hb (List.all_eq_true.1 hc), h⟩))⟩
theorem hs_load1 {x : Operand} {lt off : Nat} {r : HRow} {c1 : AC} (i : Nat) [T : TyOf P lt false 1] (hi : R i = some r) (hw : want ops ⟨some d, .load lt x, ty, pos, after, guard⟩ s = some true) (hx : s.look x = some (vC (rowPtr r.v off))) (hn : 0 < r.n) (hz : r.ys[off]? = some c1) (hc : (AV.w (.one c1)).closedB = true) (hr : rdD ops dr (some d) = true) (hd : Nat.blt d s.n = true) (h : hList P ops dr K rest R (s.put (some d) (.w (.one c1)))) : hList P ops dr K (⟨some d, .load lt x, ty, pos, after, guard⟩ :: rest) R s :=
  hs_read hw (.load i r off lt x _ hi hn rfl hx (by
    have hT := T.h
    unfold tyOf at hT
    unfold pick
    cases hu : P.underlying lt with
    | none => rw [hu] at hT; cases hT
    | some D =>
      cases hii : P.info? lt with
      | none => rw [hu, hii] at hT; cases D <;> simp at hT <;> simp [hz]
      | some ti =>
        rw [hu, hii] at hT
        cases D <;> simp at hT <;> simp [hz])) hc hr hd h
theorem rthen_normal {next : Rws → AS → Prop} (h : next R s) : rthen next Q .normal R s := h
theorem rthen_exit {next : Rws → AS → Prop} {i : Nat} (h : Q (.exit i) R s) : rthen next Q (.exit i) R s := h
theorem rthen_ret {next : Rws → AS → Prop} (h : Q .ret R s) : rthen next Q .ret R s := h
theorem rblock_normal {i : Nat} (h : Q .normal R s) : rblock i Q .normal R s := h
theorem rblock_ret {i : Nat} (h : Q .ret R s) : rblock i Q .ret R s := h
theorem rblock_same {i : Nat} (h : Q .normal R s) : rblock i Q (.exit i) R s := by simp only [rblock, Nat.beq_refl, cond_true]; exact h
end
end Go.Proofs.Ytlfkllmnekdghaa

namespace Go.Proofs.Ytlfkllmnekdghaa
open Go.RowKit
set_option linter.unusedVariables false
set_option linter.unusedSimpArgs false
def mem1 (k : Nat) (cs : List AC) : Mem := upd noMem k cs
theorem mem1_iff {k j : Nat} {cs ds : List AC} (h : mem1 k cs j = some ds) : j = k ∧ ds = cs := by
  unfold mem1 at h
  by_cases e : j = k
  · subst e; rw [upd_same] at h; exact ⟨rfl, (Option.some.inj h).symm⟩
  · rw [upd_ne _ _ e] at h; cases h
theorem row1_iff {k j : Nat} {r q : HRow} (h : row1 k r j = some q) : j = k ∧ q = r := by
  unfold row1 at h
  by_cases e : j = k
  · subst e; rw [upd_same] at h; exact ⟨rfl, (Option.some.inj h).symm⟩
  · rw [upd_ne _ _ e] at h; cases h
theorem ovr_upd {α : Type} (f : Nat → Option α) (k : Nat) (x : α) : ovr (upd (fun _ => none) k x) f = upd f k x := by
  funext j
  by_cases e : j = k
  · subst e; rw [upd_same]; exact ovr_l (upd_same _ _ _)
  · rw [upd_ne _ _ e]; exact ovr_r (upd_ne _ _ e)
theorem ovr_none {α : Type} (f : Nat → Option α) : ovr (fun _ => none) f = f := by funext j; exact ovr_r rfl
/-- the state in which a function begins that is handed blocks. -/
def startM (n : Nat) (args : List AV) (m : Mem) : AS := ⟨n, fun t => args[t]?, m⟩
def hfin (P : Program) (fn : Func) (m0 : Mem) (R0 : Rws) (Post : AV → Mem → Rws → Prop) (R : Rws) (s : AS) : Prop :=
  ∃ xs r m' R', fn.results.toList.map (resOf P s) = xs.map some ∧ (packed xs).Le r ∧ Post r m' R' ∧ (∀ k cs, m' k = some cs → s.mem k = some cs) ∧ RLe R' R ∧ (∀ j, r.owns j → ∃ cs, m' j = some cs) ∧ (∀ k cs x j, m' k = some cs → x ∈ cs → x.owns j → ∃ cs', m' j = some cs') ∧ (∀ k cs, m0 k = some cs → ∃ cs', m' k = some cs') ∧ ∀ i r, R0 i = some r → ∃ r', R' i = some r'
def hpost (P : Program) (fn : Func) (m0 : Mem) (R0 : Rws) (Post : AV → Mem → Rws → Prop) : Exit → Rws → AS → Prop
  | .normal, R, s | .ret, R, s => hfin P fn m0 R0 Post R s
  | _, _, _ => False
section
variable {P : Program}
theorem hcall_of_body {f : FuncId} {fn : Func} {c : Code} {args : List AV} {m0 : Mem} {R0 : Rws} {Post : AV → Mem → Rws → Prop} (hf : P.funcs[f]? = some fn) (hb : fn.body = some c) (hn : args.length ≤ fn.ntmps) (hbig : ∀ k cs, m0 k = some cs → fn.ntmps ≤ k)
    (h : RWp P c (hpost P fn m0 R0 Post) R0 (startM fn.ntmps args m0)) : HCall P f args m0 R0 Post := by
  refine ⟨fun U ρ W vs hH hown hvs => ?_⟩
  have hl := hvs.1
  refine calls_of_wp hf hb ?_
  have ok : (startM fn.ntmps args m0).Ok := ⟨fun t av j ht hj => hown av (List.mem_of_getElem? ht) j hj, fun k cs x j hk hx hj => hH.mo k cs x j hk hx hj⟩
  let B0 : Base := ⟨W, fun b => b < W.heap.size ∧ ¬ HotAt ρ m0 R0 b, fun _ h => h.1, fun k => match m0 k with | some _ => some (ρ k) | none => none, []⟩
  have hlt : ∀ b, HotAt ρ m0 R0 b → b < W.heap.size := by
    rintro b (⟨k, cs, hk, rfl⟩ | ⟨i, r, hi, hg⟩)
    · obtain ⟨vs, ty, h1, _⟩ := hH.mm k cs hk
      exact (Array.getElem?_eq_some_iff.1 h1).1
    · exact (hH.rows i r hi).1.lt hg
  have hUh : ∀ b, U b → ¬ HotAt ρ m0 R0 b := by
    rintro b hu (⟨k, cs, hk, rfl⟩ | ⟨i, r, hi, hg⟩)
    · obtain ⟨_, _, _, _, h⟩ := hH.mm k cs hk; exact h hu
    · exact ((hH.rows i r hi).2.2 b hg).1 hu
  have han : Anch B0 (startM fn.ntmps args m0) ρ := fun k b hk => by
    cases hm : m0 k with
    | none => simp only [B0, hm] at hk; cases hk
    | some cs => simp only [B0, hm, Option.some.injEq] at hk; exact ⟨hbig k cs hm, hk⟩
  have hfree : ∀ b, U b → b < W.heap.size → (startM fn.ntmps args m0).free (fun b => U b ∨ W.heap.size ≤ b) ρ b ∧ W.heap[b]? = W.heap[b]? := fun b hu _ => ⟨⟨.inl hu, fun k cs hk e => hUh b hu (.inl ⟨k, cs, hk, e⟩)⟩, rfl⟩
  have hR : RR B0 (fun b => U b ∨ W.heap.size ≤ b ∨ HotAt ρ m0 R0 b) R0 (startM fn.ntmps args m0) { tmps := vs.toArray ++ Array.replicate (fn.ntmps - vs.toArray.size) undef, defers := [] } W (fun b => U b ∨ W.heap.size ≤ b) ρ := by
    refine ⟨fun b hb => .inr (.inl hb), fun b hb => hb.elim .inl fun h => .inr (.inl h), ?_, fun k cs hk hf => hf.2 (.inl ⟨k, cs, hk, rfl⟩), ⟨rfl, rfl, rfl, Nat.le_refl _, fun _ _ => rfl⟩, fun i r hi => ?_, hH.apart, fun i r g hi hg => ⟨fun hf => hf.2 (.inr ⟨i, r, hi, hg⟩), .inr (.inr (.inr ⟨i, r, hi, hg⟩))⟩, han⟩
    · refine ⟨rfl, by simp [startM]; omega, fun t av ht => ?_, fun k cs hk => ?_, hH.inj, BelowB.refl _, fun b hb => .inr hb, hbase_anch _ _ _⟩
      · have hlt' : t < vs.length := by rw [← hl]; exact (List.getElem?_eq_some_iff.1 ht).1
        refine ⟨vs[t], by simp [Array.getElem?_append, hlt'], ?_⟩
        exact (hvs.2 t av _ ht (List.getElem?_eq_getElem hlt')).map hfree fun _ _ => rfl
      · obtain ⟨us, ty, h1, h2, h3⟩ := hH.mm k cs hk
        exact ⟨us, ty, h1, h2.map hfree fun _ _ _ _ => rfl, fun hf => hf.2 k cs hk rfl⟩
    · obtain ⟨hk0, hc, hg⟩ := hH.rows i r hi
      refine ⟨hk0.kept hc (fun _ _ => rfl) (Nat.le_refl _) hfree, hc, fun g q => ⟨?_, fun k cs hk => (hg g q).2 k cs hk⟩⟩
      rintro (hu | hu)
      · exact (hg g q).1 hu
      · have := hlt g (.inr ⟨i, r, hi, q⟩); omega
  refine wp_mono (h ok B0 _ _ W ⟨_, ρ, hR⟩).top ?_
  rintro e a' w' ⟨R2, s', ok', ⟨A', ρ', hR'⟩, hq⟩
  have fin : hfin P fn m0 R0 Post R2 s' → a'.defers = [] ∧ ∃ v, (results fn a'.tmps).run P w' = .ok v w' ∧ ∃ v' r m' R' ρ' U', Ending.returned v = .returned v' ∧ Post r m' R' ∧ HHeap U' ρ' w' m' R' ∧ RpV U' ρ' w' r v' ∧ (∀ j, r.owns j → ∃ cs, m' j = some cs) ∧
      (∀ k cs, m0 k = some cs → ρ' k = ρ k ∧ ∃ cs', m' k = some cs') ∧ (∀ i r, R0 i = some r → ∃ r', R' i = some r') ∧
      (∀ b, U' b → U b ∨ W.heap.size ≤ b ∨ HotAt ρ m0 R0 b) ∧ (∀ b, HotAt ρ' m' R' b → HotAt ρ m0 R0 b ∨ W.heap.size ≤ b) ∧ BelowB (hotBase ρ W m0 R0) w' := by
    rintro ⟨xs, r, m', R', h1, h2, h3, h4, h5, h6, h7, h8, h9⟩
    obtain ⟨v, q1, q2⟩ := results_sound hR'.rel h1
    refine ⟨hR'.rel.nodef, v, q1, v, r, m', R', ρ', s'.free A' ρ', rfl, h3, hR'.part h4 h5 h7, h2 _ _ _ _ q2, h6, fun k cs hk => ⟨(hR'.anch k (ρ k) (by simp [B0, hk])).2, h8 k cs hk⟩, h9, fun b hb => hR'.sub b hb.1, ?_, ⟨hR'.below.os, hR'.below.tape, hR'.below.output, hR'.below.size, fun b hb => hR'.below.block b hb⟩⟩
    rintro b (⟨k, cs, hk, rfl⟩ | ⟨i, q, hi, hg⟩)
    · have hnf := hR'.mine k cs (h4 k cs hk)
      rcases Nat.lt_or_ge (ρ' k) W.heap.size with hl2 | hl2
      · exact .inl (Classical.byContradiction fun hn => hnf ⟨hl2, hn⟩)
      · exact .inr hl2
    · have hnf := (hR'.hot i q b (h5 i q hi) hg).1
      rcases Nat.lt_or_ge b W.heap.size with hl2 | hl2
      · exact .inl (Classical.byContradiction fun hn => hnf ⟨hl2, hn⟩)
      · exact .inr hl2
  cases e with
  | normal => exact fin hq
  | ret => exact fin hq
  | _ => exact hq.elim
end
/-- other names. -/
def AC.ren (π : Nat → Nat) : AC → AC
  | .own k o => .own (π k) o
  | .c v => .c v
  | .p R => .p R
def AW.ren (π : Nat → Nat) : AW → AW
  | .one x => .one (x.ren π)
  | .agg xs => .agg (xs.map (AC.ren π))
def AV.ren (π : Nat → Nat) : AV → AV
  | .w x => .w (x.ren π)
  | .tup xs => .tup (xs.map (AW.ren π))
def Mem.ren (π : Nat → Nat) (m : Mem) : Mem := fun j => (m (π j)).map fun cs => cs.map (AC.ren π)
def Rws.ren (σ : Nat → Nat) (R : Rws) : Rws := fun j => R (σ j)
section
variable {P : Program} {U : Nat → Prop} {ρ : Nat → Nat} {W : World} {π σ τ : Nat → Nat}
theorem RpC.ren {x : AC} {v : Value} : RpC U ρ W (x.ren π) v ↔ RpC U (fun k => ρ (π k)) W x v := by cases x <;> exact Iff.rfl
theorem RpL.ren {xs : List AC} {vs : List Value} : RpL U ρ W (xs.map (AC.ren π)) vs ↔ RpL U (fun k => ρ (π k)) W xs vs := by
  constructor
  · rintro ⟨h1, h2⟩
    refine ⟨by simpa using h1, fun i x v hx hv => RpC.ren.1 (h2 i (x.ren π) v (by rw [List.getElem?_map, hx]; rfl) hv)⟩
  · rintro ⟨h1, h2⟩
    refine ⟨by simpa using h1, fun i x v hx hv => ?_⟩
    rw [List.getElem?_map] at hx
    cases hy : xs[i]? with
    | none => rw [hy] at hx; cases hx
    | some y => rw [hy] at hx; cases hx; exact RpC.ren.2 (h2 i y v hy hv)
theorem RpW.ren {x : AW} {v : Value} : RpW U ρ W (x.ren π) v ↔ RpW U (fun k => ρ (π k)) W x v := by
  cases x with
  | one x => exact RpC.ren
  | agg xs =>
    constructor
    · rintro ⟨vs, e, h⟩; exact ⟨vs, e, RpL.ren.1 h⟩
    · rintro ⟨vs, e, h⟩; exact ⟨vs, e, RpL.ren.2 h⟩
theorem RpV.ren {x : AV} {v : Value} : RpV U ρ W (x.ren π) v ↔ RpV U (fun k => ρ (π k)) W x v := by
  cases x with
  | w x => exact RpW.ren
  | tup xs =>
    constructor
    · rintro ⟨vs, e, hl, h⟩
      exact ⟨vs, e, by simpa using hl, fun i x v hx hv => RpW.ren.1 (h i (x.ren π) v (by rw [List.getElem?_map, hx]; rfl) hv)⟩
    · rintro ⟨vs, e, hl, h⟩
      refine ⟨vs, e, by simpa using hl, fun i x v hx hv => ?_⟩
      rw [List.getElem?_map] at hx
      cases hy : xs[i]? with
      | none => rw [hy] at hx; cases hx
      | some y => rw [hy] at hx; cases hx; exact RpW.ren.2 (h i y v hy hv)
theorem AC.ren_owns {x : AC} {j : Nat} (h : (x.ren π).owns j) : ∃ i, x.owns i ∧ j = π i := by
  cases x with
  | own k o => exact ⟨k, rfl, h⟩
  | c v => cases h
  | p R => cases h
theorem AC.owns_ren {x : AC} {j : Nat} (h : x.owns j) : (x.ren π).owns (π j) := by
  cases x with
  | own k o => cases h; rfl
  | c v => cases h
  | p R => cases h
theorem AW.cells_ren (x : AW) : (x.ren π).cells = x.cells.map (AC.ren π) := by cases x <;> rfl
theorem AV.ren_owns {x : AV} {j : Nat} (h : (x.ren π).owns j) : ∃ i, x.owns i ∧ j = π i := by
  have key : ∀ y : AW, (y.ren π).owns j → ∃ i, y.owns i ∧ j = π i := by
    rintro y ⟨z, hz, hj⟩
    rw [AW.cells_ren] at hz
    obtain ⟨u, hu, rfl⟩ := List.mem_map.1 hz
    obtain ⟨i, h1, h2⟩ := AC.ren_owns hj
    exact ⟨i, ⟨u, hu, h1⟩, h2⟩
  cases x with
  | w x => exact key x h
  | tup xs =>
    obtain ⟨y, hy, hj⟩ := h
    obtain ⟨u, hu, rfl⟩ := List.mem_map.1 hy
    obtain ⟨i, h1, h2⟩ := key u hj
    exact ⟨i, ⟨u, hu, h1⟩, h2⟩
theorem AV.owns_ren {x : AV} {j : Nat} (h : x.owns j) : (x.ren π).owns (π j) := by
  have key : ∀ y : AW, y.owns j → (y.ren π).owns (π j) := by
    rintro y ⟨z, hz, hj⟩
    exact ⟨z.ren π, by rw [AW.cells_ren]; exact List.mem_map.2 ⟨z, hz, rfl⟩, AC.owns_ren hj⟩
  cases x with
  | w x => exact key x h
  | tup xs =>
    obtain ⟨y, hy, hj⟩ := h
    exact ⟨y.ren π, List.mem_map.2 ⟨y, hy, rfl⟩, key y hj⟩
theorem Mem.ren_some {m : Mem} {j : Nat} {cs : List AC} (h : Mem.ren π m j = some cs) : ∃ ds, m (π j) = some ds ∧ cs = ds.map (AC.ren π) := by
  unfold Mem.ren at h
  cases hm : m (π j) with
  | none => rw [hm] at h; cases h
  | some ds => rw [hm] at h; exact ⟨ds, rfl, (Option.some.inj h).symm⟩
theorem Mem.ren_of (hπ : ∀ j, π (π j) = j) {m : Mem} {k : Nat} {cs : List AC} (h : m k = some cs) : Mem.ren π m (π k) = some (cs.map (AC.ren π)) := by
  unfold Mem.ren; rw [hπ, h]; rfl
theorem HotAt.ren (hπ : ∀ j, π (π j) = j) (hσ : ∀ j, σ (τ j) = j) {m : Mem} {R : Rws} {b : Nat} : HotAt ρ (m.ren π) (R.ren σ) b ↔ HotAt (fun k => ρ (π k)) m R b := by
  constructor
  · rintro (⟨k, cs, hk, e⟩ | ⟨i, r, hi, hg⟩)
    · obtain ⟨ds, h1, _⟩ := Mem.ren_some hk
      exact .inl ⟨π k, ds, h1, by simp only [hπ]; exact e⟩
    · exact .inr ⟨σ i, r, hi, hg⟩
  · rintro (⟨k, cs, hk, e⟩ | ⟨i, r, hi, hg⟩)
    · exact .inl ⟨π k, _, Mem.ren_of hπ hk, e⟩
    · exact .inr ⟨τ i, r, by unfold Rws.ren; rw [hσ]; exact hi, hg⟩
theorem HHeap.ren (hπ : ∀ j, π (π j) = j) (hσ : ∀ j, σ (τ j) = j) (hτ : ∀ j, τ (σ j) = j) {m : Mem} {R : Rws} : HHeap U ρ W (m.ren π) (R.ren σ) ↔ HHeap U (fun k => ρ (π k)) W m R := by
  have inj2 : ∀ {a b : Nat}, π a = π b → a = b := fun {a b} h => by rw [← hπ a, h, hπ]
  have injs : ∀ {a b : Nat}, σ a = σ b → a = b := fun {a b} h => by rw [← hτ a, h, hτ]
  have injt : ∀ {a b : Nat}, τ a = τ b → a = b := fun {a b} h => by rw [← hσ a, h, hσ]
  constructor
  · intro h
    refine ⟨fun k cs hk => ?_, fun k cs x j hk hx hj => ?_, fun k k' cs cs' hk hk' e => ?_, fun i r hi => ?_, fun i j r q hi hj hij g hg => h.apart (τ i) (τ j) r q (by unfold Rws.ren; rw [hσ]; exact hi) (by unfold Rws.ren; rw [hσ]; exact hj) (fun e => hij (injt e)) g hg⟩
    · obtain ⟨vs, ty, h1, h2, h3⟩ := h.mm (π k) _ (Mem.ren_of hπ hk)
      exact ⟨vs, ty, h1, RpL.ren.1 h2, h3⟩
    · obtain ⟨cs', h1⟩ := h.mo (π k) _ (x.ren π) (π j) (Mem.ren_of hπ hk) (List.mem_map.2 ⟨x, hx, rfl⟩) (AC.owns_ren hj)
      obtain ⟨ds, h2, _⟩ := Mem.ren_some h1
      rw [hπ] at h2
      exact ⟨ds, h2⟩
    · exact inj2 (h.inj (π k) (π k') _ _ (Mem.ren_of hπ hk) (Mem.ren_of hπ hk') e)
    · obtain ⟨h1, h3, h4⟩ := h.rows (τ i) r (by unfold Rws.ren; rw [hσ]; exact hi)
      exact ⟨h1.kept h3 (fun _ _ => rfl) (Nat.le_refl _) (fun b hb _ => ⟨hb, rfl⟩), h3, fun g hg => ⟨(h4 g hg).1, fun k cs hk => (h4 g hg).2 (π k) _ (Mem.ren_of hπ hk)⟩⟩
  · intro h
    refine ⟨fun k cs hk => ?_, fun k cs x j hk hx hj => ?_, fun k k' cs cs' hk hk' e => ?_, fun i r hi => ?_, fun i j r q hi hj hij g hg => h.apart (σ i) (σ j) r q hi hj (fun e => hij (injs e)) g hg⟩
    · obtain ⟨ds, h0, rfl⟩ := Mem.ren_some hk
      obtain ⟨vs, ty, h1, h2, h3⟩ := h.mm (π k) ds h0
      simp only [hπ] at h1 h3
      exact ⟨vs, ty, h1, RpL.ren.2 h2, h3⟩
    · obtain ⟨ds, h0, rfl⟩ := Mem.ren_some hk
      obtain ⟨y, hy, rfl⟩ := List.mem_map.1 hx
      obtain ⟨i, h1, rfl⟩ := AC.ren_owns hj
      obtain ⟨cs', h2⟩ := h.mo (π k) ds y i h0 hy h1
      exact ⟨_, Mem.ren_of hπ h2⟩
    · obtain ⟨ds, h0, _⟩ := Mem.ren_some hk
      obtain ⟨ds', h0', _⟩ := Mem.ren_some hk'
      exact inj2 (h.inj (π k) (π k') _ _ h0 h0' (by simp only [hπ]; exact e))
    · obtain ⟨h1, h3, h4⟩ := h.rows (σ i) r hi
      refine ⟨h1.kept h3 (fun _ _ => rfl) (Nat.le_refl _) (fun b hb _ => ⟨hb, rfl⟩), h3, fun g hg => ⟨(h4 g hg).1, fun k cs hk => ?_⟩⟩
      obtain ⟨ds, h0, _⟩ := Mem.ren_some hk
      have := (h4 g hg).2 (π k) ds h0
      simpa only [hπ] using this
/-- a contract, under other names. -/
theorem HCall.ren (hπ : ∀ j, π (π j) = j) (hσ : ∀ j, σ (τ j) = j) (hτ : ∀ j, τ (σ j) = j) {f : FuncId} {args : List AV} {m0 : Mem} {R0 : Rws} {Post : AV → Mem → Rws → Prop} (h : HCall P f args m0 R0 Post) :
    HCall P f (args.map (AV.ren π)) (m0.ren π) (R0.ren σ) fun r m' R' => ∃ r1 m1 R1, Post r1 m1 R1 ∧ r = r1.ren π ∧ m' = Mem.ren π m1 ∧ R' = Rws.ren σ R1 := by
  refine ⟨fun U ρ W vs hH hown hvs => ?_⟩
  have hvs' : RpVs U (fun k => ρ (π k)) W args vs := ⟨by simpa using hvs.1, fun i x v hx hv => RpV.ren.1 (hvs.2 i (x.ren π) v (by rw [List.getElem?_map, hx]; rfl) hv)⟩
  refine (h.call U (fun k => ρ (π k)) W vs ((HHeap.ren hπ hσ hτ).1 hH) (fun x hx j hj => ?_) hvs').mono ?_
  · obtain ⟨cs, h1⟩ := hown (x.ren π) (List.mem_map.2 ⟨x, hx, rfl⟩) (π j) (AV.owns_ren hj)
    obtain ⟨ds, h2, _⟩ := Mem.ren_some h1
    rw [hπ] at h2
    exact ⟨ds, h2⟩
  · rintro e W' ⟨v, r, m', R', ρ', U', rfl, h1, h2, h3, h4, h5, h6, h7, h8, h9⟩
    have e1 : (fun k => (fun k => ρ' (π k)) (π k)) = ρ' := by funext k; simp only [hπ]
    refine ⟨v, r.ren π, m'.ren π, R'.ren σ, fun k => ρ' (π k), U', rfl, ⟨r, m', R', h1, rfl, rfl, rfl⟩, (HHeap.ren hπ hσ hτ).2 (by rw [e1]; exact h2), RpV.ren.2 (by rw [e1]; exact h3), fun j hj => ?_, fun k cs hk => ?_, fun i q hi => ?_, fun b hb => ?_, fun b hb => ?_, ⟨h9.os, h9.tape, h9.output, h9.size, fun b hb => h9.block b ⟨hb.1, fun hh => hb.2 ((HotAt.ren hπ hσ).2 hh)⟩⟩⟩
    · obtain ⟨i, q1, rfl⟩ := AV.ren_owns hj
      obtain ⟨cs, q2⟩ := h4 i q1
      exact ⟨_, Mem.ren_of hπ q2⟩
    · obtain ⟨ds, q0, _⟩ := Mem.ren_some hk
      obtain ⟨q1, cs', q2⟩ := h5 (π k) ds q0
      refine ⟨by show ρ' (π k) = ρ k; rw [q1, hπ], ?_⟩
      have := Mem.ren_of hπ q2
      rw [hπ] at this
      exact ⟨_, this⟩
    · exact h6 (σ i) q hi
    · rcases h7 b hb with q | q | q
      · exact .inl q
      · exact .inr (.inl q)
      · exact .inr (.inr ((HotAt.ren hπ hσ).2 q))
    · have : HotAt (fun k => (fun k => ρ' (π k)) (π k)) m' R' b := (HotAt.ren hπ hσ).1 hb
      rw [e1] at this
      rcases h8 b this with q | q
      · exact .inl ((HotAt.ren hπ hσ).2 q)
      · exact .inr q
end
/-- two names changed. -/
def swp (a b j : Nat) : Nat := if j = a then b else if j = b then a else j
theorem swp_swp (a b j : Nat) : swp a b (swp a b j) = j := by
  unfold swp
  by_cases h1 : j = a
  · subst h1
    by_cases h2 : b = j
    · simp [h2]
    · simp [h2]
  · by_cases h2 : j = b
    · subst h2; simp [h1]
    · simp [h1, h2]
theorem swp_l (a b : Nat) : swp a b a = b := by simp [swp]
theorem swp_r (a b : Nat) : swp a b b = a := by unfold swp; by_cases h : b = a <;> simp [h]
theorem ren_closed {π : Nat → Nat} {x : AC} (h : x.closedB = true) : x.ren π = x := by cases x <;> first | rfl | cases h
theorem ren_closedL {π : Nat → Nat} {xs : List AC} (h : xs.all AC.closedB = true) : xs.map (AC.ren π) = xs := by
  rw [List.all_eq_true] at h
  conv => rhs; rw [← List.map_id xs]
  exact List.map_congr_left fun x hx => ren_closed (h x hx)
theorem ren_closedV {π : Nat → Nat} {x : AV} (h : x.closedB = true) : x.ren π = x := by
  have key : ∀ y : AW, y.closedB = true → y.ren π = y := fun y hy => by
    cases y with
    | one x => show AW.one (x.ren π) = _; rw [ren_closed hy]
    | agg xs => show AW.agg (xs.map _) = _; rw [ren_closedL hy]
  cases x with
  | w x => show AV.w (x.ren π) = _; rw [key x h]
  | tup xs =>
    show AV.tup (xs.map _) = _
    congr 1
    have h' : ∀ x ∈ xs, x.closedB = true := List.all_eq_true.1 h
    conv => rhs; rw [← List.map_id xs]
    exact List.map_congr_left fun x hx => key x (h' x hx)
theorem row1_ren {k j : Nat} {r : HRow} : Rws.ren (swp k j) (row1 k r) = row1 j r := by
  funext i
  unfold Rws.ren row1
  by_cases e : i = j
  · subst e; rw [swp_r, upd_same, upd_same]
  · rw [upd_ne _ _ e, upd_ne _ _ (fun e2 => e (by rw [← swp_swp k j i, e2, swp_l]))]; rfl
/-- a method of a thing that is one block, with one row that hangs on it: whatever both are called. -/
def OCall (P : Program) (f : FuncId) (args : List AV) (cs : List AC) (r : HRow) (post : AV → List AC → HRow → Prop) : Prop :=
  ∀ k i, HCall P f (.w (.one (.own k 0)) :: args) (mem1 k cs) (row1 i r) fun v m' R' => ∃ cs' r', m' = mem1 k cs' ∧ R' = row1 i r' ∧ post v cs' r'
/-- from two numbers of rows to two others. -/
def per (i j x : Nat) : Nat := swp 0 i (swp 1 (swp 0 i j) x)
def rep2 (i j x : Nat) : Nat := swp 1 (swp 0 i j) (swp 0 i x)
/-- a method that makes a row, too. -/
def OCall2 (P : Program) (f : FuncId) (args : List AV) (cs : List AC) (r : HRow) (post : AV → List AC → HRow → HRow → Prop) : Prop :=
  ∀ k i j, i ≠ j → HCall P f (.w (.one (.own k 0)) :: args) (mem1 k cs) (row1 i r) fun v m' R' => ∃ cs' r' q, m' = mem1 k cs' ∧ R' = upd (row1 i r') j q ∧ 0 < q.sz ∧ post v cs' r' q
section
variable {P : Program} {R : Rws} {s : AS} {ops : Array Oper} {dr : Option (List Nat)} {ty : Nat} {pos : String} {after : Array Edge} {guard : Option (Nat × Bool)} {K : Rws → AS → Prop} {rest : List Oper}
def dstB (dst : Option Nat) (n : Nat) : Bool := match dst with
  | some d => Nat.blt d n
  | none => true
theorem dstB_ok {dst : Option Nat} {n : Nat} (h : dstB dst n = true) : ∀ d, dst = some d → d < n := fun d e => by subst e; simpa [dstB, Nat.blt_eq] using h
/-- such a call in a walk. -/
theorem hs_h {dst : Option Nat} {f : FuncId} {g : Operand} {ts : Array TypeId} {l : List Operand} {args : List AV} {m0 : Mem} {R0 : Rws} {Post : AV → Mem → Rws → Prop} [E : Enters P f] (hw : want ops ⟨dst, .call ⟨.value g, l.toArray, ts⟩, ty, pos, after, guard⟩ s = some true) (hm : hotM dr ⟨dst, .call ⟨.value g, l.toArray, ts⟩, ty, pos, after, guard⟩ = true)
    (hg : s.look g = some (vC (.func (.func f) #[] #[]))) (ha : l.map s.look = args.map some) (hp : HCall P f args m0 R0 Post) (ho : ∀ x ∈ args, ∀ j, x.owns j → ∃ cs, m0 j = some cs) (hmem : ∀ k cs, m0 k = some cs → s.mem k = some cs ∧ (tch dr k = true ∨ ∀ r m' R', Post r m' R' → m' k = some cs)) (hr : RLe R0 R) (mo : ∀ k cs x j, m0 k = some cs → x ∈ cs → x.owns j → ∃ cs', m0 j = some cs') (hd : dstB dst s.n = true)
    (h : ∀ r m' R', Post r m' R' → (∀ k cs', m' k = some cs' → (∃ cs, m0 k = some cs) ∨ (s.mem k = none ∧ k < s.n)) ∧ hList P ops dr K rest (ovr R' R) ((s.over m').put dst r)) : hList P ops dr K (⟨dst, .call ⟨.value g, l.toArray, ts⟩, ty, pos, after, guard⟩ :: rest) R s := by
  refine ⟨true, hw, dstB_ok hd, .inr (.inr (.inr (.inr (.inl ⟨rfl, hm, f, args, m0, R0, Post, ⟨⟨_, g, rfl, rfl, .inl ⟨[], hg, ?_, rfl⟩⟩, E.h⟩, hp, ho, hmem, hr, mo, fun r m' R' h1 _ _ _ => h r m' R' h1⟩))))⟩
  simpa using ha
end
section
variable {P : Program}
theorem big1 {n : Nat} {cs : List AC} (h : Nat.ble n 1000 = true) : ∀ k cs', mem1 1000 cs k = some cs' → n ≤ k := fun k cs' hk => by
  obtain ⟨rfl, _⟩ := mem1_iff hk
  exact Nat.le_of_ble_eq_true h
theorem big0 {n : Nat} : ∀ k cs', noMem k = some cs' → n ≤ k := fun k cs' hk => by cases hk
/-- does it point to no block of the frame's own but k? -/
def AC.ownB (k : Nat) : AC → Bool
  | .own j _ => Nat.beq j k
  | _ => true
def AV.ownB (k : Nat) : AV → Bool
  | .w x => x.cells.all (AC.ownB k)
  | .tup xs => xs.all fun x => x.cells.all (AC.ownB k)
end
abbrev vNilS : AV := vC (.slice none 0 0)
theorem nilS_le (z : Nat) : vNilS.Le (vS z 0 []) := fun U ρ W v h => by
  obtain ⟨rfl, _⟩ := h
  exact ⟨⟨none, 0, rfl, Nat.le_refl _, by simp, fun h => absurd h (Nat.lt_irrefl _)⟩, fun b ⟨c, a, q, hn, _⟩ => absurd hn (Nat.lt_irrefl _)⟩
/-- a function that makes a thing: v tells what it hands back, of the thing's name. -/
def NCall (P : Program) (f : FuncId) (args : List AV) (v : Nat → AV) (post : List AC → HRow → Prop) : Prop :=
  ∀ k i, HCall P f args noMem noRows fun r m' R' => ∃ cs' r', m' = mem1 k cs' ∧ R' = row1 i r' ∧ r = v k ∧ post cs' r'
section
variable {P : Program} {R : Rws} {s : AS} {ops : Array Oper} {dr : Option (List Nat)} {ty : Nat} {pos : String} {after : Array Edge} {guard : Option (Nat × Bool)} {K : Rws → AS → Prop} {rest : List Oper}
end
end Go.Proofs.Ytlfkllmnekdghaa

namespace Go.Proofs.Ytlfkllmnekdghaa
open Go.RowKit
set_option linter.unusedVariables false
set_option linter.unusedSimpArgs false
/-- a function that is handed a row by its slice. -/
def RCall (P : Program) (f : FuncId) (args : List AV) (r : HRow) (post : AV → HRow → Prop) : Prop :=
  ∀ i, HCall P f args noMem (row1 i r) fun v m' R' => ∃ r', m' = noMem ∧ R' = row1 i r' ∧ post v r'
/-- and that leaves it as it is, and makes another one. -/
def RCall2 (P : Program) (f : FuncId) (args : List AV) (r : HRow) (post : AV → HRow → Prop) : Prop :=
  ∀ i j, i ≠ j → HCall P f args noMem (row1 i r) fun v m' R' => ∃ q, m' = noMem ∧ R' = upd (row1 i r) j q ∧ post v q
theorem renId {args : List AV} (ha : args.all AV.closedB = true) : args.map (AV.ren fun j => j) = args := by
  rw [List.all_eq_true] at ha
  conv => rhs; rw [← List.map_id args]
  exact List.map_congr_left fun x hx => ren_closedV (ha x hx)
section
variable {P : Program} {R : Rws} {s : AS} {ops : Array Oper} {dr : Option (List Nat)} {ty : Nat} {pos : String} {after : Array Edge} {guard : Option (Nat × Bool)} {K : Rws → AS → Prop} {rest : List Oper}
theorem over_noMem (s : AS) : s.over noMem = s := by
  show ({ s with mem := ovr (fun _ => none) s.mem } : AS) = s
  rw [ovr_none]
def rowTwo (r q : HRow) : Rws := fun i => if i = 0 then some r else if i = 1 then some q else none
end
/-- of a world: what becomes of the row that was handed in. -/
structure RowTo (W W' : World) (r r' : HRow) (U : Nat → Prop) : Prop where
  grown : W.grownBy W' r.v.ownBlock
  row : ∃ xs, W'.ownsRow 0 r'.e r'.sz r'.v r'.n xs ∧ RpL U id W r'.ys xs
  cl : ∀ y ∈ r'.ys, y.closedB = true
  blk : ∀ g, r'.v.ownBlock = some g → r.v.ownBlock = some g ∨ W.heap.size ≤ g
/-- of a world: another row is made. -/
structure RowNew (W W' : World) (q : HRow) (U : Nat → Prop) : Prop where
  grown : W.grownBy W' none
  row : ∃ xs, W'.ownsRow 0 q.e q.sz q.v q.n xs ∧ RpL U id W q.ys xs
  cl : ∀ y ∈ q.ys, y.closedB = true
  blk : ∀ g, q.v.ownBlock = some g → W.heap.size ≤ g
/-- another thing is told of an own block, of which it holds, too. -/
theorem Rel.retellm {B : Base} {A : Nat → Prop} {s : AS} {ρ : Nat → Nat} {a : Act} {w : World} {k : Nat} {cs ds : List AC} (h : Rel B A s ρ a w) (hk : s.mem k = some cs) (hr : ∀ vs, RpL (s.free A ρ) ρ w cs vs → RpL (s.free A ρ) ρ w ds vs) : Rel B A (s.setm k ds) ρ a w := by
  obtain ⟨vs, ty, g1, g2, _⟩ := h.mm k cs hk
  have := h.set hk (hr vs g2)
  rwa [setRow_self w (ρ k) vs.toArray ty (0, 0) g1] at this
end Go.Proofs.Ytlfkllmnekdghaa

namespace Go.Proofs.Ytlfkllmnekdghaa
open Go.RowKit
set_option linter.unusedVariables false
set_option linter.unusedSimpArgs false
section
variable {P : Program} {B0 : Base} {A0 A : Nat → Prop} {R : Rws} {s s' : AS} {a a' : Act} {w w' : World} {ρ ρ' : Nat → Nat}
/-- a row is given up: what it was stays, and its slice tells it. -/
theorem RR.coolH (hR : RR B0 A0 R s a w A ρ) (i : Nat) (r : HRow) (hi : R i = some r) (hsz : 0 < r.sz) : ∃ A', RR B0 A0 (fun j => if j = i then none else R j) s a w A' ρ ∧ RpC (s.free A' ρ) ρ w (.p (SlP r.sz r.n r.ys)) r.v := by
  obtain ⟨hok0, hcl, hg⟩ := hR.rows i r hi
  obtain ⟨xs, ho, hl⟩ := hok0.row hsz
  have hA' : ∀ b, s.free A ρ b → b < w.heap.size → s.free (fun b => A b ∨ r.v.ownBlock = some b) ρ b ∧ w.heap[b]? = w.heap[b]? := fun b hb _ => ⟨⟨.inl hb.1, hb.2⟩, rfl⟩
  have hR1 : Rel (hbase B0 s ρ w) (fun b => A b ∨ r.v.ownBlock = some b) s ρ a w := hR.rel.anew (fun b hb _ => ⟨.inl hb, rfl⟩) (fun k cs hk => ⟨rfl, fun hf => hf.2 k cs hk rfl⟩) (BelowB.refl _) (fun b hb => .inl (hR.rel.up b hb)) (hbase_anch _ _ _)
  have hR2 : RR B0 A0 (fun j => if j = i then none else R j) s a w (fun b => A b ∨ r.v.ownBlock = some b) ρ := by
    refine ⟨hR.up, ?_, hR1, hR.mine, hR.below, fun j q hj => ?_, fun j k q q' hj hk hjk => ?_, fun j q g hj => ?_, hR.anch⟩
    · rintro b (hb | hb)
      · exact hR.sub b hb
      · exact (hR.hot i r b hi (.inl hb)).2
    · have hji : j ≠ i := fun e => by rw [if_pos e] at hj; cases hj
      rw [if_neg hji] at hj
      obtain ⟨hk0, uc, ug⟩ := hR.rows j q hj
      refine ⟨hk0.kept uc (fun _ _ => rfl) (Nat.le_refl _) hA', uc, fun g hg' => ⟨?_, (ug g hg').2⟩⟩
      rintro (hb | hb)
      · exact (ug g hg').1 hb
      · exact hR.apart i j r q hi hj (Ne.symm hji) g (.inl hb) hg'
    · have hji : j ≠ i := fun e => by rw [if_pos e] at hj; cases hj
      have hki : k ≠ i := fun e => by rw [if_pos e] at hk; cases hk
      rw [if_neg hji] at hj
      rw [if_neg hki] at hk
      exact hR.apart j k q q' hj hk hjk
    · have hji : j ≠ i := fun e => by rw [if_pos e] at hj; cases hj
      rw [if_neg hji] at hj
      exact hR.hot j q g hj
  refine ⟨fun b => A b ∨ r.v.ownBlock = some b, hR2, ?_⟩
  · have hll := hl.1
    obtain ⟨hlx, hn | ⟨g, cap, cur, hgv, hbg, hheap, hnc, hcm, hcs, htake⟩⟩ := id ho
    · obtain ⟨e1, e2⟩ := hn
      have : r.ys = [] := List.eq_nil_of_length_eq_zero (by rw [hll, hlx, e2]; simp)
      rw [e1]
      exact ⟨⟨none, 0, by rw [e2], by omega, by rw [this, e2]; simp, fun h => absurd h (by omega)⟩, fun b ⟨c', a', q, hn, hb⟩ => by cases q⟩
    · have hcells := ho.cells (g := g) (by rw [hgv]; rfl)
      rw [hgv]
      have hCA : CellsAt w ⟨g, 0, none⟩ r.ys xs := ⟨(Array.getElem?_eq_some_iff.1 hheap).1, hl.closed_map hcl fun b _ _ => ⟨trivial, rfl⟩, hcells, hcl⟩
      refine ⟨⟨some ⟨g, 0, none⟩, cap, rfl, hnc, by rw [hll]; exact hlx, fun hn => ⟨⟨g, 0, none⟩, xs, rfl, hCA⟩⟩, ?_⟩
      rintro b ⟨c', a', q, hn, hf⟩
      cases q
      rcases hf with rfl | ⟨j, y, v, hy, hv, hfo⟩
      · exact ⟨.inr rfl, (hg g (.inl (by rw [hgv]; rfl))).2⟩
      · have hlt : j < xs.length := by rw [← hll]; exact (List.getElem?_eq_some_iff.1 hy).1
        have h2 := hcells j _ (List.getElem?_eq_getElem hlt)
        rw [hv] at h2
        cases h2
        have h3 := hl.2 j y _ hy (List.getElem?_eq_getElem hlt)
        cases y with
        | c u => cases hfo
        | own k o => cases hfo
        | p S => have := h3.2 b hfo; exact ⟨.inl this.1, this.2⟩
end
section
variable {P : Program} {s : AS} {ops : Array Oper} {K : AS → Prop} {rest : List Oper} {ty : Nat} {pos : String} {after : Array Edge} {guard : Option (Nat × Bool)} {d : Nat}
end
theorem rpl_le {xs ys : List AC} (hl : xs.length = ys.length) (h : ∀ (i : Nat) x y, xs[i]? = some x → ys[i]? = some y → x = y ∨ (x = .c (.slice none 0 0) ∧ ∃ z, y = .p (SlP z 0 []))) (U : Nat → Prop) (ρ : Nat → Nat) (W : World) (vs : List Value) (hv : RpL U ρ W xs vs) : RpL U ρ W ys vs := by
  refine ⟨by rw [← hl]; exact hv.1, fun i y v hy hu => ?_⟩
  have hi : i < xs.length := by rw [hl]; exact (List.getElem?_eq_some_iff.1 hy).1
  have hx := List.getElem?_eq_getElem hi
  have h1 := hv.2 i _ v hx hu
  rcases h i _ y hx hy with e | ⟨e, z, rfl⟩
  · rw [← e]; exact h1
  · rw [e] at h1
    exact nilS_le z U ρ W v h1
theorem agg_le {xs ys : List AC} (hl : xs.length = ys.length) (h : ∀ (i : Nat) x y, xs[i]? = some x → ys[i]? = some y → x = y ∨ (x = .c (.slice none 0 0) ∧ ∃ z, y = .p (SlP z 0 []))) : AV.Le (.w (.agg xs)) (.w (.agg ys)) := fun U ρ W v hv => by
  obtain ⟨vs, rfl, hl'⟩ := hv
  exact ⟨vs, rfl, rpl_le hl h U ρ W vs hl'⟩
end Go.Proofs.Ytlfkllmnekdghaa

namespace Go.Proofs.Ytlfkllmnekdghaa
open Go.RowKit
set_option linter.unusedVariables false
set_option linter.unusedSimpArgs false
section
variable {P : Program} {s : AS} {ops : Array Oper} {K : AS → Prop} {rest : List Oper} {ty : Nat} {pos : String} {after : Array Edge} {guard : Option (Nat × Bool)} {d : Nat}
theorem al_mkfnP {fn : Fn} {xs : List Operand} {cs : List AC} (hw : want ops ⟨some d, .makeFunc fn #[] xs.toArray, ty, pos, after, guard⟩ s = some true) (hx : xs.map s.look = cs.map fun x => some (.w (.one x))) (hc : cs.all AC.closedB = true) (hd : Nat.blt d s.n = true) (h : aList P ops K rest (s.put (some d) (.w (.one (.p (FunP fn cs)))))) : aList P ops K (⟨some d, .makeFunc fn #[] xs.toArray, ty, pos, after, guard⟩ :: rest) s := by
  have hlen : xs.length = cs.length := by have := congrArg List.length hx; simpa using this
  have hat : ∀ (i : Nat) (z : Operand), xs[i]? = some z → ∃ x, cs[i]? = some x ∧ s.look z = some (.w (.one x)) := fun i z hz => by
    have h1 : (xs.map s.look)[i]? = some (s.look z) := by rw [List.getElem?_map, hz]; rfl
    rw [hx, List.getElem?_map] at h1
    cases hq : cs[i]? with
    | none => rw [hq] at h1; cases h1
    | some x => rw [hq] at h1; exact ⟨x, rfl, (Option.some.inj h1).symm⟩
  refine al_quiet (av := .w (.one (.p (FunP fn cs)))) hw ⟨fun _ _ h => (by cases h), fun z hz => ?_, fun U ρ W env he => ⟨.func fn #[] (xs.map env).toArray, ?_, ?_⟩, fun j hj => absurd hj (noownp _ j)⟩ hd h
  · simp [Op.operands] at hz
    obtain ⟨i, hi⟩ := List.getElem?_of_mem hz
    obtain ⟨x, _, h2⟩ := hat i z hi
    exact ⟨_, h2⟩
  · simp [execOp, Instr.makeFunc]
  · have hcell : ∀ (i : Nat) (x : AC) (u : Value), cs[i]? = some x → (xs.map env)[i]? = some u → RpC U ρ W x u := fun i x u hxi hu => by
      rw [List.getElem?_map] at hu
      cases hz : xs[i]? with
      | none => rw [hz] at hu; cases hu
      | some z =>
        rw [hz] at hu
        cases hu
        obtain ⟨x', h1, h2⟩ := hat i z hz
        rw [hxi] at h1
        cases h1
        exact he z (by simp [Op.operands]; exact List.mem_of_getElem? hz) _ h2
    have hcl : ∀ x ∈ cs, ∀ j, ¬ x.owns j := fun x hx j => AC.closed_of (List.all_eq_true.1 hc x hx) j
    refine ⟨⟨xs.map env, rfl, ⟨by simpa using hlen.symm, fun i x u hxi hu => ?_⟩, hcl⟩, ?_⟩
    · have h1 := hcell i x u hxi hu
      cases x with
      | c y => exact h1
      | own k o => exact absurd rfl (hcl _ (List.mem_of_getElem? hxi) k)
      | p R => exact ⟨h1.1, fun _ _ => trivial⟩
    · rintro b ⟨vs', e, i, x, u, hxi, hu, hb⟩
      have e' : xs.map env = vs' := by simpa using e
      subst e'
      have h1 := hcell i x u hxi hu
      cases x with
      | c y => cases hb
      | own k o => cases hb
      | p R => exact h1.2 b hb
end
/-- a block of the frame's own that is written no more: pointers into it become facts. -/
def frzB (s : AS) (k j : Nat) : Bool := !(Nat.beq j k) && (match s.mem j with | some ds => ds.all AC.closedB | none => false)
def frzT (s : AS) (k : Nat) (cs : List AC) : Option AV → Option AV
  | some (.w (.one (.own j off))) => bif Nat.beq j k then some (.w (.one (.p (PtrP (cs.drop off))))) else bif frzB s k j then some (.w (.one (.own j off))) else none
  | some av => bif av.closedB then some av else none
  | none => none
def frz (s : AS) (k : Nat) (cs : List AC) : AS := ⟨s.n, fun t => frzT s k cs (s.tmps t), fun j => bif frzB s k j then s.mem j else none⟩
theorem frzB_spec {s : AS} {k j : Nat} (h : frzB s k j = true) : j ≠ k ∧ ∃ ds, s.mem j = some ds ∧ ds.all AC.closedB = true := by
  unfold frzB at h
  simp only [Bool.and_eq_true, Bool.not_eq_true'] at h
  refine ⟨fun e => by subst e; simp at h, ?_⟩
  cases hm : s.mem j with
  | none => rw [hm] at h; simp at h
  | some ds => rw [hm] at h; exact ⟨ds, rfl, h.2⟩
theorem frz_ok {s : AS} {k : Nat} {cs : List AC} (ok : s.Ok) : (frz s k cs).Ok := by
  refine ⟨fun t av j ht hj => ?_, fun i ds x j hi hx hj => ?_⟩
  · have key : ∀ o, frzT s k cs o = some av → ∃ ds, (frz s k cs).mem j = some ds := by
      intro o ho
      unfold frzT at ho
      split at ho
      · rename_i j' off
        cases hb : Nat.beq j' k with
        | true => rw [hb] at ho; simp at ho; subst ho; obtain ⟨y, hy, hj⟩ := hj; simp [AW.cells] at hy; subst hy; cases hj
        | false =>
          rw [hb] at ho
          cases hk : frzB s k j' with
          | false => rw [hk] at ho; simp at ho
          | true =>
            rw [hk] at ho
            simp at ho
            subst ho
            obtain ⟨y, hy, hj⟩ := hj
            simp [AW.cells] at hy
            subst hy
            have e : j = j' := hj
            subst e
            obtain ⟨_, ds, hm, _⟩ := frzB_spec hk
            exact ⟨ds, by simp only [frz, hk, cond_true]; exact hm⟩
      · rename_i av' _
        cases hc : av'.closedB with
        | false => rw [hc] at ho; simp at ho
        | true => rw [hc] at ho; simp at ho; subst ho; exact absurd hj (AV.closed_of hc j)
      · cases ho
    exact key _ ht
  · simp only [frz] at hi
    cases hk : frzB s k i with
    | false => rw [hk] at hi; simp at hi
    | true =>
      rw [hk] at hi
      simp at hi
      obtain ⟨_, ds', hm, hc⟩ := frzB_spec hk
      rw [hm] at hi
      cases hi
      exact absurd hj (AC.closed_of (List.all_eq_true.1 hc x hx) j)
theorem frz_rel {s : AS} {k : Nat} {cs : List AC} {W : World} {A : Nat → Prop} {ρ : Nat → Nat} {a : Act} {w : World} (hk : s.mem k = some cs) (hcl : cs.all AC.closedB = true) (hR : Rel (Base.all W) A s ρ a w) : Rel (Base.all W) A (frz s k cs) ρ a w := by
  have hmem : ∀ j ds, (frz s k cs).mem j = some ds → j ≠ k ∧ s.mem j = some ds := fun j ds hj => by
    simp only [frz] at hj
    cases hb : frzB s k j with
    | false => rw [hb] at hj; simp at hj
    | true => rw [hb] at hj; simp at hj; exact ⟨(frzB_spec hb).1, hj⟩
  have hfree : ∀ b, s.free A ρ b → (frz s k cs).free A ρ b := fun b hb => ⟨hb.1, fun j ds hj => hb.2 j ds (hmem j ds hj).2⟩
  obtain ⟨vs, tyk, g1, g2, g3⟩ := hR.mm k cs hk
  have hAk : A (ρ k) := hR.up _ (by
    have : ¬ ρ k < W.heap.size := g3
    show W.heap.size ≤ ρ k
    omega)
  have hlt : ρ k < w.heap.size := hR.lt hk
  have hfk : (frz s k cs).free A ρ (ρ k) := ⟨hAk, fun j ds hj e => by
    obtain ⟨h1, h2⟩ := hmem j ds hj
    exact h1 (hR.inj j k _ _ h2 hk e)⟩
  have hcl' : ∀ y ∈ cs, y.closedB = true := List.all_eq_true.1 hcl
  refine ⟨hR.nodef, hR.size, fun t av ht => ?_, fun j ds hj => ?_, fun j j' c1 c2 h1 h2 e => hR.inj j j' _ _ (hmem j c1 h1).2 (hmem j' c2 h2).2 e, hR.below, hR.up, hR.anch⟩
  · simp only [frz] at ht
    cases ho : s.tmps t with
    | none => rw [ho] at ht; cases ht
    | some o =>
      rw [ho] at ht
      obtain ⟨v, h1, h2⟩ := hR.tm t o ho
      refine ⟨v, h1, ?_⟩
      have h3 : RpV ((frz s k cs).free A ρ) ρ w o v := h2.map (fun b hb _ => ⟨hfree b hb, rfl⟩) fun _ _ => rfl
      unfold frzT at ht
      split at ht
      · rename_i j' off heq
        cases heq
        cases hb : Nat.beq j' k with
        | true =>
          rw [hb] at ht
          simp at ht
          subst ht
          have e : j' = k := Nat.eq_of_beq_eq_true hb
          subst e
          have hv : v = .pointer (some ⟨ρ j', off, none⟩) := h2
          subst hv
          have hCA : CellsAt w ⟨ρ j', off, none⟩ (cs.drop off) (vs.drop off) := by
            refine ⟨hlt, ⟨by simp [g2.1], fun i x u hx hu => ?_⟩, fun i u hu => ?_, fun y hy => hcl' y (List.mem_of_mem_drop hy)⟩
            · rw [List.getElem?_drop] at hx hu
              have h5 := g2.2 _ x u hx hu
              have hc5 := hcl' x (List.mem_of_getElem? hx)
              cases x with
              | c y => exact h5
              | own k o => cases hc5
              | p S => exact ⟨h5.1, fun _ _ => trivial⟩
            · rw [List.getElem?_drop] at hu
              have hadd : (⟨ρ j', off, none⟩ : Addr).add i = ⟨ρ j', off + i, none⟩ := by unfold Addr.add; split <;> simp_all
              rw [hadd]
              simp only [World.cell?, g1]
              simpa using hu
          refine ⟨⟨_, _, rfl, hCA⟩, ?_⟩
          rintro b ⟨a', e, hf⟩
          cases e
          rcases hf with rfl | ⟨i, y, u, hy, hu, hfo⟩
          · exact hfk
          · rw [List.getElem?_drop] at hy
            have hlt2 : off + i < vs.length := by rw [← g2.1]; exact (List.getElem?_eq_some_iff.1 hy).1
            have h6 := hCA.at_ i vs[off + i] (by rw [List.getElem?_drop]; exact List.getElem?_eq_getElem hlt2)
            rw [hu] at h6
            cases h6
            have h7 := g2.2 _ y _ hy (List.getElem?_eq_getElem hlt2)
            cases y with
            | c y => cases hfo
            | own k o => cases hfo
            | p S => exact hfree b (h7.2 b hfo)
        | false =>
          rw [hb] at ht
          cases hkk : frzB s k j' with
          | false => rw [hkk] at ht; simp at ht
          | true => rw [hkk] at ht; simp at ht; subst ht; exact h3
      · rename_i av' heq
        cases heq
        cases hc : AV.closedB o with
        | false => rw [hc] at ht; simp at ht
        | true => rw [hc] at ht; simp at ht; subst ht; exact h3
      · rename_i heq; cases heq
  · obtain ⟨h1, h2⟩ := hmem j ds hj
    obtain ⟨us, tj, q1, q2, q3⟩ := hR.mm j ds h2
    exact ⟨us, tj, q1, q2.map (fun b hb _ => ⟨hfree b hb, rfl⟩) fun _ _ _ _ => rfl, q3⟩
section
variable {P : Program} {x y : Code} {Q : Exit → AS → Prop} {s : AS}
theorem awt_awp (h : AWp P x Q s) : AWt P x Q s := fun ok W A ρ a w hR => (h ok (Base.all W) A ρ a w hR).top
theorem awt_seq (h : AWt P x (athen (fun s' => AWt P y Q s') Q) s) : AWt P (.seq x y) Q s := by
  intro ok W A ρ a w hR
  refine wp_seq (wp_mono (h ok W A ρ a w hR) ?_)
  rintro e a' w' ⟨s', ρ', ok', hR', hq⟩
  cases e <;> first | exact hq ok' W A ρ' a' w' hR' | exact ⟨s', ρ', ok', hR', hq⟩
theorem awt_freeze (k : Nat) (cs : List AC) (hk : s.mem k = some cs) (hcl : cs.all AC.closedB = true) (h : AWt P x Q (frz s k cs)) : AWt P x Q s := by
  intro ok W A ρ a w hR
  exact h (frz_ok ok) W A ρ a w (frz_rel hk hcl hR)
end
end Go.Proofs.Ytlfkllmnekdghaa

namespace Go.Proofs.Ytlfkllmnekdghaa
open Go.RowKit
set_option linter.unusedVariables false
set_option linter.unusedSimpArgs false
/-- the mark that a range over a function leaves among the deferred calls. -/
def mkD (D : Nat) : Deferred := { target := .collected D, args := #[] }
/-- the marks' blocks are shut. -/
def shut : World → List Nat → World
  | w, [] => w
  | w, D :: Ds => shut (w.putObj D (.deferred none)) Ds
theorem shut_size : ∀ (Ds : List Nat) (w : World), (shut w Ds).heap.size = w.heap.size
  | [], _ => rfl
  | D :: Ds, w => (shut_size Ds _).trans World.putObj_size
theorem shut_block : ∀ (Ds : List Nat) (w : World) (b : Nat), b ∉ Ds → (shut w Ds).heap[b]? = w.heap[b]?
  | [], _, _, _ => rfl
  | D :: Ds, w, b, h => (shut_block Ds _ b fun hb => h (List.mem_cons_of_mem _ hb)).trans (World.putObj_heap_other fun e => h (by rw [e]; exact List.mem_cons_self ..))
theorem shut_os : ∀ (Ds : List Nat) (w : World), (shut w Ds).os = w.os ∧ (shut w Ds).tape = w.tape ∧ (shut w Ds).output = w.output
  | [], _ => ⟨rfl, rfl, rfl⟩
  | D :: Ds, w => shut_os Ds (w.putObj D (.deferred none))
theorem leaves_marks {P : Program} {fn : Func} {tmps : Array Value} {R : Ending → World → Prop} : ∀ (Ds : List Nat) (w : World), Ds.Nodup → (∀ D ∈ Ds, w.heap[D]? = some (.deferred (some []))) →
    (∃ v, (results fn tmps).run P (shut w Ds) = .ok v (shut w Ds) ∧ R (.returned v) (shut w Ds)) → LeavesInM Fence.wide 0 P fn tmps R (Ds.map mkD) .returning w
  | [], w, _, _, h => h
  | D :: Ds, w, nd, hD, h => by
    have nd' := List.nodup_cons.1 nd
    refine ⟨fun h => (by cases h), .inl ⟨D, _, rfl, run_takeDeferred (hD D (List.mem_cons_self ..)), leaves_marks Ds _ nd'.2 (fun E hE => ?_) h⟩⟩
    exact (World.putObj_heap_other fun e => nd'.1 (by rw [← e]; exact hE)).trans (hD E (List.mem_cons_of_mem _ hE))
theorem calls_of_marks {P : Program} {f : FuncId} {fn : Func} {c : Code} {args : Array Value} {w : World} {R : Ending → World → Prop} (hf : P.funcs[f]? = some fn) (hb : fn.body = some c)
    (h : c.wp P (fun e a' w' => (e = .normal ∨ e = .ret) ∧ ∃ Ds : List Nat, a'.defers = Ds.map mkD ∧ Ds.Nodup ∧ (∀ D ∈ Ds, w'.heap[D]? = some (.deferred (some []))) ∧ ∃ v, (results fn a'.tmps).run P (shut w' Ds) = .ok v (shut w' Ds) ∧ R (.returned v) (shut w' Ds))
      { tmps := args ++ Array.replicate (fn.ntmps - args.size) undef, defers := [] } w) : Calls P f args w R := by
  refine callsIn_wide.1 (callsIn_of_wp_marks (n := 0) hf hb trivial (wpIn_mono (wpIn_wide.2 h) ?_))
  rintro e a' w' ⟨he, Ds, h1, h2, h3, h4⟩
  rcases he with rfl | rfl
  · show LeavesInM _ _ _ _ _ _ a'.defers _ _
    rw [h1]; exact leaves_marks Ds w' h2 h3 h4
  · show LeavesInM _ _ _ _ _ _ a'.defers _ _
    rw [h1]; exact leaves_marks Ds w' h2 h3 h4
/-- a base's marks. -/
structure Mk (B : Base) (A : Nat → Prop) (Ds : List Nat) : Prop where
  eq : B.marks = Ds.map mkD
  nd : Ds.Nodup
  blk : ∀ D ∈ Ds, B.F D ∧ ¬ A D ∧ B.W.heap[D]? = some (.deferred (some []))
  nn : B.N = fun _ => none
/-- a base that is told anew. -/
structure Ext (B : Base) (A : Nat → Prop) (Ds : List Nat) (B' : Base) (A' : Nat → Prop) (Ds' : List Nat) : Prop where
  below : BelowB B B'.W
  sub : ∀ b, B.F b → B'.F b
  up : ∀ b, A' b → A b
  nw : ∀ D ∈ Ds', D ∈ Ds ∨ ¬ B.F D
theorem Ext.refl (B : Base) (A : Nat → Prop) (Ds : List Nat) : Ext B A Ds B A Ds := ⟨BelowB.refl B, fun _ h => h, fun _ h => h, fun _ h => .inl h⟩
theorem BelowB.through {B B' : Base} {w : World} (h : BelowB B B'.W) (hs : ∀ b, B.F b → B'.F b) (k : BelowB B' w) : BelowB B w :=
  ⟨k.os.trans h.os, k.tape.trans h.tape, k.output.trans h.output, Nat.le_trans h.size k.size, fun b hb => (k.block b (hs b hb)).trans (h.block b hb)⟩
theorem Ext.trans {B B' B'' : Base} {A A' A'' : Nat → Prop} {Ds Ds' Ds'' : List Nat} (h : Ext B A Ds B' A' Ds') (k : Ext B' A' Ds' B'' A'' Ds'') : Ext B A Ds B'' A'' Ds'' := ⟨h.below.through h.sub k.below, fun b hb => k.sub b (h.sub b hb), fun b hb => h.up b (k.up b hb), fun D hD => (k.nw D hD).elim (h.nw D) fun hn => .inr fun hf => hn (h.sub D hf)⟩
/-- code of a function's own level, ranges over functions among it. -/
def RWt (P : Program) (c : Code) (Q : Exit → Rws → AS → Prop) (R : Rws) (s : AS) : Prop :=
  s.Ok → ∀ B0 A0 a w Ds, Mk B0 A0 Ds → RRel B0 A0 R s a w → c.wp P (fun e a' w' => ∃ R' s' B' A' Ds', s'.Ok ∧ Mk B' A' Ds' ∧ Ext B0 A0 Ds B' A' Ds' ∧ RRel B' A' R' s' a' w' ∧ Q e R' s') a w
section
variable {P : Program} {x y c : Code} {Q : Exit → Rws → AS → Prop} {R : Rws} {s : AS}
theorem rwt_rwp (h : RWp P x Q R s) : RWt P x Q R s := fun ok B0 A0 a w Ds hm hR => wp_mono (h ok B0 A0 a w hR).top fun e a' w' ⟨R', s', ok', hR', hq⟩ => ⟨R', s', B0, A0, Ds, ok', hm, Ext.refl _ _ _, hR', hq⟩
theorem rwt_seq (h : RWt P x (rthen (fun R s => RWt P y Q R s) Q) R s) : RWt P (.seq x y) Q R s := by
  intro ok B0 A0 a w Ds hm hR
  refine wp_seq (wp_mono (h ok B0 A0 a w Ds hm hR) ?_)
  rintro e a' w' ⟨R', s', B', A', Ds', ok', hm', he', hR', hq⟩
  cases e <;> first | exact wp_mono (hq ok' B' A' a' w' Ds' hm' hR') (fun e a2 w2 ⟨R2, s2, B2, A2, Ds2, ok2, hm2, he2, hR2, hq2⟩ => ⟨R2, s2, B2, A2, Ds2, ok2, hm2, he'.trans he2, hR2, hq2⟩) | exact ⟨R', s', B', A', Ds', ok', hm', he', hR', hq⟩
theorem rwt_block {id : Nat} (h : RWt P x (rblock id Q) R s) : RWt P (.block id x) Q R s := by
  intro ok B0 A0 a w Ds hm hR
  refine wp_block (wp_mono (h ok B0 A0 a w Ds hm hR) ?_)
  rintro e a' w' ⟨R', s', B', A', Ds', ok', hm', he', hR', hq⟩
  cases e with
  | exit id' =>
    simp only [Exit.inBlock]
    simp only [rblock] at hq
    cases hb : Nat.beq id' id with
    | true => rw [hb] at hq; rw [if_pos (Nat.eq_of_beq_eq_true hb)]; exact ⟨R', s', B', A', Ds', ok', hm', he', hR', hq⟩
    | false =>
      rw [hb] at hq
      have : id' ≠ id := fun e => by subst e; rw [Nat.beq_refl] at hb; cases hb
      rw [if_neg this]; exact ⟨R', s', B', A', Ds', ok', hm', he', hR', hq⟩
  | _ => exact ⟨R', s', B', A', Ds', ok', hm', he', hR', hq⟩
/-- a function with ranges over functions. -/
theorem pcall_of_bodyR {f : FuncId} {fn : Func} {args : List AV} {r : AV} (hf : P.funcs[f]? = some fn) (hb : fn.body = some c) (hn : args.length ≤ fn.ntmps) (ca : ∀ x ∈ args, x.closed) (cr : r.closed)
    (h : RWt P c (fun e R' s' => apost P fn r e s') noRows (start fn.ntmps args)) : PCall P f args r := by
  refine ⟨ca, cr, fun U W vs hvs => ?_⟩
  have hl := hvs.1
  refine calls_of_marks hf hb ?_
  have ok : (start fn.ntmps args).Ok := ⟨fun t av j ht hj => absurd hj (ca av (List.mem_of_getElem? ht) j), fun k cs x j hk => by cases hk⟩
  have hR : Rel (Base.all W) (fun b => U b ∨ W.heap.size ≤ b) (start fn.ntmps args) id { tmps := vs.toArray ++ Array.replicate (fn.ntmps - vs.toArray.size) undef, defers := [] } W := by
    refine ⟨rfl, by simp [start]; omega, fun t av ht => ?_, (fun k cs hk => by cases hk), (fun k k' cs cs' hk => by cases hk), BelowB.refl (Base.all W), fun b hb => .inr hb, fun k b hk => (by cases hk)⟩
    have hlt : t < vs.length := by rw [← hl]; exact (List.getElem?_eq_some_iff.1 ht).1
    refine ⟨vs[t], by simp [Array.getElem?_append, hlt], ?_⟩
    exact (hvs.2 t av _ ht (List.getElem?_eq_getElem hlt)).map (fun b hb _ => ⟨⟨.inl hb, fun k cs hk => by cases hk⟩, rfl⟩) fun _ _ => rfl
  have hH : RR (Base.all W) (fun b => U b ∨ W.heap.size ≤ b) noRows (start fn.ntmps args) { tmps := vs.toArray ++ Array.replicate (fn.ntmps - vs.toArray.size) undef, defers := [] } W (fun b => U b ∨ W.heap.size ≤ b) id :=
    ⟨hR.up, fun _ h => h, hR.hot fun b h => hR.up b (Nat.le_trans hR.below.size h), fun k cs hk => (by cases hk), hR.below, fun i r hi => (by cases hi), fun i j r q hi => (by cases hi), fun i r g hi => (by cases hi), hR.anch⟩
  refine wp_mono (h ok (Base.all W) _ _ W [] ⟨rfl, List.nodup_nil, (fun D hD => by cases hD), rfl⟩ ⟨_, _, hH⟩) ?_
  rintro e a' w' ⟨R', s', B', A', Ds, ok', hm, hx, ⟨A1, ρ', hR'⟩, hq⟩
  have hdef : a'.defers = Ds.map mkD := hR'.rel.nodef.trans hm.eq
  have hblk : ∀ D ∈ Ds, w'.heap[D]? = some (.deferred (some [])) := fun D hD => (hR'.below.block D (hm.blk D hD).1).trans (hm.blk D hD).2.2
  have hnA : ∀ D ∈ Ds, ¬ A1 D := fun D hD h => (hm.blk D hD).2.1 (hR'.sub D h)
  have hown : ∀ k cs, s'.mem k = some cs → ρ' k ∉ Ds := fun k cs hk hD => hR'.mine k cs hk (hm.blk _ hD).1
  have hso := shut_os Ds w'
  have hR2 : Rel ⟨shut w' Ds, fun _ => False, fun _ h => h.elim, fun _ => none, B'.marks⟩ A1 s' ρ' a' (shut w' Ds) :=
    hR'.rel.anew (fun b hb _ => ⟨hb, shut_block Ds w' b fun hD => hnA b hD hb⟩) (fun k cs hk => ⟨shut_block Ds w' _ (hown k cs hk), fun hf => hf⟩) (BelowB.refl _) (fun b hb => hR'.rel.up b (show w'.heap.size ≤ b by rw [← shut_size Ds w']; exact hb)) (fun k b hk => by cases hk)
  have fin : (∃ xs, fn.results.toList.map (resOf P s') = xs.map some ∧ (packed xs).Le r) → ∃ v, (results fn a'.tmps).run P (shut w' Ds) = .ok v (shut w' Ds) ∧ ∃ u, Ending.returned v = .returned u ∧ RpV (fun b => U b ∨ W.heap.size ≤ b) id (shut w' Ds) r u ∧ Below W.heap.size W (shut w' Ds) := by
    rintro ⟨xs, h1, h2⟩
    obtain ⟨v, q1, q2⟩ := results_sound hR2 h1
    refine ⟨v, q1, v, rfl, (h2 _ _ _ _ q2).map (fun b hb _ => ⟨hx.up b (hR'.sub b hb.1), rfl⟩) fun j hj => absurd hj (cr j), ?_⟩
    have hbel := (hx.below.through hx.sub hR'.below).all
    refine ⟨hso.1.trans hbel.os, hso.2.1.trans hbel.tape, hso.2.2.trans hbel.output, by rw [shut_size]; exact hbel.size, fun b hb => (shut_block Ds w' b fun hD => ?_).trans (hbel.block b hb)⟩
    rcases hx.nw b hD with h | h
    · cases h
    · exact h hb
  cases e with
  | normal => exact ⟨.inl rfl, Ds, hdef, hm.nd, hblk, fin hq⟩
  | ret => exact ⟨.inr rfl, Ds, hdef, hm.nd, hblk, fin hq⟩
  | _ => exact hq.elim
end
end Go.Proofs.Ytlfkllmnekdghaa

namespace Go.Proofs.Ytlfkllmnekdghaa
open Go.RowKit
set_option linter.unusedVariables false
set_option linter.unusedSimpArgs false
/-- what a round has made is the ranging frame's. -/
def extC (C : Nat → Prop) (W W' : World) : Nat → Prop := fun b => C b ∨ (W.heap.size ≤ b ∧ b < W'.heap.size)
/-- a round turns these blocks alone. -/
structure Grew (C : Nat → Prop) (W W' : World) : Prop where
  os : W'.os = W.os
  tape : W'.tape = W.tape
  output : W'.output = W.output
  size : W.heap.size ≤ W'.heap.size
  block : ∀ b, b < W.heap.size → ¬ C b → W'.heap[b]? = W.heap[b]?
/-- what is said hangs on elder blocks and on these alone. -/
def Abd (n : Nat) (J : (Nat → Prop) → World → Prop) : Prop :=
  ∀ C A B, J C A → B.os = A.os → B.tape = A.tape → B.output = A.output → A.heap.size ≤ B.heap.size → (∀ b, b < A.heap.size → (b < n ∨ C b) → B.heap[b]? = A.heap[b]?) → J C B
/-- an iterator: it hands these on, in their order, until it is told to stop; it leaves what is not its own. -/
def ISeq (P : Program) (S : SP) (xs : List (List AV)) : Prop :=
  ∀ (U : Nat → Prop) (W : World) (fv : Value), RpC U id W (.p S) fv →
    ∃ (gf : FuncId) (lb : Array Value), fv = .func (.func gf) #[] lb ∧ (∀ args w, (callFunc gf args).run P w = .ok (.enter gf args) w) ∧
      ∀ (l : Nat) (C0 : Nat → Prop) (J : Nat → (Nat → Prop) → World → Prop) (Jx : (Nat → Prop) → World → Prop),
        (∀ b, C0 b → ¬ U b ∧ b < W.heap.size) → (∀ i, Abd W.heap.size (J i)) → Abd W.heap.size Jx →
        (∀ (i : Nat) C W1 x v, J i C W1 → (∀ b, C b → C0 b ∨ W.heap.size ≤ b) → xs[i]? = some x → RpVs U id W x v.toList → YieldAt Fence.wide 0 P l v W1 fun e W' => Grew C W1 W' ∧ ((e = .returned (.bool true) ∧ J (i + 1) (extC C W1 W') W') ∨ (e = .returned (.bool false) ∧ Jx (extC C W1 W') W'))) →
        J 0 C0 W → CallsIn Fence.wide 0 P gf (#[.func (.yield l) #[] #[]] ++ lb) W fun e W' => (∃ v, e = .returned v) ∧ ∃ C', J xs.length C' W' ∨ Jx C' W'
section
variable {P : Program} {B0 : Base} {A0 A : Nat → Prop} {R : Rws} {s : AS} {a : Act} {w : World} {ρ : Nat → Nat}
theorem RR.own_cells (h : RR B0 A0 R s a w A ρ) {k : Nat} {cs : List AC} (hk : s.mem k = some cs) : ∃ vs ty, w.heap[ρ k]? = some (.cells vs ty (0, 0)) := by
  obtain ⟨vs, ty, h1, _⟩ := h.rel.mm k cs hk
  exact ⟨_, _, h1⟩
/-- of rows of plain things. -/
def PlainR (R : Rws) : Prop := ∀ i r, R i = some r → 0 < r.sz
theorem RR.row_cells (h : RR B0 A0 R s a w A ρ) {i : Nat} {r : HRow} {g : Nat} (hi : R i = some r) (hz : 0 < r.sz) (hg : r.own g) : ∃ vs ty, w.heap[g]? = some (.cells vs ty (0, 0)) := by
  obtain ⟨xs, ho, _⟩ := (h.rows i r hi).cells hz
  have hg' := HRow.own_row hg hz
  rcases ho.2 with ⟨e, _⟩ | ⟨g', cap, cur, hv, _, hh, _⟩
  · rw [e] at hg'; cases hg'
  · rw [hv] at hg'; simp [Value.ownBlock] at hg'; subst hg'; exact ⟨_, _, hh⟩
/-- another block's turn: one that is protected, and none of the facts hangs on. -/
theorem RR.putObj (h : RR B0 A0 R s a w A ρ) (l : Nat) (o : Obj) (hF : B0.F l) (hA : ¬ A0 l) : RR { B0 with W := B0.W.putObj l o, lt := fun b hb => by rw [World.putObj_size]; exact B0.lt b hb } A0 R s a (w.putObj l o) A ρ := by
  have hne : ∀ b, A b → b ≠ l := fun b hb e => hA (h.sub l (e ▸ hb))
  have hown : ∀ k cs, s.mem k = some cs → ρ k ≠ l := fun k cs hk e => h.mine k cs hk (e ▸ hF)
  have hrow : ∀ i r g, R i = some r → r.own g → g ≠ l := fun i r g hi hg e => (h.hot i r g hi hg).1 (e ▸ hF)
  have hl : l < w.heap.size := Nat.lt_of_lt_of_le (B0.lt l hF) h.below.size
  refine ⟨fun b hb => h.up b (by rw [World.putObj_size] at hb; exact hb), h.sub, ?_, h.mine, ⟨h.below.os, h.below.tape, h.below.output, by rw [World.putObj_size, World.putObj_size]; exact h.below.size, fun b hb => ?_⟩, fun i r hi => ?_, h.apart, h.hot, h.anch⟩
  · exact h.rel.anew (fun b hb _ => ⟨hb, World.putObj_heap_other (hne b hb)⟩) (fun k cs hk => ⟨World.putObj_heap_other (hown k cs hk), fun hf => hf.2 k cs hk rfl⟩) (BelowB.refl _) (fun b hb => h.rel.up b (by rw [show (hbase _ s ρ (w.putObj l o)).W.heap.size = w.heap.size from World.putObj_size] at hb; exact hb)) (hbase_anch _ _ _)
  · by_cases e : b = l
    · subst e
      rw [World.putObj_heap_same hl]
      exact (World.putObj_heap_same (B0.lt b hF)).symm
    · rw [World.putObj_heap_other e]
      exact (h.below.block b hb).trans (World.putObj_heap_other e).symm
  · obtain ⟨k0, kc, kg⟩ := h.rows i r hi
    exact ⟨k0.kept kc (fun g hg => World.putObj_heap_other (hrow i r g hi hg)) (by rw [World.putObj_size]; exact Nat.le_refl _) fun b hb _ => ⟨hb, World.putObj_heap_other (hne b hb.1)⟩, kc, kg⟩
/-- the blocks that a frame may turn. -/
def hotS (s : AS) (ρ : Nat → Nat) (R : Rws) (b : Nat) : Prop := (∃ k cs, s.mem k = some cs ∧ ρ k = b) ∨ ∃ i r, R i = some r ∧ r.own b
/-- a round's base. -/
def rgB (N : Nat) (s : AS) (ρ : Nat → Nat) (R : Rws) (W : World) : Base := ⟨W, fun b => b < W.heap.size ∧ ¬ hotS s ρ R b, fun _ h => h.1, fun k => if N ≤ k then some (ρ k) else none, []⟩
def rgA (A : Nat → Prop) (R : Rws) (W : World) (b : Nat) : Prop := A b ∨ (∃ i r, R i = some r ∧ r.own b) ∨ W.heap.size ≤ b
def setL (tm : Array Value) (l : List (Nat × Value)) : Array Value := l.foldl (fun t p => t.setIfInBounds p.1 p.2) tm
theorem setL_size : ∀ (l : List (Nat × Value)) (tm : Array Value), (setL tm l).size = tm.size
  | [], _ => rfl
  | p :: l, tm => (setL_size l _).trans (by simp)
theorem setL_other : ∀ (l : List (Nat × Value)) (tm : Array Value) (t : Nat), (∀ p ∈ l, p.1 ≠ t) → (setL tm l)[t]? = tm[t]?
  | [], _, _, _ => rfl
  | p :: l, tm, t, h => (setL_other l _ t fun q hq => h q (List.mem_cons_of_mem _ hq)).trans (Array.getElem?_setIfInBounds_ne (h p (List.mem_cons_self ..)))
theorem setL_tm {U : Nat → Prop} {W : World} {ts : List (Nat × AV)} : ∀ (ps : List Nat) (x : List AV) (v : List Value) (tm : Array Value), ps.Nodup → ps.length = x.length → x.length = v.length → (∀ p ∈ ps, p < tm.size ∧ lkp ts p = none) →
    (∀ (i : Nat) y u, x[i]? = some y → v[i]? = some u → RpV U ρ W y u) → (∀ t av, lkp ts t = some av → ∃ u, tm[t]? = some u ∧ RpV U ρ W av u) →
    ∀ t av, lkp (ps.zip x ++ ts) t = some av → ∃ u, (setL tm (ps.zip v))[t]? = some u ∧ RpV U ρ W av u
  | [], x, v, tm, _, _, _, _, _, h, t, av, ht => by
    have : (([] : List Nat).zip x ++ ts) = ts := rfl
    rw [this] at ht
    exact h t av ht
  | p :: ps, [], v, tm, _, h, _, _, _, _, _, _, _ => by cases h
  | p :: ps, y :: x, [], tm, _, _, h, _, _, _, _, _, _ => by cases h
  | p :: ps, y :: x, u :: v, tm, nd, h1, h2, hp, hx, h, t, av, ht => by
    have nd' := List.nodup_cons.1 nd
    have hpp := hp p (List.mem_cons_self ..)
    show ∃ z, (setL (tm.setIfInBounds p u) (ps.zip v))[t]? = some z ∧ _
    have ht' : lkp ((p, y) :: (ps.zip x ++ ts)) t = some av := ht
    by_cases e : t = p
    · subst e
      simp only [lkp, Nat.beq_refl] at ht'
      cases ht'
      refine ⟨u, ?_, hx 0 y u rfl rfl⟩
      rw [setL_other _ _ _ fun q hq e => nd'.1 (by rw [← e]; exact (List.of_mem_zip hq).1)]
      exact Array.getElem?_setIfInBounds_self_of_lt hpp.1
    · have hb : Nat.beq t p = false := by
        cases hb : Nat.beq t p with
        | false => rfl
        | true => exact absurd (Nat.eq_of_beq_eq_true hb) e
      simp only [lkp, hb] at ht'
      refine setL_tm ps x v (tm.setIfInBounds p u) nd'.2 (by simpa using h1) (by simpa using h2) (fun q hq => ⟨by simpa using (hp q (List.mem_cons_of_mem _ hq)).1, (hp q (List.mem_cons_of_mem _ hq)).2⟩) (fun i y' u' hy hu => hx (i + 1) y' u' (by simpa using hy) (by simpa using hu)) (fun t' av' h' => ?_) t av ht'
      obtain ⟨z, hz, hr⟩ := h t' av' h'
      refine ⟨z, ?_, hr⟩
      rw [Array.getElem?_setIfInBounds_ne fun e' => ?_]
      · exact hz
      · rw [← e', hpp.2] at h'; cases h'
/-- what holds between two rounds. -/
structure Jc (B0 : Base) (A0 : Nat → Prop) (N : Nat) (ts : List (Nat × AV)) (ks : List Nat) (a : Act) (ρ0 : Nat → Nat) (W1 : World) (C0 U : Nat → Prop) (D l : Nat) (rd : Loop) (Iq : Rws → List (List AC) → Prop) (C : Nat → Prop) (W : World) (R : Rws) (css : List (List AC)) (A : Nat → Prop) (ρ : Nat → Nat) : Prop where
  iq : Iq R css
  ok : okB ts (ks.zip css) = true
  len : css.length = ks.length
  pl : PlainR R
  rr : RR B0 A0 R (mkS N ts (ks.zip css)) a W A ρ
  rho : ∀ k, N ≤ k → ρ k = ρ0 k
  nD : ¬ A D
  nl : ¬ A l
  hD : W.heap[D]? = some (.deferred (some []))
  hl : W.heap[l]? = some (.loop rd)
  cown : ∀ k ∈ ks, C (ρ0 k)
  crow : ∀ i r g, R i = some r → r.own g → C g
  cD : C D
  cl : C l
  c0 : ∀ b, C b → C0 b ∨ W1.heap.size ≤ b
  clt : ∀ b, C b → b < W.heap.size
  aC : ∀ b, A b → b < W.heap.size → b < W1.heap.size ∨ C b
  uA : ∀ b, U b → b < W1.heap.size → A b
  same : ∀ b, b < W1.heap.size → ¬ C0 b → W.heap[b]? = W1.heap[b]?
  sz : W1.heap.size ≤ W.heap.size
  b1 : B0.W.heap.size ≤ W1.heap.size
def JJ (B0 : Base) (A0 : Nat → Prop) (N : Nat) (ts : List (Nat × AV)) (ks : List Nat) (a : Act) (ρ0 : Nat → Nat) (W1 : World) (C0 U : Nat → Prop) (D l : Nat) (rd : Loop) (Iq : Rws → List (List AC) → Prop) (C : Nat → Prop) (W : World) : Prop :=
  ∃ R css A ρ, Jc B0 A0 N ts ks a ρ0 W1 C0 U D l rd Iq C W R css A ρ
theorem zip_key {ks : List Nat} {css : List (List AC)} {k : Nat} {cs : List AC} (h : lkp (ks.zip css) k = some cs) : k ∈ ks := (List.of_mem_zip (lkp_mem _ h)).1
theorem lkp_zip {α : Type} : ∀ {ks : List Nat} {css : List α} {k : Nat}, css.length = ks.length → k ∈ ks → ∃ cs, lkp (ks.zip css) k = some cs
  | j :: ks, c :: css, k, hl, hk => by
    show ∃ cs, (bif Nat.beq k j then some c else lkp (ks.zip css) k) = some cs
    cases hb : Nat.beq k j with
    | true => exact ⟨c, rfl⟩
    | false =>
      rcases List.mem_cons.1 hk with rfl | hk
      · rw [Nat.beq_refl] at hb; cases hb
      · exact lkp_zip (by simpa using hl) hk
  | [], css, k, _, hk => by cases hk
  | j :: ks, [], k, hl, _ => by cases hl
section
variable {N : Nat} {ts : List (Nat × AV)} {ks : List Nat} {ρ0 : Nat → Nat} {W1 W : World} {C0 U C : Nat → Prop} {D l : Nat} {rd : Loop} {Iq : Rws → List (List AC) → Prop} {css : List (List AC)}
/-- the iterator's own steps leave that. -/
theorem jj_abd (hks : ∀ k ∈ ks, N ≤ k) : Abd W1.heap.size (JJ B0 A0 N ts ks a ρ0 W1 C0 U D l rd Iq) := by
  rintro C WA WB ⟨R, css, A, ρ, h⟩ e1 e2 e3 hs hsame
  have hbA : B0.W.heap.size ≤ WA.heap.size := h.rr.below.size
  have hcC : ∀ b, C b → WB.heap[b]? = WA.heap[b]? := fun b hb => hsame b (h.clt b hb) (.inr hb)
  have hU : ∀ b, A b → b < WA.heap.size → ((A b ∧ b < WA.heap.size) ∨ WB.heap.size ≤ b) ∧ WB.heap[b]? = WA.heap[b]? := fun b hb hl => ⟨.inl ⟨hb, hl⟩, hsame b hl (h.aC b hb hl)⟩
  have hown : ∀ k cs, (mkS N ts (ks.zip css)).mem k = some cs → C (ρ k) := fun k cs hk => by
    have hm := zip_key hk
    rw [h.rho k (hks k hm)]; exact h.cown k hm
  have hrel : Rel (hbase B0 (mkS N ts (ks.zip css)) ρ WB) (fun b => (A b ∧ b < WA.heap.size) ∨ WB.heap.size ≤ b) (mkS N ts (ks.zip css)) ρ a WB :=
    h.rr.rel.anew hU (fun k cs hk => ⟨hcC _ (hown k cs hk), fun hf => hf.2 k cs hk rfl⟩) (BelowB.refl _) (fun b hb => .inr hb) (hbase_anch _ _ _)
  refine ⟨R, css, fun b => (A b ∧ b < WA.heap.size) ∨ WB.heap.size ≤ b, ρ, h.iq, h.ok, h.len, h.pl, ⟨h.rr.up, ?_, hrel, h.rr.mine, ⟨e1.trans h.rr.below.os, e2.trans h.rr.below.tape, e3.trans h.rr.below.output, Nat.le_trans hbA hs, fun b hb => ?_⟩, fun i r hi => ?_, h.rr.apart, h.rr.hot, h.rr.anch⟩, h.rho, ?_, ?_, (hcC _ h.cD).trans h.hD, (hcC _ h.cl).trans h.hl, h.cown, h.crow, h.cD, h.cl, h.c0, fun b hb => Nat.lt_of_lt_of_le (h.clt b hb) hs, ?_, fun b hb hl => .inl ⟨h.uA b hb hl, Nat.lt_of_lt_of_le hl h.sz⟩, fun b hb hc => (hsame b (Nat.lt_of_lt_of_le hb h.sz) (.inl hb)).trans (h.same b hb hc), Nat.le_trans h.sz hs, h.b1⟩
  · rintro b (hb | hb)
    · exact h.rr.sub b hb.1
    · exact h.rr.up b (by omega)
  · have hl := B0.lt b hb
    exact (hsame b (by omega) (.inl (by have := h.b1; omega))).trans (h.rr.below.block b hb)
  · obtain ⟨k0, kc, kg⟩ := h.rr.rows i r hi
    refine ⟨k0.kept kc (fun g hg => hcC g (h.crow i r g hi hg)) hs fun b hb hl => ⟨⟨(hU b hb.1 hl).1, hb.2⟩, (hU b hb.1 hl).2⟩, kc, fun g hg => ⟨?_, (kg g hg).2⟩⟩
    rintro (hb | hb)
    · exact (kg g hg).1 hb.1
    · have := h.clt g (h.crow i r g hi hg); omega
  · rintro (hb | hb)
    · exact h.nD hb.1
    · have := h.clt _ h.cD; omega
  · rintro (hb | hb)
    · exact h.nl hb.1
    · have := h.clt _ h.cl; omega
  · rintro b (hb | hb) hl
    · exact h.aC b hb.1 hb.2
    · omega
end
end
end Go.Proofs.Ytlfkllmnekdghaa

namespace Go.Proofs.Ytlfkllmnekdghaa
open Go.RowKit
set_option linter.unusedVariables false
set_option linter.unusedSimpArgs false
section
variable {P : Program} {B0 : Base} {A0 A : Nat → Prop} {R : Rws} {s : AS} {a : Act} {w W : World} {ρ : Nat → Nat} {N : Nat} {ts : List (Nat × AV)} {ms : List (Nat × List AC)}
/-- a round's frame goes along with the round's base. -/
theorem rr_enter (h : RR B0 A0 R (mkS N ts ms) a W A ρ) {ps : List Nat} {x : List AV} {v : List Value} (nd : ps.Nodup) (h1 : ps.length = x.length) (h2 : x.length = v.length) (hp : ∀ p ∈ ps, p < N ∧ lkp ts p = none)
    (hx : ∀ (i : Nat) y u, x[i]? = some y → v[i]? = some u → RpV ((mkS N ts ms).free A ρ) ρ W y u) :
    RR (rgB N (mkS N ts ms) ρ R W) (rgA A R W) R (mkS N (ps.zip x ++ ts) ms) { tmps := setL a.tmps (ps.zip v), defers := [] } W A ρ := by
  refine ⟨fun b hb => .inr (.inr hb), fun b hb => .inl hb, ⟨rfl, (setL_size _ _).trans h.rel.size, setL_tm ps x v a.tmps nd h1 h2 (fun p hp' => ⟨by rw [h.rel.size]; exact (hp p hp').1, (hp p hp').2⟩) hx h.rel.tm, fun k cs hk => ?_, h.rel.inj, BelowB.refl _, h.rel.up, hbase_anch _ _ _⟩, fun k cs hk hf => hf.2 (.inl ⟨k, cs, hk, rfl⟩), BelowB.refl _, fun i r hi => ?_, h.apart, fun i r g hi hg => ⟨fun hf => hf.2 (.inr ⟨i, r, hi, hg⟩), .inr (.inl ⟨i, r, hi, hg⟩)⟩, fun k b hk => ?_⟩
  · obtain ⟨vs, ty, g1, g2, g3⟩ := h.rel.mm k cs hk
    exact ⟨vs, ty, g1, g2, fun hf => hf.2 k cs hk rfl⟩
  · obtain ⟨k0, kc, kg⟩ := h.rows i r hi
    exact ⟨k0, kc, kg⟩
  · simp only [rgB] at hk
    split at hk
    · rename_i hn; exact ⟨hn, Option.some.inj hk⟩
    · cases hk
variable {ks : List Nat} {ρ0 ρ3 : Nat → Nat} {W1 W4 : World} {C0 U C : Nat → Prop} {D l : Nat} {rd rd' : Loop} {Iq In : Rws → List (List AC) → Prop} {css css' : List (List AC)} {R3 R' : Rws} {s3 : AS} {a3 : Act} {A3 : Nat → Prop} {Br : Base}
/-- behind a round. -/
theorem jc_back (hks : ∀ k ∈ ks, N ≤ k) (h : Jc B0 A0 N ts ks a ρ0 W1 C0 U D l rd Iq C W R css A ρ) (hnl : ¬ B0.F l)
    (hF : ∀ b, Br.F b ↔ b < W.heap.size ∧ ¬ hotS (mkS N ts (ks.zip css)) ρ R b) (hN : ∀ k, N ≤ k → Br.N k = some (ρ k)) (hV : ∀ b, b ≠ l → Br.W.heap[b]? = W.heap[b]?) (hsz : Br.W.heap.size = W.heap.size) (ho : Br.W.os = W.os ∧ Br.W.tape = W.tape ∧ Br.W.output = W.output)
    (h3 : RR Br (rgA A R W) R3 s3 a3 W4 A3 ρ3) (hi : In R' css') (hle : RLe R' R3) (hpl : PlainR R') (hlen : css'.length = ks.length) (hm : allT s3.mem (ks.zip css')) (hok : okB ts (ks.zip css') = true) (hl4 : W4.heap[l]? = some (.loop rd')) :
    Jc B0 A0 N ts ks a ρ0 W1 C0 U D l rd' In (extC C W W4) W4 R' css' (fun b => A3 b ∨ (A b ∧ b < W.heap.size)) ρ3 ∧ Grew C W W4 := by
  have hm' := allT_lkp _ hm
  have unch : ∀ b, b < W.heap.size → ¬ hotS (mkS N ts (ks.zip css)) ρ R b → b ≠ l → W4.heap[b]? = W.heap[b]? := fun b h1 h2 h3' => (h3.below.block b ((hF b).2 ⟨h1, h2⟩)).trans (hV b h3')
  have rho3 : ∀ k, N ≤ k → ρ3 k = ρ k := fun k hk => (h3.anch k _ (hN k hk)).2
  have hotC : ∀ b, hotS (mkS N ts (ks.zip css)) ρ R b → C b := by
    rintro b (⟨k, cs, hk, rfl⟩ | ⟨i, r, hi', hg⟩)
    · have hkk := zip_key hk
      rw [h.rho k (hks k hkk)]; exact h.cown k hkk
    · exact h.crow i r b hi' hg
  have hW4 : W.heap.size ≤ W4.heap.size := by rw [← hsz]; exact h3.below.size
  have hos : W4.os = W.os ∧ W4.tape = W.tape ∧ W4.output = W.output := ⟨h3.below.os.trans ho.1, h3.below.tape.trans ho.2.1, h3.below.output.trans ho.2.2⟩
  have hDl : D ≠ l := fun e => by have := h.hD; rw [e, h.hl] at this; cases this
  have notH : ∀ b o, W.heap[b]? = some o → (∀ vs ty, o ≠ .cells vs ty (0, 0)) → ¬ hotS (mkS N ts (ks.zip css)) ρ R b := by
    rintro b o hb hne (⟨k, cs, hk, rfl⟩ | ⟨i, r, hi', hg⟩)
    · obtain ⟨vs, ty, e⟩ := h.rr.own_cells hk
      rw [hb] at e; cases e; exact hne _ _ rfl
    · obtain ⟨vs, ty, e⟩ := h.rr.row_cells hi' (h.pl i r hi') hg
      rw [hb] at e; cases e; exact hne _ _ rfl
  have hDH := notH D _ h.hD (fun _ _ e => by cases e)
  have hlH := notH l _ h.hl (fun _ _ e => by cases e)
  have hDlt := h.clt D h.cD
  have hllt := h.clt l h.cl
  have B0F : ∀ b, B0.F b → (b < W.heap.size ∧ ¬ hotS (mkS N ts (ks.zip css)) ρ R b) ∧ b ≠ l := fun b hb => by
    refine ⟨⟨by have := B0.lt b hb; have := h.b1; have := h.sz; omega, ?_⟩, fun e => hnl (e ▸ hb)⟩
    rintro (⟨k, cs, hk, rfl⟩ | ⟨i, r, hi', hg⟩)
    · exact h.rr.mine k cs hk hb
    · exact (h.rr.hot i r b hi' hg).1 hb
  have rgAsub : ∀ b, rgA A R W b → A0 b := by
    rintro b (hb | ⟨i, r, hi', hg⟩ | hb)
    · exact h.rr.sub b hb
    · exact (h.rr.hot i r b hi' hg).2
    · exact h.rr.up b (by have := h.b1; have := h.sz; omega)
  have hU : ∀ b, (mkS N ts (ks.zip css)).free A ρ b → b < W.heap.size → (mkS N ts (ks.zip css')).free (fun b => A3 b ∨ (A b ∧ b < W.heap.size)) ρ3 b ∧ W4.heap[b]? = W.heap[b]? := fun b hb hlt => by
    refine ⟨⟨.inr ⟨hb.1, hlt⟩, fun k cs hk => ?_⟩, unch b hlt ?_ fun e => h.nl (e ▸ hb.1)⟩
    · have hkk := zip_key hk
      obtain ⟨cs0, h0⟩ := lkp_zip h.len hkk
      rw [rho3 k (hks k hkk)]
      exact hb.2 k cs0 h0
    · rintro (⟨k, cs, hk, e⟩ | ⟨i, r, hi', hg⟩)
      · exact hb.2 k cs hk e
      · exact ((h.rr.rows i r hi').own b hg).1 hb.1
  have hU3 : ∀ b, s3.free A3 ρ3 b → b < W4.heap.size → (mkS N ts (ks.zip css')).free (fun b => A3 b ∨ (A b ∧ b < W.heap.size)) ρ3 b ∧ W4.heap[b]? = W4.heap[b]? := fun b hb _ => ⟨⟨.inl hb.1, fun k cs hk => hb.2 k cs (hm' k cs hk)⟩, rfl⟩
  have okO := mkS_ok (n := N) h.ok
  have hrel : Rel (hbase B0 (mkS N ts (ks.zip css')) ρ3 W4) (fun b => A3 b ∨ (A b ∧ b < W.heap.size)) (mkS N ts (ks.zip css')) ρ3 a W4 := by
    refine ⟨h.rr.rel.nodef, h.rr.rel.size, fun t av ht => ?_, fun k cs hk => ?_, fun k k' c1 c2 hk hk' e => h3.rel.inj k k' c1 c2 (hm' k c1 hk) (hm' k' c2 hk') e, BelowB.refl _, fun b hb => .inl (h3.rel.up b hb), hbase_anch _ _ _⟩
    · obtain ⟨u, g1, g2⟩ := h.rr.rel.tm t av ht
      refine ⟨u, g1, g2.map hU fun j hj => ?_⟩
      obtain ⟨cs, hcs⟩ := okO.tm t av j ht hj
      exact rho3 j (hks j (zip_key hcs))
    · obtain ⟨vs, ty, g1, g2, g3⟩ := h3.rel.mm k cs (hm' k cs hk)
      exact ⟨vs, ty, g1, g2.map hU3 fun _ _ _ _ => rfl, fun hf => hf.2 k cs hk rfl⟩
  have rowA : ∀ i r g, R' i = some r → r.own g → ¬ (A g ∧ g < W.heap.size) := fun i r g hi' hg ⟨hA, hlt⟩ => by
    obtain ⟨hnF, _⟩ := h3.hot i r g (hle i r hi') hg
    have hh : hotS (mkS N ts (ks.zip css)) ρ R g := Classical.byContradiction fun hn => hnF ((hF g).2 ⟨hlt, hn⟩)
    rcases hh with ⟨k, cs, hk, e⟩ | ⟨i', r', hi2, hg2⟩
    · have hkk := zip_key hk
      obtain ⟨cs', h'⟩ := lkp_zip hlen hkk
      exact ((h3.rows i r (hle i r hi')).own g hg).2 k cs' (hm' k cs' h') (by rw [rho3 k (hks k hkk)]; exact e)
    · exact ((h.rr.rows i' r' hi2).own g hg2).1 hA
  have hrr : RR B0 A0 R' (mkS N ts (ks.zip css')) a W4 (fun b => A3 b ∨ (A b ∧ b < W.heap.size)) ρ3 := by
    refine ⟨h.rr.up, ?_, hrel, fun k cs hk => ?_, ⟨hos.1.trans h.rr.below.os, hos.2.1.trans h.rr.below.tape, hos.2.2.trans h.rr.below.output, Nat.le_trans h.rr.below.size hW4, fun b hb => ?_⟩, fun i r hi' => ?_, fun i j r q hi' hj => h3.apart i j r q (hle i r hi') (hle j q hj), fun i r g hi' hg => ?_, fun k b hk => ?_⟩
    · rintro b (hb | hb)
      · exact rgAsub b (h3.sub b hb)
      · exact h.rr.sub b hb.1
    · have hkk := zip_key hk
      obtain ⟨cs0, h0⟩ := lkp_zip h.len hkk
      rw [rho3 k (hks k hkk)]
      exact h.rr.mine k cs0 h0
    · obtain ⟨⟨q1, q2⟩, q3⟩ := B0F b hb
      exact (unch b q1 q2 q3).trans (h.rr.below.block b hb)
    · obtain ⟨k0, kc, kg⟩ := h3.rows i r (hle i r hi')
      refine ⟨k0.kept kc (fun _ _ => rfl) (Nat.le_refl _) hU3, kc, fun g hg => ⟨?_, fun k cs hk => (kg g hg).2 k cs (hm' k cs hk)⟩⟩
      rintro (hb | hb)
      · exact (kg g hg).1 hb
      · exact rowA i r g hi' hg hb
    · obtain ⟨q1, q2⟩ := h3.hot i r g (hle i r hi') hg
      exact ⟨fun hf => q1 ((hF g).2 (B0F g hf).1), rgAsub g q2⟩
    · obtain ⟨q1, q2⟩ := h.rr.anch k b hk
      exact ⟨q1, (rho3 k q1).trans q2⟩
  have nrA : ∀ b, ¬ A b → b < W.heap.size → ¬ hotS (mkS N ts (ks.zip css)) ρ R b → ¬ (A3 b ∨ (A b ∧ b < W.heap.size)) := by
    rintro b q1 q2 q3 (hb | hb)
    · rcases h3.sub b hb with hb | ⟨i, r, hi', hg⟩ | hb
      · exact q1 hb
      · exact q3 (.inr ⟨i, r, hi', hg⟩)
      · omega
    · exact q1 hb.1
  refine ⟨⟨hi, hok, hlen, hpl, hrr, fun k hk => (rho3 k hk).trans (h.rho k hk), nrA D h.nD hDlt hDH, nrA l h.nl hllt hlH, (unch D hDlt hDH hDl).trans h.hD, hl4, fun k hk => .inl (h.cown k hk), fun i r g hi' hg => ?_, .inl h.cD, .inl h.cl, ?_, ?_, ?_, fun b hb hlt => .inr ⟨h.uA b hb hlt, Nat.lt_of_lt_of_le hlt h.sz⟩, fun b hb hc => ?_, Nat.le_trans h.sz hW4, h.b1⟩, ⟨hos.1, hos.2.1, hos.2.2, hW4, fun b hb hc => unch b hb (fun hh => hc (hotC b hh)) fun e => hc (e ▸ h.cl)⟩⟩
  · have hlt4 := (h3.rows i r (hle i r hi')).ok.lt hg
    rcases Nat.lt_or_ge g W.heap.size with hg' | hg'
    · have hnF := (h3.hot i r g (hle i r hi') hg).1
      exact .inl (hotC g (Classical.byContradiction fun hn => hnF ((hF g).2 ⟨hg', hn⟩)))
    · exact .inr ⟨hg', hlt4⟩
  · rintro b (hb | hb)
    · exact h.c0 b hb
    · exact .inr (Nat.le_trans h.sz hb.1)
  · rintro b (hb | hb)
    · exact Nat.lt_of_lt_of_le (h.clt b hb) hW4
    · exact hb.2
  · rintro b (hb | hb) hlt
    · rcases h3.sub b hb with hb | ⟨i, r, hi', hg⟩ | hb
      · rcases Nat.lt_or_ge b W.heap.size with q | q
        · exact (h.aC b hb q).imp id .inl
        · exact .inr (.inr ⟨q, hlt⟩)
      · exact .inr (.inl (h.crow i r b hi' hg))
      · exact .inr (.inr ⟨hb, hlt⟩)
    · exact (h.aC b hb.1 hb.2).imp id .inl
  · have hnC : ¬ C b := fun hC => (h.c0 b hC).elim hc fun q => by omega
    exact (unch b (Nat.lt_of_lt_of_le hb h.sz) (fun hh => hnC (hotC b hh)) fun e => hnC (e ▸ h.cl)).trans (h.same b hb hc)
end
end Go.Proofs.Ytlfkllmnekdghaa

